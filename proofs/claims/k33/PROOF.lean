import PyProof.Rows.All
import Wide.All
import OpenK.AllK
import Wide.FinOn
import Lean
import PyProof.EqAt
import PyProof.EqKinds
import PyProof.TupleCall
import PySem.Challenge.RW_nearposts_k33_whole_squares_turned
import KE.KMinKey
set_option Elab.async false
set_option linter.all false
set_option maxRecDepth 100000
set_option maxHeartbeats 4000000
set_option bootstrap.genMatcherCode false
set_option genSizeOf false
namespace L2
theorem o_A {P0 : Prop} {P1 : Prop} {G : Prop} (h : P0 ∧ P1) (f : P0 → P1 → G) : G := by
  obtain ⟨a0, a1⟩ := h
  exact f a0 a1
theorem o_AA {P0 : Prop} {P1 : Prop} {P2 : Prop} {G : Prop} (h : P0 ∧ P1 ∧ P2) (f : P0 → P1 → P2 → G) : G := by
  obtain ⟨a0, a1, a2⟩ := h
  exact f a0 a1 a2
theorem o_AAA {P0 : Prop} {P1 : Prop} {P2 : Prop} {P3 : Prop} {G : Prop} (h : P0 ∧ P1 ∧ P2 ∧ P3) (f : P0 → P1 → P2 → P3 → G) : G := by
  obtain ⟨a0, a1, a2, a3⟩ := h
  exact f a0 a1 a2 a3
theorem o_AAAA {P0 : Prop} {P1 : Prop} {P2 : Prop} {P3 : Prop} {P4 : Prop} {G : Prop} (h : P0 ∧ P1 ∧ P2 ∧ P3 ∧ P4) (f : P0 → P1 → P2 → P3 → P4 → G) : G := by
  obtain ⟨a0, a1, a2, a3, a4⟩ := h
  exact f a0 a1 a2 a3 a4
theorem o_AAAAA {P0 : Prop} {P1 : Prop} {P2 : Prop} {P3 : Prop} {P4 : Prop} {P5 : Prop} {G : Prop} (h : P0 ∧ P1 ∧ P2 ∧ P3 ∧ P4 ∧ P5) (f : P0 → P1 → P2 → P3 → P4 → P5 → G) : G := by
  obtain ⟨a0, a1, a2, a3, a4, a5⟩ := h
  exact f a0 a1 a2 a3 a4 a5
theorem o_AAAEEA {T0 : Sort _} {T1 : Sort _} {P0 : Prop} {P1 : Prop} {P2 : Prop} {P3 : T0 → T1 → Prop} {P4 : T0 → T1 → Prop} {G : Prop} (h : P0 ∧ P1 ∧ P2 ∧ ∃ x0, ∃ x1, P3 x0 x1 ∧ P4 x0 x1) (f : P0 → P1 → P2 → ∀ x0, ∀ x1, P3 x0 x1 → P4 x0 x1 → G) : G := by
  obtain ⟨a0, a1, a2, a3, a4, a5, a6⟩ := h
  exact f a0 a1 a2 a3 a4 a5 a6
theorem o_AAEAEEEA {T0 : Sort _} {T1 : Sort _} {T2 : Sort _} {T3 : Sort _} {P0 : Prop} {P1 : Prop} {P2 : T0 → Prop} {P3 : T0 → T1 → T2 → T3 → Prop} {P4 : T0 → T1 → T2 → T3 → Prop} {G : Prop} (h : P0 ∧ P1 ∧ ∃ x0, P2 x0 ∧ ∃ x1, ∃ x2, ∃ x3, P3 x0 x1 x2 x3 ∧ P4 x0 x1 x2 x3) (f : P0 → P1 → ∀ x0, P2 x0 → ∀ x1, ∀ x2, ∀ x3, P3 x0 x1 x2 x3 → P4 x0 x1 x2 x3 → G) : G := by
  obtain ⟨a0, a1, a2, a3, a4, a5, a6, a7, a8⟩ := h
  exact f a0 a1 a2 a3 a4 a5 a6 a7 a8
theorem o_AAEAEEEAA {T0 : Sort _} {T1 : Sort _} {T2 : Sort _} {T3 : Sort _} {P0 : Prop} {P1 : Prop} {P2 : T0 → Prop} {P3 : T0 → T1 → T2 → T3 → Prop} {P4 : T0 → T1 → T2 → T3 → Prop} {P5 : T0 → T1 → T2 → T3 → Prop} {G : Prop} (h : P0 ∧ P1 ∧ ∃ x0, P2 x0 ∧ ∃ x1, ∃ x2, ∃ x3, P3 x0 x1 x2 x3 ∧ P4 x0 x1 x2 x3 ∧ P5 x0 x1 x2 x3) (f : P0 → P1 → ∀ x0, P2 x0 → ∀ x1, ∀ x2, ∀ x3, P3 x0 x1 x2 x3 → P4 x0 x1 x2 x3 → P5 x0 x1 x2 x3 → G) : G := by
  obtain ⟨a0, a1, a2, a3, a4, a5, a6, a7, a8, a9⟩ := h
  exact f a0 a1 a2 a3 a4 a5 a6 a7 a8 a9
theorem o_AEA {T0 : Sort _} {P0 : Prop} {P1 : T0 → Prop} {P2 : T0 → Prop} {G : Prop} (h : P0 ∧ ∃ x0, P1 x0 ∧ P2 x0) (f : P0 → ∀ x0, P1 x0 → P2 x0 → G) : G := by
  obtain ⟨a0, a1, a2, a3⟩ := h
  exact f a0 a1 a2 a3
theorem o_AEEA {T0 : Sort _} {T1 : Sort _} {P0 : Prop} {P1 : T0 → T1 → Prop} {P2 : T0 → T1 → Prop} {G : Prop} (h : P0 ∧ ∃ x0, ∃ x1, P1 x0 x1 ∧ P2 x0 x1) (f : P0 → ∀ x0, ∀ x1, P1 x0 x1 → P2 x0 x1 → G) : G := by
  obtain ⟨a0, a1, a2, a3, a4⟩ := h
  exact f a0 a1 a2 a3 a4
theorem o_AEEAA {T0 : Sort _} {T1 : Sort _} {P0 : Prop} {P1 : T0 → T1 → Prop} {P2 : T0 → T1 → Prop} {P3 : T0 → T1 → Prop} {G : Prop} (h : P0 ∧ ∃ x0, ∃ x1, P1 x0 x1 ∧ P2 x0 x1 ∧ P3 x0 x1) (f : P0 → ∀ x0, ∀ x1, P1 x0 x1 → P2 x0 x1 → P3 x0 x1 → G) : G := by
  obtain ⟨a0, a1, a2, a3, a4, a5⟩ := h
  exact f a0 a1 a2 a3 a4 a5
theorem o_E {T0 : Sort _} {P0 : T0 → Prop} {G : Prop} (h : ∃ x0, P0 x0) (f : ∀ x0, P0 x0 → G) : G := by
  obtain ⟨a0, a1⟩ := h
  exact f a0 a1
theorem o_EA {T0 : Sort _} {P0 : T0 → Prop} {P1 : T0 → Prop} {G : Prop} (h : ∃ x0, P0 x0 ∧ P1 x0) (f : ∀ x0, P0 x0 → P1 x0 → G) : G := by
  obtain ⟨a0, a1, a2⟩ := h
  exact f a0 a1 a2
theorem o_EAA {T0 : Sort _} {P0 : T0 → Prop} {P1 : T0 → Prop} {P2 : T0 → Prop} {G : Prop} (h : ∃ x0, P0 x0 ∧ P1 x0 ∧ P2 x0) (f : ∀ x0, P0 x0 → P1 x0 → P2 x0 → G) : G := by
  obtain ⟨a0, a1, a2, a3⟩ := h
  exact f a0 a1 a2 a3
theorem o_EAAA {T0 : Sort _} {P0 : T0 → Prop} {P1 : T0 → Prop} {P2 : T0 → Prop} {P3 : T0 → Prop} {G : Prop} (h : ∃ x0, P0 x0 ∧ P1 x0 ∧ P2 x0 ∧ P3 x0) (f : ∀ x0, P0 x0 → P1 x0 → P2 x0 → P3 x0 → G) : G := by
  obtain ⟨a0, a1, a2, a3, a4⟩ := h
  exact f a0 a1 a2 a3 a4
theorem o_EAAAA {T0 : Sort _} {P0 : T0 → Prop} {P1 : T0 → Prop} {P2 : T0 → Prop} {P3 : T0 → Prop} {P4 : T0 → Prop} {G : Prop} (h : ∃ x0, P0 x0 ∧ P1 x0 ∧ P2 x0 ∧ P3 x0 ∧ P4 x0) (f : ∀ x0, P0 x0 → P1 x0 → P2 x0 → P3 x0 → P4 x0 → G) : G := by
  obtain ⟨a0, a1, a2, a3, a4, a5⟩ := h
  exact f a0 a1 a2 a3 a4 a5
theorem o_EAE {T0 : Sort _} {T1 : Sort _} {P0 : T0 → Prop} {P1 : T0 → T1 → Prop} {G : Prop} (h : ∃ x0, P0 x0 ∧ ∃ x1, P1 x0 x1) (f : ∀ x0, P0 x0 → ∀ x1, P1 x0 x1 → G) : G := by
  obtain ⟨a0, a1, a2, a3⟩ := h
  exact f a0 a1 a2 a3
theorem o_EEA {T0 : Sort _} {T1 : Sort _} {P0 : T0 → T1 → Prop} {P1 : T0 → T1 → Prop} {G : Prop} (h : ∃ x0, ∃ x1, P0 x0 x1 ∧ P1 x0 x1) (f : ∀ x0, ∀ x1, P0 x0 x1 → P1 x0 x1 → G) : G := by
  obtain ⟨a0, a1, a2, a3⟩ := h
  exact f a0 a1 a2 a3
theorem o_EEAA {T0 : Sort _} {T1 : Sort _} {P0 : T0 → T1 → Prop} {P1 : T0 → T1 → Prop} {P2 : T0 → T1 → Prop} {G : Prop} (h : ∃ x0, ∃ x1, P0 x0 x1 ∧ P1 x0 x1 ∧ P2 x0 x1) (f : ∀ x0, ∀ x1, P0 x0 x1 → P1 x0 x1 → P2 x0 x1 → G) : G := by
  obtain ⟨a0, a1, a2, a3, a4⟩ := h
  exact f a0 a1 a2 a3 a4
theorem o_EEAAA {T0 : Sort _} {T1 : Sort _} {P0 : T0 → T1 → Prop} {P1 : T0 → T1 → Prop} {P2 : T0 → T1 → Prop} {P3 : T0 → T1 → Prop} {G : Prop} (h : ∃ x0, ∃ x1, P0 x0 x1 ∧ P1 x0 x1 ∧ P2 x0 x1 ∧ P3 x0 x1) (f : ∀ x0, ∀ x1, P0 x0 x1 → P1 x0 x1 → P2 x0 x1 → P3 x0 x1 → G) : G := by
  obtain ⟨a0, a1, a2, a3, a4, a5⟩ := h
  exact f a0 a1 a2 a3 a4 a5
theorem o_EEAAAA {T0 : Sort _} {T1 : Sort _} {P0 : T0 → T1 → Prop} {P1 : T0 → T1 → Prop} {P2 : T0 → T1 → Prop} {P3 : T0 → T1 → Prop} {P4 : T0 → T1 → Prop} {G : Prop} (h : ∃ x0, ∃ x1, P0 x0 x1 ∧ P1 x0 x1 ∧ P2 x0 x1 ∧ P3 x0 x1 ∧ P4 x0 x1) (f : ∀ x0, ∀ x1, P0 x0 x1 → P1 x0 x1 → P2 x0 x1 → P3 x0 x1 → P4 x0 x1 → G) : G := by
  obtain ⟨a0, a1, a2, a3, a4, a5, a6⟩ := h
  exact f a0 a1 a2 a3 a4 a5 a6
theorem o_EEAAAAA {T0 : Sort _} {T1 : Sort _} {P0 : T0 → T1 → Prop} {P1 : T0 → T1 → Prop} {P2 : T0 → T1 → Prop} {P3 : T0 → T1 → Prop} {P4 : T0 → T1 → Prop} {P5 : T0 → T1 → Prop} {G : Prop} (h : ∃ x0, ∃ x1, P0 x0 x1 ∧ P1 x0 x1 ∧ P2 x0 x1 ∧ P3 x0 x1 ∧ P4 x0 x1 ∧ P5 x0 x1) (f : ∀ x0, ∀ x1, P0 x0 x1 → P1 x0 x1 → P2 x0 x1 → P3 x0 x1 → P4 x0 x1 → P5 x0 x1 → G) : G := by
  obtain ⟨a0, a1, a2, a3, a4, a5, a6, a7⟩ := h
  exact f a0 a1 a2 a3 a4 a5 a6 a7
theorem o_EEEA {T0 : Sort _} {T1 : Sort _} {T2 : Sort _} {P0 : T0 → T1 → T2 → Prop} {P1 : T0 → T1 → T2 → Prop} {G : Prop} (h : ∃ x0, ∃ x1, ∃ x2, P0 x0 x1 x2 ∧ P1 x0 x1 x2) (f : ∀ x0, ∀ x1, ∀ x2, P0 x0 x1 x2 → P1 x0 x1 x2 → G) : G := by
  obtain ⟨a0, a1, a2, a3, a4⟩ := h
  exact f a0 a1 a2 a3 a4
theorem o_EEEAA {T0 : Sort _} {T1 : Sort _} {T2 : Sort _} {P0 : T0 → T1 → T2 → Prop} {P1 : T0 → T1 → T2 → Prop} {P2 : T0 → T1 → T2 → Prop} {G : Prop} (h : ∃ x0, ∃ x1, ∃ x2, P0 x0 x1 x2 ∧ P1 x0 x1 x2 ∧ P2 x0 x1 x2) (f : ∀ x0, ∀ x1, ∀ x2, P0 x0 x1 x2 → P1 x0 x1 x2 → P2 x0 x1 x2 → G) : G := by
  obtain ⟨a0, a1, a2, a3, a4, a5⟩ := h
  exact f a0 a1 a2 a3 a4 a5
theorem o_EEEAAA {T0 : Sort _} {T1 : Sort _} {T2 : Sort _} {P0 : T0 → T1 → T2 → Prop} {P1 : T0 → T1 → T2 → Prop} {P2 : T0 → T1 → T2 → Prop} {P3 : T0 → T1 → T2 → Prop} {G : Prop} (h : ∃ x0, ∃ x1, ∃ x2, P0 x0 x1 x2 ∧ P1 x0 x1 x2 ∧ P2 x0 x1 x2 ∧ P3 x0 x1 x2) (f : ∀ x0, ∀ x1, ∀ x2, P0 x0 x1 x2 → P1 x0 x1 x2 → P2 x0 x1 x2 → P3 x0 x1 x2 → G) : G := by
  obtain ⟨a0, a1, a2, a3, a4, a5, a6⟩ := h
  exact f a0 a1 a2 a3 a4 a5 a6
theorem o_EEEAAAA {T0 : Sort _} {T1 : Sort _} {T2 : Sort _} {P0 : T0 → T1 → T2 → Prop} {P1 : T0 → T1 → T2 → Prop} {P2 : T0 → T1 → T2 → Prop} {P3 : T0 → T1 → T2 → Prop} {P4 : T0 → T1 → T2 → Prop} {G : Prop} (h : ∃ x0, ∃ x1, ∃ x2, P0 x0 x1 x2 ∧ P1 x0 x1 x2 ∧ P2 x0 x1 x2 ∧ P3 x0 x1 x2 ∧ P4 x0 x1 x2) (f : ∀ x0, ∀ x1, ∀ x2, P0 x0 x1 x2 → P1 x0 x1 x2 → P2 x0 x1 x2 → P3 x0 x1 x2 → P4 x0 x1 x2 → G) : G := by
  obtain ⟨a0, a1, a2, a3, a4, a5, a6, a7⟩ := h
  exact f a0 a1 a2 a3 a4 a5 a6 a7
theorem o_EEEEA {T0 : Sort _} {T1 : Sort _} {T2 : Sort _} {T3 : Sort _} {P0 : T0 → T1 → T2 → T3 → Prop} {P1 : T0 → T1 → T2 → T3 → Prop} {G : Prop} (h : ∃ x0, ∃ x1, ∃ x2, ∃ x3, P0 x0 x1 x2 x3 ∧ P1 x0 x1 x2 x3) (f : ∀ x0, ∀ x1, ∀ x2, ∀ x3, P0 x0 x1 x2 x3 → P1 x0 x1 x2 x3 → G) : G := by
  obtain ⟨a0, a1, a2, a3, a4, a5⟩ := h
  exact f a0 a1 a2 a3 a4 a5
theorem o_EEEEAA {T0 : Sort _} {T1 : Sort _} {T2 : Sort _} {T3 : Sort _} {P0 : T0 → T1 → T2 → T3 → Prop} {P1 : T0 → T1 → T2 → T3 → Prop} {P2 : T0 → T1 → T2 → T3 → Prop} {G : Prop} (h : ∃ x0, ∃ x1, ∃ x2, ∃ x3, P0 x0 x1 x2 x3 ∧ P1 x0 x1 x2 x3 ∧ P2 x0 x1 x2 x3) (f : ∀ x0, ∀ x1, ∀ x2, ∀ x3, P0 x0 x1 x2 x3 → P1 x0 x1 x2 x3 → P2 x0 x1 x2 x3 → G) : G := by
  obtain ⟨a0, a1, a2, a3, a4, a5, a6⟩ := h
  exact f a0 a1 a2 a3 a4 a5 a6
theorem o_EEEEAAA {T0 : Sort _} {T1 : Sort _} {T2 : Sort _} {T3 : Sort _} {P0 : T0 → T1 → T2 → T3 → Prop} {P1 : T0 → T1 → T2 → T3 → Prop} {P2 : T0 → T1 → T2 → T3 → Prop} {P3 : T0 → T1 → T2 → T3 → Prop} {G : Prop} (h : ∃ x0, ∃ x1, ∃ x2, ∃ x3, P0 x0 x1 x2 x3 ∧ P1 x0 x1 x2 x3 ∧ P2 x0 x1 x2 x3 ∧ P3 x0 x1 x2 x3) (f : ∀ x0, ∀ x1, ∀ x2, ∀ x3, P0 x0 x1 x2 x3 → P1 x0 x1 x2 x3 → P2 x0 x1 x2 x3 → P3 x0 x1 x2 x3 → G) : G := by
  obtain ⟨a0, a1, a2, a3, a4, a5, a6, a7⟩ := h
  exact f a0 a1 a2 a3 a4 a5 a6 a7
theorem o_EEEEAAAA {T0 : Sort _} {T1 : Sort _} {T2 : Sort _} {T3 : Sort _} {P0 : T0 → T1 → T2 → T3 → Prop} {P1 : T0 → T1 → T2 → T3 → Prop} {P2 : T0 → T1 → T2 → T3 → Prop} {P3 : T0 → T1 → T2 → T3 → Prop} {P4 : T0 → T1 → T2 → T3 → Prop} {G : Prop} (h : ∃ x0, ∃ x1, ∃ x2, ∃ x3, P0 x0 x1 x2 x3 ∧ P1 x0 x1 x2 x3 ∧ P2 x0 x1 x2 x3 ∧ P3 x0 x1 x2 x3 ∧ P4 x0 x1 x2 x3) (f : ∀ x0, ∀ x1, ∀ x2, ∀ x3, P0 x0 x1 x2 x3 → P1 x0 x1 x2 x3 → P2 x0 x1 x2 x3 → P3 x0 x1 x2 x3 → P4 x0 x1 x2 x3 → G) : G := by
  obtain ⟨a0, a1, a2, a3, a4, a5, a6, a7, a8⟩ := h
  exact f a0 a1 a2 a3 a4 a5 a6 a7 a8
theorem o_EEEEAAAAA {T0 : Sort _} {T1 : Sort _} {T2 : Sort _} {T3 : Sort _} {P0 : T0 → T1 → T2 → T3 → Prop} {P1 : T0 → T1 → T2 → T3 → Prop} {P2 : T0 → T1 → T2 → T3 → Prop} {P3 : T0 → T1 → T2 → T3 → Prop} {P4 : T0 → T1 → T2 → T3 → Prop} {P5 : T0 → T1 → T2 → T3 → Prop} {G : Prop} (h : ∃ x0, ∃ x1, ∃ x2, ∃ x3, P0 x0 x1 x2 x3 ∧ P1 x0 x1 x2 x3 ∧ P2 x0 x1 x2 x3 ∧ P3 x0 x1 x2 x3 ∧ P4 x0 x1 x2 x3 ∧ P5 x0 x1 x2 x3) (f : ∀ x0, ∀ x1, ∀ x2, ∀ x3, P0 x0 x1 x2 x3 → P1 x0 x1 x2 x3 → P2 x0 x1 x2 x3 → P3 x0 x1 x2 x3 → P4 x0 x1 x2 x3 → P5 x0 x1 x2 x3 → G) : G := by
  obtain ⟨a0, a1, a2, a3, a4, a5, a6, a7, a8, a9⟩ := h
  exact f a0 a1 a2 a3 a4 a5 a6 a7 a8 a9
theorem o_EEEEAAAAAA {T0 : Sort _} {T1 : Sort _} {T2 : Sort _} {T3 : Sort _} {P0 : T0 → T1 → T2 → T3 → Prop} {P1 : T0 → T1 → T2 → T3 → Prop} {P2 : T0 → T1 → T2 → T3 → Prop} {P3 : T0 → T1 → T2 → T3 → Prop} {P4 : T0 → T1 → T2 → T3 → Prop} {P5 : T0 → T1 → T2 → T3 → Prop} {P6 : T0 → T1 → T2 → T3 → Prop} {G : Prop} (h : ∃ x0, ∃ x1, ∃ x2, ∃ x3, P0 x0 x1 x2 x3 ∧ P1 x0 x1 x2 x3 ∧ P2 x0 x1 x2 x3 ∧ P3 x0 x1 x2 x3 ∧ P4 x0 x1 x2 x3 ∧ P5 x0 x1 x2 x3 ∧ P6 x0 x1 x2 x3) (f : ∀ x0, ∀ x1, ∀ x2, ∀ x3, P0 x0 x1 x2 x3 → P1 x0 x1 x2 x3 → P2 x0 x1 x2 x3 → P3 x0 x1 x2 x3 → P4 x0 x1 x2 x3 → P5 x0 x1 x2 x3 → P6 x0 x1 x2 x3 → G) : G := by
  obtain ⟨a0, a1, a2, a3, a4, a5, a6, a7, a8, a9, a10⟩ := h
  exact f a0 a1 a2 a3 a4 a5 a6 a7 a8 a9 a10
theorem o_EEEEEAAAAA {T0 : Sort _} {T1 : Sort _} {T2 : Sort _} {T3 : Sort _} {T4 : Sort _} {P0 : T0 → T1 → T2 → T3 → T4 → Prop} {P1 : T0 → T1 → T2 → T3 → T4 → Prop} {P2 : T0 → T1 → T2 → T3 → T4 → Prop} {P3 : T0 → T1 → T2 → T3 → T4 → Prop} {P4 : T0 → T1 → T2 → T3 → T4 → Prop} {P5 : T0 → T1 → T2 → T3 → T4 → Prop} {G : Prop} (h : ∃ x0, ∃ x1, ∃ x2, ∃ x3, ∃ x4, P0 x0 x1 x2 x3 x4 ∧ P1 x0 x1 x2 x3 x4 ∧ P2 x0 x1 x2 x3 x4 ∧ P3 x0 x1 x2 x3 x4 ∧ P4 x0 x1 x2 x3 x4 ∧ P5 x0 x1 x2 x3 x4) (f : ∀ x0, ∀ x1, ∀ x2, ∀ x3, ∀ x4, P0 x0 x1 x2 x3 x4 → P1 x0 x1 x2 x3 x4 → P2 x0 x1 x2 x3 x4 → P3 x0 x1 x2 x3 x4 → P4 x0 x1 x2 x3 x4 → P5 x0 x1 x2 x3 x4 → G) : G := by
  obtain ⟨a0, a1, a2, a3, a4, a5, a6, a7, a8, a9, a10⟩ := h
  exact f a0 a1 a2 a3 a4 a5 a6 a7 a8 a9 a10
theorem o_EEEEEEAA {T0 : Sort _} {T1 : Sort _} {T2 : Sort _} {T3 : Sort _} {T4 : Sort _} {T5 : Sort _} {P0 : T0 → T1 → T2 → T3 → T4 → T5 → Prop} {P1 : T0 → T1 → T2 → T3 → T4 → T5 → Prop} {P2 : T0 → T1 → T2 → T3 → T4 → T5 → Prop} {G : Prop} (h : ∃ x0, ∃ x1, ∃ x2, ∃ x3, ∃ x4, ∃ x5, P0 x0 x1 x2 x3 x4 x5 ∧ P1 x0 x1 x2 x3 x4 x5 ∧ P2 x0 x1 x2 x3 x4 x5) (f : ∀ x0, ∀ x1, ∀ x2, ∀ x3, ∀ x4, ∀ x5, P0 x0 x1 x2 x3 x4 x5 → P1 x0 x1 x2 x3 x4 x5 → P2 x0 x1 x2 x3 x4 x5 → G) : G := by
  obtain ⟨a0, a1, a2, a3, a4, a5, a6, a7, a8⟩ := h
  exact f a0 a1 a2 a3 a4 a5 a6 a7 a8
theorem o_EEEEEEAAA {T0 : Sort _} {T1 : Sort _} {T2 : Sort _} {T3 : Sort _} {T4 : Sort _} {T5 : Sort _} {P0 : T0 → T1 → T2 → T3 → T4 → T5 → Prop} {P1 : T0 → T1 → T2 → T3 → T4 → T5 → Prop} {P2 : T0 → T1 → T2 → T3 → T4 → T5 → Prop} {P3 : T0 → T1 → T2 → T3 → T4 → T5 → Prop} {G : Prop} (h : ∃ x0, ∃ x1, ∃ x2, ∃ x3, ∃ x4, ∃ x5, P0 x0 x1 x2 x3 x4 x5 ∧ P1 x0 x1 x2 x3 x4 x5 ∧ P2 x0 x1 x2 x3 x4 x5 ∧ P3 x0 x1 x2 x3 x4 x5) (f : ∀ x0, ∀ x1, ∀ x2, ∀ x3, ∀ x4, ∀ x5, P0 x0 x1 x2 x3 x4 x5 → P1 x0 x1 x2 x3 x4 x5 → P2 x0 x1 x2 x3 x4 x5 → P3 x0 x1 x2 x3 x4 x5 → G) : G := by
  obtain ⟨a0, a1, a2, a3, a4, a5, a6, a7, a8, a9⟩ := h
  exact f a0 a1 a2 a3 a4 a5 a6 a7 a8 a9
theorem o_EEEEEEEAAAAA {T0 : Sort _} {T1 : Sort _} {T2 : Sort _} {T3 : Sort _} {T4 : Sort _} {T5 : Sort _} {T6 : Sort _} {P0 : T0 → T1 → T2 → T3 → T4 → T5 → T6 → Prop} {P1 : T0 → T1 → T2 → T3 → T4 → T5 → T6 → Prop} {P2 : T0 → T1 → T2 → T3 → T4 → T5 → T6 → Prop} {P3 : T0 → T1 → T2 → T3 → T4 → T5 → T6 → Prop} {P4 : T0 → T1 → T2 → T3 → T4 → T5 → T6 → Prop} {P5 : T0 → T1 → T2 → T3 → T4 → T5 → T6 → Prop} {G : Prop} (h : ∃ x0, ∃ x1, ∃ x2, ∃ x3, ∃ x4, ∃ x5, ∃ x6, P0 x0 x1 x2 x3 x4 x5 x6 ∧ P1 x0 x1 x2 x3 x4 x5 x6 ∧ P2 x0 x1 x2 x3 x4 x5 x6 ∧ P3 x0 x1 x2 x3 x4 x5 x6 ∧ P4 x0 x1 x2 x3 x4 x5 x6 ∧ P5 x0 x1 x2 x3 x4 x5 x6) (f : ∀ x0, ∀ x1, ∀ x2, ∀ x3, ∀ x4, ∀ x5, ∀ x6, P0 x0 x1 x2 x3 x4 x5 x6 → P1 x0 x1 x2 x3 x4 x5 x6 → P2 x0 x1 x2 x3 x4 x5 x6 → P3 x0 x1 x2 x3 x4 x5 x6 → P4 x0 x1 x2 x3 x4 x5 x6 → P5 x0 x1 x2 x3 x4 x5 x6 → G) : G := by
  obtain ⟨a0, a1, a2, a3, a4, a5, a6, a7, a8, a9, a10, a11, a12⟩ := h
  exact f a0 a1 a2 a3 a4 a5 a6 a7 a8 a9 a10 a11 a12
theorem o_EEEEEEEEAA {T0 : Sort _} {T1 : Sort _} {T2 : Sort _} {T3 : Sort _} {T4 : Sort _} {T5 : Sort _} {T6 : Sort _} {T7 : Sort _} {P0 : T0 → T1 → T2 → T3 → T4 → T5 → T6 → T7 → Prop} {P1 : T0 → T1 → T2 → T3 → T4 → T5 → T6 → T7 → Prop} {P2 : T0 → T1 → T2 → T3 → T4 → T5 → T6 → T7 → Prop} {G : Prop} (h : ∃ x0, ∃ x1, ∃ x2, ∃ x3, ∃ x4, ∃ x5, ∃ x6, ∃ x7, P0 x0 x1 x2 x3 x4 x5 x6 x7 ∧ P1 x0 x1 x2 x3 x4 x5 x6 x7 ∧ P2 x0 x1 x2 x3 x4 x5 x6 x7) (f : ∀ x0, ∀ x1, ∀ x2, ∀ x3, ∀ x4, ∀ x5, ∀ x6, ∀ x7, P0 x0 x1 x2 x3 x4 x5 x6 x7 → P1 x0 x1 x2 x3 x4 x5 x6 x7 → P2 x0 x1 x2 x3 x4 x5 x6 x7 → G) : G := by
  obtain ⟨a0, a1, a2, a3, a4, a5, a6, a7, a8, a9, a10⟩ := h
  exact f a0 a1 a2 a3 a4 a5 a6 a7 a8 a9 a10
theorem o_EEEEEEEEAAA {T0 : Sort _} {T1 : Sort _} {T2 : Sort _} {T3 : Sort _} {T4 : Sort _} {T5 : Sort _} {T6 : Sort _} {T7 : Sort _} {P0 : T0 → T1 → T2 → T3 → T4 → T5 → T6 → T7 → Prop} {P1 : T0 → T1 → T2 → T3 → T4 → T5 → T6 → T7 → Prop} {P2 : T0 → T1 → T2 → T3 → T4 → T5 → T6 → T7 → Prop} {P3 : T0 → T1 → T2 → T3 → T4 → T5 → T6 → T7 → Prop} {G : Prop} (h : ∃ x0, ∃ x1, ∃ x2, ∃ x3, ∃ x4, ∃ x5, ∃ x6, ∃ x7, P0 x0 x1 x2 x3 x4 x5 x6 x7 ∧ P1 x0 x1 x2 x3 x4 x5 x6 x7 ∧ P2 x0 x1 x2 x3 x4 x5 x6 x7 ∧ P3 x0 x1 x2 x3 x4 x5 x6 x7) (f : ∀ x0, ∀ x1, ∀ x2, ∀ x3, ∀ x4, ∀ x5, ∀ x6, ∀ x7, P0 x0 x1 x2 x3 x4 x5 x6 x7 → P1 x0 x1 x2 x3 x4 x5 x6 x7 → P2 x0 x1 x2 x3 x4 x5 x6 x7 → P3 x0 x1 x2 x3 x4 x5 x6 x7 → G) : G := by
  obtain ⟨a0, a1, a2, a3, a4, a5, a6, a7, a8, a9, a10, a11⟩ := h
  exact f a0 a1 a2 a3 a4 a5 a6 a7 a8 a9 a10 a11
theorem o_EEEEEEEEEA {T0 : Sort _} {T1 : Sort _} {T2 : Sort _} {T3 : Sort _} {T4 : Sort _} {T5 : Sort _} {T6 : Sort _} {T7 : Sort _} {T8 : Sort _} {P0 : T0 → T1 → T2 → T3 → T4 → T5 → T6 → T7 → T8 → Prop} {P1 : T0 → T1 → T2 → T3 → T4 → T5 → T6 → T7 → T8 → Prop} {G : Prop} (h : ∃ x0, ∃ x1, ∃ x2, ∃ x3, ∃ x4, ∃ x5, ∃ x6, ∃ x7, ∃ x8, P0 x0 x1 x2 x3 x4 x5 x6 x7 x8 ∧ P1 x0 x1 x2 x3 x4 x5 x6 x7 x8) (f : ∀ x0, ∀ x1, ∀ x2, ∀ x3, ∀ x4, ∀ x5, ∀ x6, ∀ x7, ∀ x8, P0 x0 x1 x2 x3 x4 x5 x6 x7 x8 → P1 x0 x1 x2 x3 x4 x5 x6 x7 x8 → G) : G := by
  obtain ⟨a0, a1, a2, a3, a4, a5, a6, a7, a8, a9, a10⟩ := h
  exact f a0 a1 a2 a3 a4 a5 a6 a7 a8 a9 a10
theorem o_EEEEEEEEEAA {T0 : Sort _} {T1 : Sort _} {T2 : Sort _} {T3 : Sort _} {T4 : Sort _} {T5 : Sort _} {T6 : Sort _} {T7 : Sort _} {T8 : Sort _} {P0 : T0 → T1 → T2 → T3 → T4 → T5 → T6 → T7 → T8 → Prop} {P1 : T0 → T1 → T2 → T3 → T4 → T5 → T6 → T7 → T8 → Prop} {P2 : T0 → T1 → T2 → T3 → T4 → T5 → T6 → T7 → T8 → Prop} {G : Prop} (h : ∃ x0, ∃ x1, ∃ x2, ∃ x3, ∃ x4, ∃ x5, ∃ x6, ∃ x7, ∃ x8, P0 x0 x1 x2 x3 x4 x5 x6 x7 x8 ∧ P1 x0 x1 x2 x3 x4 x5 x6 x7 x8 ∧ P2 x0 x1 x2 x3 x4 x5 x6 x7 x8) (f : ∀ x0, ∀ x1, ∀ x2, ∀ x3, ∀ x4, ∀ x5, ∀ x6, ∀ x7, ∀ x8, P0 x0 x1 x2 x3 x4 x5 x6 x7 x8 → P1 x0 x1 x2 x3 x4 x5 x6 x7 x8 → P2 x0 x1 x2 x3 x4 x5 x6 x7 x8 → G) : G := by
  obtain ⟨a0, a1, a2, a3, a4, a5, a6, a7, a8, a9, a10, a11⟩ := h
  exact f a0 a1 a2 a3 a4 a5 a6 a7 a8 a9 a10 a11
theorem o_EEEEEEEEEAAAAAAA {T0 : Sort _} {T1 : Sort _} {T2 : Sort _} {T3 : Sort _} {T4 : Sort _} {T5 : Sort _} {T6 : Sort _} {T7 : Sort _} {T8 : Sort _} {P0 : T0 → T1 → T2 → T3 → T4 → T5 → T6 → T7 → T8 → Prop} {P1 : T0 → T1 → T2 → T3 → T4 → T5 → T6 → T7 → T8 → Prop} {P2 : T0 → T1 → T2 → T3 → T4 → T5 → T6 → T7 → T8 → Prop} {P3 : T0 → T1 → T2 → T3 → T4 → T5 → T6 → T7 → T8 → Prop} {P4 : T0 → T1 → T2 → T3 → T4 → T5 → T6 → T7 → T8 → Prop} {P5 : T0 → T1 → T2 → T3 → T4 → T5 → T6 → T7 → T8 → Prop} {P6 : T0 → T1 → T2 → T3 → T4 → T5 → T6 → T7 → T8 → Prop} {P7 : T0 → T1 → T2 → T3 → T4 → T5 → T6 → T7 → T8 → Prop} {G : Prop} (h : ∃ x0, ∃ x1, ∃ x2, ∃ x3, ∃ x4, ∃ x5, ∃ x6, ∃ x7, ∃ x8, P0 x0 x1 x2 x3 x4 x5 x6 x7 x8 ∧ P1 x0 x1 x2 x3 x4 x5 x6 x7 x8 ∧ P2 x0 x1 x2 x3 x4 x5 x6 x7 x8 ∧ P3 x0 x1 x2 x3 x4 x5 x6 x7 x8 ∧ P4 x0 x1 x2 x3 x4 x5 x6 x7 x8 ∧ P5 x0 x1 x2 x3 x4 x5 x6 x7 x8 ∧ P6 x0 x1 x2 x3 x4 x5 x6 x7 x8 ∧ P7 x0 x1 x2 x3 x4 x5 x6 x7 x8) (f : ∀ x0, ∀ x1, ∀ x2, ∀ x3, ∀ x4, ∀ x5, ∀ x6, ∀ x7, ∀ x8, P0 x0 x1 x2 x3 x4 x5 x6 x7 x8 → P1 x0 x1 x2 x3 x4 x5 x6 x7 x8 → P2 x0 x1 x2 x3 x4 x5 x6 x7 x8 → P3 x0 x1 x2 x3 x4 x5 x6 x7 x8 → P4 x0 x1 x2 x3 x4 x5 x6 x7 x8 → P5 x0 x1 x2 x3 x4 x5 x6 x7 x8 → P6 x0 x1 x2 x3 x4 x5 x6 x7 x8 → P7 x0 x1 x2 x3 x4 x5 x6 x7 x8 → G) : G := by
  obtain ⟨a0, a1, a2, a3, a4, a5, a6, a7, a8, a9, a10, a11, a12, a13, a14, a15, a16⟩ := h
  exact f a0 a1 a2 a3 a4 a5 a6 a7 a8 a9 a10 a11 a12 a13 a14 a15 a16
theorem i_AAAEEA {T0 : Sort _} {T1 : Sort _} {P0 : Prop} {P1 : Prop} {P2 : Prop} {P3 : T0 → T1 → Prop} {P4 : T0 → T1 → Prop} (p0 : P0) (p1 : P1) (p2 : P2) (x0 : T0) (x1 : T1) (p3 : P3 x0 x1) (p4 : P4 x0 x1) : P0 ∧ P1 ∧ P2 ∧ ∃ x0, ∃ x1, P3 x0 x1 ∧ P4 x0 x1 := ⟨p0, p1, p2, x0, x1, p3, p4⟩
theorem i_AAEAEEEA {T0 : Sort _} {T1 : Sort _} {T2 : Sort _} {T3 : Sort _} {P0 : Prop} {P1 : Prop} {P2 : T0 → Prop} {P3 : T0 → T1 → T2 → T3 → Prop} {P4 : T0 → T1 → T2 → T3 → Prop} (p0 : P0) (p1 : P1) (x0 : T0) (p2 : P2 x0) (x1 : T1) (x2 : T2) (x3 : T3) (p3 : P3 x0 x1 x2 x3) (p4 : P4 x0 x1 x2 x3) : P0 ∧ P1 ∧ ∃ x0, P2 x0 ∧ ∃ x1, ∃ x2, ∃ x3, P3 x0 x1 x2 x3 ∧ P4 x0 x1 x2 x3 := ⟨p0, p1, x0, p2, x1, x2, x3, p3, p4⟩
theorem i_AAEEA {T0 : Sort _} {T1 : Sort _} {P0 : Prop} {P1 : Prop} {P2 : T0 → T1 → Prop} {P3 : T0 → T1 → Prop} (p0 : P0) (p1 : P1) (x0 : T0) (x1 : T1) (p2 : P2 x0 x1) (p3 : P3 x0 x1) : P0 ∧ P1 ∧ ∃ x0, ∃ x1, P2 x0 x1 ∧ P3 x0 x1 := ⟨p0, p1, x0, x1, p2, p3⟩
theorem i_AEEA {T0 : Sort _} {T1 : Sort _} {P0 : Prop} {P1 : T0 → T1 → Prop} {P2 : T0 → T1 → Prop} (p0 : P0) (x0 : T0) (x1 : T1) (p1 : P1 x0 x1) (p2 : P2 x0 x1) : P0 ∧ ∃ x0, ∃ x1, P1 x0 x1 ∧ P2 x0 x1 := ⟨p0, x0, x1, p1, p2⟩
theorem i_AEEAA {T0 : Sort _} {T1 : Sort _} {P0 : Prop} {P1 : T0 → T1 → Prop} {P2 : T0 → T1 → Prop} {P3 : T0 → T1 → Prop} (p0 : P0) (x0 : T0) (x1 : T1) (p1 : P1 x0 x1) (p2 : P2 x0 x1) (p3 : P3 x0 x1) : P0 ∧ ∃ x0, ∃ x1, P1 x0 x1 ∧ P2 x0 x1 ∧ P3 x0 x1 := ⟨p0, x0, x1, p1, p2, p3⟩
theorem i_EAAEEEEAAAAAA {T0 : Sort _} {T1 : Sort _} {T2 : Sort _} {T3 : Sort _} {T4 : Sort _} {P0 : T0 → Prop} {P1 : T0 → Prop} {P2 : T0 → T1 → T2 → T3 → T4 → Prop} {P3 : T0 → T1 → T2 → T3 → T4 → Prop} {P4 : T0 → T1 → T2 → T3 → T4 → Prop} {P5 : T0 → T1 → T2 → T3 → T4 → Prop} {P6 : T0 → T1 → T2 → T3 → T4 → Prop} {P7 : T0 → T1 → T2 → T3 → T4 → Prop} {P8 : T0 → T1 → T2 → T3 → T4 → Prop} (x0 : T0) (p0 : P0 x0) (p1 : P1 x0) (x1 : T1) (x2 : T2) (x3 : T3) (x4 : T4) (p2 : P2 x0 x1 x2 x3 x4) (p3 : P3 x0 x1 x2 x3 x4) (p4 : P4 x0 x1 x2 x3 x4) (p5 : P5 x0 x1 x2 x3 x4) (p6 : P6 x0 x1 x2 x3 x4) (p7 : P7 x0 x1 x2 x3 x4) (p8 : P8 x0 x1 x2 x3 x4) : ∃ x0, P0 x0 ∧ P1 x0 ∧ ∃ x1, ∃ x2, ∃ x3, ∃ x4, P2 x0 x1 x2 x3 x4 ∧ P3 x0 x1 x2 x3 x4 ∧ P4 x0 x1 x2 x3 x4 ∧ P5 x0 x1 x2 x3 x4 ∧ P6 x0 x1 x2 x3 x4 ∧ P7 x0 x1 x2 x3 x4 ∧ P8 x0 x1 x2 x3 x4 := ⟨x0, p0, p1, x1, x2, x3, x4, p2, p3, p4, p5, p6, p7, p8⟩
theorem i_EAEEA {T0 : Sort _} {T1 : Sort _} {T2 : Sort _} {P0 : T0 → Prop} {P1 : T0 → T1 → T2 → Prop} {P2 : T0 → T1 → T2 → Prop} (x0 : T0) (p0 : P0 x0) (x1 : T1) (x2 : T2) (p1 : P1 x0 x1 x2) (p2 : P2 x0 x1 x2) : ∃ x0, P0 x0 ∧ ∃ x1, ∃ x2, P1 x0 x1 x2 ∧ P2 x0 x1 x2 := ⟨x0, p0, x1, x2, p1, p2⟩
theorem i_EAEEEAAA {T0 : Sort _} {T1 : Sort _} {T2 : Sort _} {T3 : Sort _} {P0 : T0 → Prop} {P1 : T0 → T1 → T2 → T3 → Prop} {P2 : T0 → T1 → T2 → T3 → Prop} {P3 : T0 → T1 → T2 → T3 → Prop} {P4 : T0 → T1 → T2 → T3 → Prop} (x0 : T0) (p0 : P0 x0) (x1 : T1) (x2 : T2) (x3 : T3) (p1 : P1 x0 x1 x2 x3) (p2 : P2 x0 x1 x2 x3) (p3 : P3 x0 x1 x2 x3) (p4 : P4 x0 x1 x2 x3) : ∃ x0, P0 x0 ∧ ∃ x1, ∃ x2, ∃ x3, P1 x0 x1 x2 x3 ∧ P2 x0 x1 x2 x3 ∧ P3 x0 x1 x2 x3 ∧ P4 x0 x1 x2 x3 := ⟨x0, p0, x1, x2, x3, p1, p2, p3, p4⟩
theorem i_EEA {T0 : Sort _} {T1 : Sort _} {P0 : T0 → T1 → Prop} {P1 : T0 → T1 → Prop} (x0 : T0) (x1 : T1) (p0 : P0 x0 x1) (p1 : P1 x0 x1) : ∃ x0, ∃ x1, P0 x0 x1 ∧ P1 x0 x1 := ⟨x0, x1, p0, p1⟩
theorem i_EEAA {T0 : Sort _} {T1 : Sort _} {P0 : T0 → T1 → Prop} {P1 : T0 → T1 → Prop} {P2 : T0 → T1 → Prop} (x0 : T0) (x1 : T1) (p0 : P0 x0 x1) (p1 : P1 x0 x1) (p2 : P2 x0 x1) : ∃ x0, ∃ x1, P0 x0 x1 ∧ P1 x0 x1 ∧ P2 x0 x1 := ⟨x0, x1, p0, p1, p2⟩
theorem i_EEAAA {T0 : Sort _} {T1 : Sort _} {P0 : T0 → T1 → Prop} {P1 : T0 → T1 → Prop} {P2 : T0 → T1 → Prop} {P3 : T0 → T1 → Prop} (x0 : T0) (x1 : T1) (p0 : P0 x0 x1) (p1 : P1 x0 x1) (p2 : P2 x0 x1) (p3 : P3 x0 x1) : ∃ x0, ∃ x1, P0 x0 x1 ∧ P1 x0 x1 ∧ P2 x0 x1 ∧ P3 x0 x1 := ⟨x0, x1, p0, p1, p2, p3⟩
theorem i_EEAAAA {T0 : Sort _} {T1 : Sort _} {P0 : T0 → T1 → Prop} {P1 : T0 → T1 → Prop} {P2 : T0 → T1 → Prop} {P3 : T0 → T1 → Prop} {P4 : T0 → T1 → Prop} (x0 : T0) (x1 : T1) (p0 : P0 x0 x1) (p1 : P1 x0 x1) (p2 : P2 x0 x1) (p3 : P3 x0 x1) (p4 : P4 x0 x1) : ∃ x0, ∃ x1, P0 x0 x1 ∧ P1 x0 x1 ∧ P2 x0 x1 ∧ P3 x0 x1 ∧ P4 x0 x1 := ⟨x0, x1, p0, p1, p2, p3, p4⟩
theorem i_EEAAAAA {T0 : Sort _} {T1 : Sort _} {P0 : T0 → T1 → Prop} {P1 : T0 → T1 → Prop} {P2 : T0 → T1 → Prop} {P3 : T0 → T1 → Prop} {P4 : T0 → T1 → Prop} {P5 : T0 → T1 → Prop} (x0 : T0) (x1 : T1) (p0 : P0 x0 x1) (p1 : P1 x0 x1) (p2 : P2 x0 x1) (p3 : P3 x0 x1) (p4 : P4 x0 x1) (p5 : P5 x0 x1) : ∃ x0, ∃ x1, P0 x0 x1 ∧ P1 x0 x1 ∧ P2 x0 x1 ∧ P3 x0 x1 ∧ P4 x0 x1 ∧ P5 x0 x1 := ⟨x0, x1, p0, p1, p2, p3, p4, p5⟩
theorem i_EEAAAAAAA {T0 : Sort _} {T1 : Sort _} {P0 : T0 → T1 → Prop} {P1 : T0 → T1 → Prop} {P2 : T0 → T1 → Prop} {P3 : T0 → T1 → Prop} {P4 : T0 → T1 → Prop} {P5 : T0 → T1 → Prop} {P6 : T0 → T1 → Prop} {P7 : T0 → T1 → Prop} (x0 : T0) (x1 : T1) (p0 : P0 x0 x1) (p1 : P1 x0 x1) (p2 : P2 x0 x1) (p3 : P3 x0 x1) (p4 : P4 x0 x1) (p5 : P5 x0 x1) (p6 : P6 x0 x1) (p7 : P7 x0 x1) : ∃ x0, ∃ x1, P0 x0 x1 ∧ P1 x0 x1 ∧ P2 x0 x1 ∧ P3 x0 x1 ∧ P4 x0 x1 ∧ P5 x0 x1 ∧ P6 x0 x1 ∧ P7 x0 x1 := ⟨x0, x1, p0, p1, p2, p3, p4, p5, p6, p7⟩
theorem i_EEEA {T0 : Sort _} {T1 : Sort _} {T2 : Sort _} {P0 : T0 → T1 → T2 → Prop} {P1 : T0 → T1 → T2 → Prop} (x0 : T0) (x1 : T1) (x2 : T2) (p0 : P0 x0 x1 x2) (p1 : P1 x0 x1 x2) : ∃ x0, ∃ x1, ∃ x2, P0 x0 x1 x2 ∧ P1 x0 x1 x2 := ⟨x0, x1, x2, p0, p1⟩
theorem i_EEEAA {T0 : Sort _} {T1 : Sort _} {T2 : Sort _} {P0 : T0 → T1 → T2 → Prop} {P1 : T0 → T1 → T2 → Prop} {P2 : T0 → T1 → T2 → Prop} (x0 : T0) (x1 : T1) (x2 : T2) (p0 : P0 x0 x1 x2) (p1 : P1 x0 x1 x2) (p2 : P2 x0 x1 x2) : ∃ x0, ∃ x1, ∃ x2, P0 x0 x1 x2 ∧ P1 x0 x1 x2 ∧ P2 x0 x1 x2 := ⟨x0, x1, x2, p0, p1, p2⟩
theorem i_EEEAAA {T0 : Sort _} {T1 : Sort _} {T2 : Sort _} {P0 : T0 → T1 → T2 → Prop} {P1 : T0 → T1 → T2 → Prop} {P2 : T0 → T1 → T2 → Prop} {P3 : T0 → T1 → T2 → Prop} (x0 : T0) (x1 : T1) (x2 : T2) (p0 : P0 x0 x1 x2) (p1 : P1 x0 x1 x2) (p2 : P2 x0 x1 x2) (p3 : P3 x0 x1 x2) : ∃ x0, ∃ x1, ∃ x2, P0 x0 x1 x2 ∧ P1 x0 x1 x2 ∧ P2 x0 x1 x2 ∧ P3 x0 x1 x2 := ⟨x0, x1, x2, p0, p1, p2, p3⟩
theorem i_EEEAAAA {T0 : Sort _} {T1 : Sort _} {T2 : Sort _} {P0 : T0 → T1 → T2 → Prop} {P1 : T0 → T1 → T2 → Prop} {P2 : T0 → T1 → T2 → Prop} {P3 : T0 → T1 → T2 → Prop} {P4 : T0 → T1 → T2 → Prop} (x0 : T0) (x1 : T1) (x2 : T2) (p0 : P0 x0 x1 x2) (p1 : P1 x0 x1 x2) (p2 : P2 x0 x1 x2) (p3 : P3 x0 x1 x2) (p4 : P4 x0 x1 x2) : ∃ x0, ∃ x1, ∃ x2, P0 x0 x1 x2 ∧ P1 x0 x1 x2 ∧ P2 x0 x1 x2 ∧ P3 x0 x1 x2 ∧ P4 x0 x1 x2 := ⟨x0, x1, x2, p0, p1, p2, p3, p4⟩
theorem i_EEEEAAAA {T0 : Sort _} {T1 : Sort _} {T2 : Sort _} {T3 : Sort _} {P0 : T0 → T1 → T2 → T3 → Prop} {P1 : T0 → T1 → T2 → T3 → Prop} {P2 : T0 → T1 → T2 → T3 → Prop} {P3 : T0 → T1 → T2 → T3 → Prop} {P4 : T0 → T1 → T2 → T3 → Prop} (x0 : T0) (x1 : T1) (x2 : T2) (x3 : T3) (p0 : P0 x0 x1 x2 x3) (p1 : P1 x0 x1 x2 x3) (p2 : P2 x0 x1 x2 x3) (p3 : P3 x0 x1 x2 x3) (p4 : P4 x0 x1 x2 x3) : ∃ x0, ∃ x1, ∃ x2, ∃ x3, P0 x0 x1 x2 x3 ∧ P1 x0 x1 x2 x3 ∧ P2 x0 x1 x2 x3 ∧ P3 x0 x1 x2 x3 ∧ P4 x0 x1 x2 x3 := ⟨x0, x1, x2, x3, p0, p1, p2, p3, p4⟩
theorem i_EEEEAAAAA {T0 : Sort _} {T1 : Sort _} {T2 : Sort _} {T3 : Sort _} {P0 : T0 → T1 → T2 → T3 → Prop} {P1 : T0 → T1 → T2 → T3 → Prop} {P2 : T0 → T1 → T2 → T3 → Prop} {P3 : T0 → T1 → T2 → T3 → Prop} {P4 : T0 → T1 → T2 → T3 → Prop} {P5 : T0 → T1 → T2 → T3 → Prop} (x0 : T0) (x1 : T1) (x2 : T2) (x3 : T3) (p0 : P0 x0 x1 x2 x3) (p1 : P1 x0 x1 x2 x3) (p2 : P2 x0 x1 x2 x3) (p3 : P3 x0 x1 x2 x3) (p4 : P4 x0 x1 x2 x3) (p5 : P5 x0 x1 x2 x3) : ∃ x0, ∃ x1, ∃ x2, ∃ x3, P0 x0 x1 x2 x3 ∧ P1 x0 x1 x2 x3 ∧ P2 x0 x1 x2 x3 ∧ P3 x0 x1 x2 x3 ∧ P4 x0 x1 x2 x3 ∧ P5 x0 x1 x2 x3 := ⟨x0, x1, x2, x3, p0, p1, p2, p3, p4, p5⟩
theorem i_EEEEAAAAAA {T0 : Sort _} {T1 : Sort _} {T2 : Sort _} {T3 : Sort _} {P0 : T0 → T1 → T2 → T3 → Prop} {P1 : T0 → T1 → T2 → T3 → Prop} {P2 : T0 → T1 → T2 → T3 → Prop} {P3 : T0 → T1 → T2 → T3 → Prop} {P4 : T0 → T1 → T2 → T3 → Prop} {P5 : T0 → T1 → T2 → T3 → Prop} {P6 : T0 → T1 → T2 → T3 → Prop} (x0 : T0) (x1 : T1) (x2 : T2) (x3 : T3) (p0 : P0 x0 x1 x2 x3) (p1 : P1 x0 x1 x2 x3) (p2 : P2 x0 x1 x2 x3) (p3 : P3 x0 x1 x2 x3) (p4 : P4 x0 x1 x2 x3) (p5 : P5 x0 x1 x2 x3) (p6 : P6 x0 x1 x2 x3) : ∃ x0, ∃ x1, ∃ x2, ∃ x3, P0 x0 x1 x2 x3 ∧ P1 x0 x1 x2 x3 ∧ P2 x0 x1 x2 x3 ∧ P3 x0 x1 x2 x3 ∧ P4 x0 x1 x2 x3 ∧ P5 x0 x1 x2 x3 ∧ P6 x0 x1 x2 x3 := ⟨x0, x1, x2, x3, p0, p1, p2, p3, p4, p5, p6⟩
theorem i_EEEEEAAAAA {T0 : Sort _} {T1 : Sort _} {T2 : Sort _} {T3 : Sort _} {T4 : Sort _} {P0 : T0 → T1 → T2 → T3 → T4 → Prop} {P1 : T0 → T1 → T2 → T3 → T4 → Prop} {P2 : T0 → T1 → T2 → T3 → T4 → Prop} {P3 : T0 → T1 → T2 → T3 → T4 → Prop} {P4 : T0 → T1 → T2 → T3 → T4 → Prop} {P5 : T0 → T1 → T2 → T3 → T4 → Prop} (x0 : T0) (x1 : T1) (x2 : T2) (x3 : T3) (x4 : T4) (p0 : P0 x0 x1 x2 x3 x4) (p1 : P1 x0 x1 x2 x3 x4) (p2 : P2 x0 x1 x2 x3 x4) (p3 : P3 x0 x1 x2 x3 x4) (p4 : P4 x0 x1 x2 x3 x4) (p5 : P5 x0 x1 x2 x3 x4) : ∃ x0, ∃ x1, ∃ x2, ∃ x3, ∃ x4, P0 x0 x1 x2 x3 x4 ∧ P1 x0 x1 x2 x3 x4 ∧ P2 x0 x1 x2 x3 x4 ∧ P3 x0 x1 x2 x3 x4 ∧ P4 x0 x1 x2 x3 x4 ∧ P5 x0 x1 x2 x3 x4 := ⟨x0, x1, x2, x3, x4, p0, p1, p2, p3, p4, p5⟩
theorem i_EEEEEEAA {T0 : Sort _} {T1 : Sort _} {T2 : Sort _} {T3 : Sort _} {T4 : Sort _} {T5 : Sort _} {P0 : T0 → T1 → T2 → T3 → T4 → T5 → Prop} {P1 : T0 → T1 → T2 → T3 → T4 → T5 → Prop} {P2 : T0 → T1 → T2 → T3 → T4 → T5 → Prop} (x0 : T0) (x1 : T1) (x2 : T2) (x3 : T3) (x4 : T4) (x5 : T5) (p0 : P0 x0 x1 x2 x3 x4 x5) (p1 : P1 x0 x1 x2 x3 x4 x5) (p2 : P2 x0 x1 x2 x3 x4 x5) : ∃ x0, ∃ x1, ∃ x2, ∃ x3, ∃ x4, ∃ x5, P0 x0 x1 x2 x3 x4 x5 ∧ P1 x0 x1 x2 x3 x4 x5 ∧ P2 x0 x1 x2 x3 x4 x5 := ⟨x0, x1, x2, x3, x4, x5, p0, p1, p2⟩
theorem i_EEEEEEAAA {T0 : Sort _} {T1 : Sort _} {T2 : Sort _} {T3 : Sort _} {T4 : Sort _} {T5 : Sort _} {P0 : T0 → T1 → T2 → T3 → T4 → T5 → Prop} {P1 : T0 → T1 → T2 → T3 → T4 → T5 → Prop} {P2 : T0 → T1 → T2 → T3 → T4 → T5 → Prop} {P3 : T0 → T1 → T2 → T3 → T4 → T5 → Prop} (x0 : T0) (x1 : T1) (x2 : T2) (x3 : T3) (x4 : T4) (x5 : T5) (p0 : P0 x0 x1 x2 x3 x4 x5) (p1 : P1 x0 x1 x2 x3 x4 x5) (p2 : P2 x0 x1 x2 x3 x4 x5) (p3 : P3 x0 x1 x2 x3 x4 x5) : ∃ x0, ∃ x1, ∃ x2, ∃ x3, ∃ x4, ∃ x5, P0 x0 x1 x2 x3 x4 x5 ∧ P1 x0 x1 x2 x3 x4 x5 ∧ P2 x0 x1 x2 x3 x4 x5 ∧ P3 x0 x1 x2 x3 x4 x5 := ⟨x0, x1, x2, x3, x4, x5, p0, p1, p2, p3⟩
theorem i_EEEEEEEAAAAA {T0 : Sort _} {T1 : Sort _} {T2 : Sort _} {T3 : Sort _} {T4 : Sort _} {T5 : Sort _} {T6 : Sort _} {P0 : T0 → T1 → T2 → T3 → T4 → T5 → T6 → Prop} {P1 : T0 → T1 → T2 → T3 → T4 → T5 → T6 → Prop} {P2 : T0 → T1 → T2 → T3 → T4 → T5 → T6 → Prop} {P3 : T0 → T1 → T2 → T3 → T4 → T5 → T6 → Prop} {P4 : T0 → T1 → T2 → T3 → T4 → T5 → T6 → Prop} {P5 : T0 → T1 → T2 → T3 → T4 → T5 → T6 → Prop} (x0 : T0) (x1 : T1) (x2 : T2) (x3 : T3) (x4 : T4) (x5 : T5) (x6 : T6) (p0 : P0 x0 x1 x2 x3 x4 x5 x6) (p1 : P1 x0 x1 x2 x3 x4 x5 x6) (p2 : P2 x0 x1 x2 x3 x4 x5 x6) (p3 : P3 x0 x1 x2 x3 x4 x5 x6) (p4 : P4 x0 x1 x2 x3 x4 x5 x6) (p5 : P5 x0 x1 x2 x3 x4 x5 x6) : ∃ x0, ∃ x1, ∃ x2, ∃ x3, ∃ x4, ∃ x5, ∃ x6, P0 x0 x1 x2 x3 x4 x5 x6 ∧ P1 x0 x1 x2 x3 x4 x5 x6 ∧ P2 x0 x1 x2 x3 x4 x5 x6 ∧ P3 x0 x1 x2 x3 x4 x5 x6 ∧ P4 x0 x1 x2 x3 x4 x5 x6 ∧ P5 x0 x1 x2 x3 x4 x5 x6 := ⟨x0, x1, x2, x3, x4, x5, x6, p0, p1, p2, p3, p4, p5⟩
theorem i_EEEEEEEEAA {T0 : Sort _} {T1 : Sort _} {T2 : Sort _} {T3 : Sort _} {T4 : Sort _} {T5 : Sort _} {T6 : Sort _} {T7 : Sort _} {P0 : T0 → T1 → T2 → T3 → T4 → T5 → T6 → T7 → Prop} {P1 : T0 → T1 → T2 → T3 → T4 → T5 → T6 → T7 → Prop} {P2 : T0 → T1 → T2 → T3 → T4 → T5 → T6 → T7 → Prop} (x0 : T0) (x1 : T1) (x2 : T2) (x3 : T3) (x4 : T4) (x5 : T5) (x6 : T6) (x7 : T7) (p0 : P0 x0 x1 x2 x3 x4 x5 x6 x7) (p1 : P1 x0 x1 x2 x3 x4 x5 x6 x7) (p2 : P2 x0 x1 x2 x3 x4 x5 x6 x7) : ∃ x0, ∃ x1, ∃ x2, ∃ x3, ∃ x4, ∃ x5, ∃ x6, ∃ x7, P0 x0 x1 x2 x3 x4 x5 x6 x7 ∧ P1 x0 x1 x2 x3 x4 x5 x6 x7 ∧ P2 x0 x1 x2 x3 x4 x5 x6 x7 := ⟨x0, x1, x2, x3, x4, x5, x6, x7, p0, p1, p2⟩
theorem i_EEEEEEEEEAA {T0 : Sort _} {T1 : Sort _} {T2 : Sort _} {T3 : Sort _} {T4 : Sort _} {T5 : Sort _} {T6 : Sort _} {T7 : Sort _} {T8 : Sort _} {P0 : T0 → T1 → T2 → T3 → T4 → T5 → T6 → T7 → T8 → Prop} {P1 : T0 → T1 → T2 → T3 → T4 → T5 → T6 → T7 → T8 → Prop} {P2 : T0 → T1 → T2 → T3 → T4 → T5 → T6 → T7 → T8 → Prop} (x0 : T0) (x1 : T1) (x2 : T2) (x3 : T3) (x4 : T4) (x5 : T5) (x6 : T6) (x7 : T7) (x8 : T8) (p0 : P0 x0 x1 x2 x3 x4 x5 x6 x7 x8) (p1 : P1 x0 x1 x2 x3 x4 x5 x6 x7 x8) (p2 : P2 x0 x1 x2 x3 x4 x5 x6 x7 x8) : ∃ x0, ∃ x1, ∃ x2, ∃ x3, ∃ x4, ∃ x5, ∃ x6, ∃ x7, ∃ x8, P0 x0 x1 x2 x3 x4 x5 x6 x7 x8 ∧ P1 x0 x1 x2 x3 x4 x5 x6 x7 x8 ∧ P2 x0 x1 x2 x3 x4 x5 x6 x7 x8 := ⟨x0, x1, x2, x3, x4, x5, x6, x7, x8, p0, p1, p2⟩
theorem i_EEEEEEEEEAAAAAAA {T0 : Sort _} {T1 : Sort _} {T2 : Sort _} {T3 : Sort _} {T4 : Sort _} {T5 : Sort _} {T6 : Sort _} {T7 : Sort _} {T8 : Sort _} {P0 : T0 → T1 → T2 → T3 → T4 → T5 → T6 → T7 → T8 → Prop} {P1 : T0 → T1 → T2 → T3 → T4 → T5 → T6 → T7 → T8 → Prop} {P2 : T0 → T1 → T2 → T3 → T4 → T5 → T6 → T7 → T8 → Prop} {P3 : T0 → T1 → T2 → T3 → T4 → T5 → T6 → T7 → T8 → Prop} {P4 : T0 → T1 → T2 → T3 → T4 → T5 → T6 → T7 → T8 → Prop} {P5 : T0 → T1 → T2 → T3 → T4 → T5 → T6 → T7 → T8 → Prop} {P6 : T0 → T1 → T2 → T3 → T4 → T5 → T6 → T7 → T8 → Prop} {P7 : T0 → T1 → T2 → T3 → T4 → T5 → T6 → T7 → T8 → Prop} (x0 : T0) (x1 : T1) (x2 : T2) (x3 : T3) (x4 : T4) (x5 : T5) (x6 : T6) (x7 : T7) (x8 : T8) (p0 : P0 x0 x1 x2 x3 x4 x5 x6 x7 x8) (p1 : P1 x0 x1 x2 x3 x4 x5 x6 x7 x8) (p2 : P2 x0 x1 x2 x3 x4 x5 x6 x7 x8) (p3 : P3 x0 x1 x2 x3 x4 x5 x6 x7 x8) (p4 : P4 x0 x1 x2 x3 x4 x5 x6 x7 x8) (p5 : P5 x0 x1 x2 x3 x4 x5 x6 x7 x8) (p6 : P6 x0 x1 x2 x3 x4 x5 x6 x7 x8) (p7 : P7 x0 x1 x2 x3 x4 x5 x6 x7 x8) : ∃ x0, ∃ x1, ∃ x2, ∃ x3, ∃ x4, ∃ x5, ∃ x6, ∃ x7, ∃ x8, P0 x0 x1 x2 x3 x4 x5 x6 x7 x8 ∧ P1 x0 x1 x2 x3 x4 x5 x6 x7 x8 ∧ P2 x0 x1 x2 x3 x4 x5 x6 x7 x8 ∧ P3 x0 x1 x2 x3 x4 x5 x6 x7 x8 ∧ P4 x0 x1 x2 x3 x4 x5 x6 x7 x8 ∧ P5 x0 x1 x2 x3 x4 x5 x6 x7 x8 ∧ P6 x0 x1 x2 x3 x4 x5 x6 x7 x8 ∧ P7 x0 x1 x2 x3 x4 x5 x6 x7 x8 := ⟨x0, x1, x2, x3, x4, x5, x6, x7, x8, p0, p1, p2, p3, p4, p5, p6, p7⟩
end L2
namespace L2
open PySem PySem.Spec PyProof.Rows
noncomputable abbrev Key := Sum Int Str
noncomputable def keyIs : Key → Value → Bool
  | .inl k, v => Value.isInt k v
  | .inr x, v => Value.isStrOf x v
noncomputable def keyH (w : World) : Key → Int
  | .inl k => hashInt k
  | .inr x => hashStr w x
theorem keyIs_shape : ∀ {k : Key} {v : Value}, keyIs k v = true → (∃ i t, k = Sum.inl i ∧ v = Value.int i t) ∨ (∃ x t, k = Sum.inr x ∧ v = Value.str x t)
  | .inl i, v, h => by
    refine L2.o_E (Value.isInt_shape (k := i) (v := v) h) fun t e => ?_
    exact .inl ⟨i, t, rfl, e⟩
  | .inr x, v, h => by
    refine L2.o_E (Value.isStrOf_shape (x := x) (v := v) h) fun t e => ?_
    exact .inr ⟨x, t, rfl, e⟩
theorem key_ll (a b : Int) : decide ((Sum.inl a : Key) = Sum.inl b) = (a == b) := by
  by_cases e : a = b
  · subst e; simp
  · have h : ¬ (Sum.inl a : Key) = Sum.inl b := fun q => e (Sum.inl.inj q)
    rw [decide_eq_false h]
    exact (beq_eq_false_iff_ne.mpr e).symm
theorem key_rr (a b : Str) : decide ((Sum.inr a : Key) = Sum.inr b) = decide (a = b) := by
  by_cases e : a = b
  · subst e; simp
  · have h : ¬ (Sum.inr a : Key) = Sum.inr b := fun q => e (Sum.inr.inj q)
    rw [decide_eq_false h, decide_eq_false e]
theorem key_lr (a : Int) (b : Str) : decide ((Sum.inl a : Key) = Sum.inr b) = false := decide_eq_false (fun q => nomatch q)
theorem key_rl (a : Str) (b : Int) : decide ((Sum.inr a : Key) = Sum.inl b) = false := decide_eq_false (fun q => nomatch q)
noncomputable def mixKind (prog : Program) (w : World) : PySem.KeyKind prog w Key where
  is := keyIs
  hash := keyH w
  inj := fun v a b ha hb => by
    rcases keyIs_shape ha with ⟨i, t, rfl, rfl⟩ | ⟨x, t, rfl, rfl⟩
    · rcases keyIs_shape hb with ⟨j, u, rfl, e⟩ | ⟨y, u, rfl, e⟩
      · injection e with e1 _; rw [e1]
      · exact nomatch e
    · rcases keyIs_shape hb with ⟨j, u, rfl, e⟩ | ⟨y, u, rfl, e⟩
      · exact nomatch e
      · injection e with e1 _; rw [e1]
  byValue := fun k v h => by
    rcases keyIs_shape h with ⟨i, t, rfl, rfl⟩ | ⟨x, t, rfl, rfl⟩ <;> rfl
  pyHash := fun hv h => by
    rcases keyIs_shape hv with ⟨i, t, rfl, rfl⟩ | ⟨x, t, rfl, rfl⟩
    · exact wpAny_pyHash_int h
    · exact wpAny_pyHash_str h
  eqBool := fun hu hv h => by
    rcases keyIs_shape hu with ⟨i, t, rfl, rfl⟩ | ⟨x, t, rfl, rfl⟩
    · rcases keyIs_shape hv with ⟨j, u, rfl, rfl⟩ | ⟨y, u, rfl, rfl⟩
      · rw [key_ll] at h; exact wpAny_eqBool_int h
      · rw [key_lr] at h; exact SeqAt.EqAt.int_str i t y u _ _ _ _ h
    · rcases keyIs_shape hv with ⟨j, u, rfl, rfl⟩ | ⟨y, u, rfl, rfl⟩
      · rw [key_rl] at h; exact SeqAt.EqAt.str_int x t j u _ _ _ _ h
      · rw [key_rr] at h; exact wpAny_eqBool_str h
  «strs» := fun k x t v h => by
    rcases keyIs_shape h with ⟨i, u, rfl, e⟩ | ⟨y, u, rfl, e⟩
    · exact nomatch e
    · injection e with e1 _
      subst e1
      cases v <;> rfl
end L2
namespace L2
open PySem PySem.Spec PyProof.Rows
inductive V where
  | non | bl (b : Bool) | int (i : Int) | str (x : Str) | byt (b : Array UInt8) | flt (b : UInt64) | ref (a : Addr) | ty (n : String)
  deriving DecidableEq
noncomputable def RelV : V → Value → Prop
  | .non, u => u = Value.none
  | .bl b, u => u = Value.bool b
  | .int i, u => ∃ t, u = Value.int i t
  | .str x, u => ∃ t, u = Value.str x t
  | .byt b, u => ∃ t, u = Value.bytes b t
  | .flt b, u => ∃ t, u = Value.float b t
  | .ref a, u => u = Value.ref a
  | .ty n, u => u = Value.type n
noncomputable abbrev Vals : List V → List Value → Prop := Paired RelV
theorem Vals.length {xs : List V} {us : List Value} (r : Vals xs us) : xs.length = us.length := Paired.length r
theorem Vals.get : ∀ {xs : List V} {us : List Value} {i : Nat} {x : V}, Vals xs us → xs[i]? = some x → ∃ u, us[i]? = some u ∧ RelV x u
  | _, _, _, _, .nil, e => by simp at e
  | _, _, 0, _, .cons r _, e => by simp at e; subst e; exact ⟨_, rfl, r⟩
  | _, _, i + 1, x, .cons _ t, e => by
    refine L2.o_EA (Vals.get (i := i) (x := x) t (by simpa using e)) fun u h1 h2 => ?_
    exact ⟨u, by simpa using h1, h2⟩
theorem Vals.append {xs ys : List V} {us ws : List Value} (h : Vals xs us) (s : Vals ys ws) : Vals (xs ++ ys) (us ++ ws) := by
  induction h with
  | nil => exact s
  | cons r t ih => exact .cons r ih
noncomputable def RelO : Option V → Option Value → Prop
  | some v, some u => RelV v u
  | none, none => True
  | _, _ => False
noncomputable def KV {κ : Type} : List (κ × V) → List (κ × Value) → Prop := Paired fun (p : κ × V) (q : κ × Value) => p.1 = q.1 ∧ RelV p.2 q.2
noncomputable def kV : Key → V
  | .inl i => .int i
  | .inr x => .str x
inductive HO where
    | lst (xs : List V)
    | tup (xs : List V)
    | dK (kvs : List (Key × V)) | dT (kvs : List (List Key × V))
    | set (S : Int → Bool) (n : Nat)
    | ins (C dx : Addr) (fs : List (Str × V))
    | own (x : Addr)
    | xd (fs : List (Str × V))
    | met (f x : Addr)
    | rng (lo hi : Int)
    | frz (o : Obj) (u : HO)
    | tbl (ps : Array Value)
  | tab
    | ext (φ : Heap → Prop)
noncomputable abbrev Hp := Addr → Option HO
noncomputable def upd (H : Hp) (a : Addr) (o : HO) : Hp := fun b => if b = a then some o else H b
theorem upd_same {H : Hp} {a : Addr} {o : HO} : upd H a o a = some o := by unfold upd; rw [if_pos rfl]
theorem upd_ne {H : Hp} {a b : Addr} {o : HO} (h : b ≠ a) : upd H a o b = H b := by unfold upd; rw [if_neg h]
theorem ne_of_none {H : Hp} {a b : Addr} {o : HO} (h : H a = some o) (h' : H b = none) : a ≠ b := by
  intro e; subst e; rw [h] at h'; cases h'
section
variable (P : Program) (w : World)
noncomputable def ObjOk (H : Hp) (h : Heap) (a : Addr) : HO → Prop
  | .lst xs => xs.length ≤ sizeLine ∧ ∃ (its : List Value) (n : Nat), Vals xs its ∧ h.get? a = some { cls := .type "list", data := .seq its.toArray n }
  | .tup xs => xs.length ≤ sizeLine ∧ ∃ its : List Value, Vals xs its ∧ IsTup h a its.toArray
  | .dK kvs => kvs.length ≤ sizeLine ∧ (a == sysModules) = false ∧ ∃ vs, KV kvs vs ∧ h.DictOf (mixKind P w) a vs
  | .dT kvs => kvs.length ≤ sizeLine ∧ (a == sysModules) = false ∧ ∃ xs : List (List Key × Addr × Value),
      Paired (fun (p : List Key × V) (q : List Key × Addr × Value) => p.1 = q.1 ∧ H q.2.1 = some (.tup (p.1.map kV)) ∧ RelV p.2 q.2.2) kvs xs ∧
      ∃ o es ep, h.get? a = some o ∧ o.ExactDict ∧ o.data = .dict es ep ∧ es.toList = xs.map (entryOfKey (tupleKind (mixKind P w))) ∧ (xs.map (·.1)).Nodup
  | .set S n => h.SetOf (intKind P w) a S n
  | .ins C dx fs => H dx = some (.own a) ∧ fs.length ≤ 1000 ∧ dx ≠ a ∧ h.get? a = some (PySem.W.instObj C dx) ∧
      ∃ mA, h.Ns1 dx mA ∧ (∀ f, RelO (fs.lookup f) (mA f)) ∧ PySem.Within mA (fs.map (·.1))
  | .own _ => ∃ o, h.get? a = some o
  | .xd fs => ∃ mA, h.Ns1 a mA ∧ ∀ f, RelO (fs.lookup f) (mA f)
  | .rng lo hi => ∃ t u v, h.get? a = some { cls := .type "range", data := .fields #[.int lo t, .int hi u, .int 1 v] }
  | .frz o u => h.get? a = some o ∧ ObjOk H h a u
  | .tbl ps => h.get? a = some { cls := .none, data := .fields ps }
  | .met f x => h.get? a = some (PySem.W.methodObj (.ref f) (.ref x))
  | .tab => ∃ ps : Array Value, h.get? a = some (PySem.W.tabObj ps) ∧ TriplesOk ps.toList ∧ ∀ pos c, codeAmong pos ps.toList = some c → ∃ c' oc vs q t φ, c = Value.ref c' ∧ H c' = some (.frz oc φ) ∧ oc.data = .fields vs ∧ vs[1]? = some (Value.str q t)
  | .ext φ => φ h ∧ (∃ o, h.get? a = some o) ∧ ∀ h1 h2 : Heap, φ h1 → (∀ o, h1.get? a = some o → h2.get? a = some o) → φ h2
noncomputable def HOk (H : Hp) (h : Heap) : Prop := ∀ a o, H a = some o → ObjOk P w H h a o
end
section
variable {P : Program} {w : World} {H H' : Hp} {h h' : Heap} {a : Addr} {o : HO}
theorem ObjOk.lt (x : ObjOk P w H h a o) : a < h.objs.size := by
  cases o with
  | lst xs => obtain ⟨_, _, _, _, e⟩ := x; exact Heap.lt_size e
  | tup xs => obtain ⟨_, _, _, p⟩ := x; exact p.lt
  | dK kvs => obtain ⟨_, _, _, _, o, _, _, e, _⟩ := x; exact Heap.lt_size e
  | dT kvs => obtain ⟨_, _, _, _, o, _, _, e, _⟩ := x; exact Heap.lt_size e
  | set S n => obtain ⟨o, _, _, _, e, _⟩ := x; exact Heap.lt_size e
  | ins C dx fs => obtain ⟨_, _, _, e, _⟩ := x; exact Heap.lt_size e
  | own y => obtain ⟨_, e⟩ := x; exact Heap.lt_size e
  | xd fs => obtain ⟨_, ⟨_, _, _, e, _⟩, _⟩ := x; exact Heap.lt_size e
  | rng lo hi => obtain ⟨_, _, _, e⟩ := x; exact Heap.lt_size e
  | frz ob u => obtain ⟨e, _⟩ := x; exact Heap.lt_size e
  | tbl ps => exact Heap.lt_size (show h.get? a = some _ from x)
  | met f y => exact Heap.lt_size (show h.get? a = some _ from x)
  | tab => obtain ⟨_, e, _⟩ := x; exact Heap.lt_size e
  | ext φ => obtain ⟨_, ⟨_, e⟩, _⟩ := x; exact Heap.lt_size e
theorem Paired.mapP {α β : Type} {F G : α → β → Prop} {l₁ : List α} {l₂ : List β} (h : Paired F l₁ l₂) (f : ∀ a b, F a b → G a b) : Paired G l₁ l₂ := by
  induction h with
  | nil => exact .nil
  | cons r t ih => exact .cons (f _ _ r) ih
theorem ObjOk.stay (x : ObjOk P w H h a o) (k : ∀ b u, (b = a ∨ H b = some (.own a)) → h.get? b = some u → h'.get? b = some u)
    (ho : ∀ b, H b = some (.own a) → H' b = some (.own a)) (ht : ∀ b xs, H b = some (.tup xs) → H' b = some (.tup xs)) (hz : ∀ b o u vs, o.data = .fields vs → H b = some (.frz o u) → H' b = some (.frz o u) := by exact fun _ _ _ _ _ q => q) : ObjOk P w H' h' a o := by
  induction o with
  | lst xs => obtain ⟨z, its, n, r, e⟩ := x; exact ⟨z, its, n, r, k _ _ (.inl rfl) e⟩
  | tup xs => obtain ⟨z, its, r, ob, e, c⟩ := x; exact ⟨z, its, r, ob, k _ _ (.inl rfl) e, c⟩
  | dK kvs => obtain ⟨z, y, vs, r, ob, es, ep, e, c⟩ := x; exact ⟨z, y, vs, r, ob, es, ep, k _ _ (.inl rfl) e, c⟩
  | dT kvs =>
    refine L2.o_AAEAEEEA (x) fun z y xs r ob es ep e c => ?_
    exact L2.i_AAEAEEEA (z) (y) (xs) (Paired.mapP r fun p q z => ⟨z.1, ht _ _ z.2.1, z.2.2⟩) (ob) (es) (ep) (k _ _ (.inl rfl) e) (c)
  | set S n => obtain ⟨ob, es, ep, t, e, c⟩ := x; exact ⟨ob, es, ep, t, k _ _ (.inl rfl) e, c⟩
  | ins C dx fs =>
    obtain ⟨d, z, ne, e, mA, ⟨od, es, ep, e2, c⟩, r⟩ := x
    exact ⟨ho _ d, z, ne, k _ _ (.inl rfl) e, mA, ⟨od, es, ep, k _ _ (.inr d) e2, c⟩, r⟩
  | own y => obtain ⟨ob, e⟩ := x; exact ⟨ob, k _ _ (.inl rfl) e⟩
  | xd fs => obtain ⟨mA, ⟨od, es, ep, e, c⟩, r⟩ := x; exact ⟨mA, ⟨od, es, ep, k _ _ (.inl rfl) e, c⟩, r⟩
  | rng lo hi => obtain ⟨t, u, v, e⟩ := x; exact ⟨t, u, v, k _ _ (.inl rfl) e⟩
  | frz ob u ih => obtain ⟨e, q⟩ := x; exact ⟨k _ _ (.inl rfl) e, ih q⟩
  | tbl ps =>
    have e : h.get? a = some { cls := .none, data := .fields ps } := x
    show h'.get? a = some { cls := .none, data := .fields ps }
    exact k a _ (.inl rfl) e
  | met f y =>
    have e : h.get? a = some (PySem.W.methodObj (.ref f) (.ref y)) := x
    show h'.get? a = some (PySem.W.methodObj (.ref f) (.ref y))
    exact k a _ (.inl rfl) e
  | ext φ => obtain ⟨p, ⟨o, e⟩, st⟩ := x; exact ⟨st _ _ p fun o q => k _ _ (.inl rfl) q, ⟨o, k _ _ (.inl rfl) e⟩, st⟩
  | tab =>
    refine L2.o_EAA (x) fun ps e tr co => ?_
    exact ⟨ps, k _ _ (.inl rfl) e, tr, fun pos c z => let ⟨c', oc, vs, q, t, φ, h1, h2, h3, h4⟩ := co pos c z; ⟨c', oc, vs, q, t, φ, h1, hz _ _ _ _ h3 h2, h3, h4⟩⟩
theorem HOk.lt (x : HOk P w H h) (e : H a = some o) : a < h.objs.size := (x a o e).lt
theorem HOk.fresh (x : HOk P w H h) (e : h.objs.size ≤ a) : H a = none := by
  cases q : H a with
  | none => rfl
  | some u => exact absurd (Nat.lt_of_lt_of_le (x.lt q) e) (Nat.lt_irrefl _)
theorem HOk.kept (x : HOk P w H h) (k : ∀ b u, h.get? b = some u → h'.get? b = some u) : HOk P w H h' := fun a o e =>
  (x a o e).stay (fun b u _ q => k b u q) (fun _ q => q) fun _ _ q => q
theorem HOk.laid (x : HOk P w H h) (k : ∀ b u, h.get? b = some u → h'.get? b = some u) (hp : h.objs.size ≤ a) (new : ObjOk P w (upd H a o) h' a o) : HOk P w (upd H a o) h' := fun b u e => by
  have hn := x.fresh hp
  by_cases hb : b = a
  · subst hb; rw [upd_same] at e; cases e; exact new
  · rw [upd_ne hb] at e
    exact (x b u e).stay (fun c v _ q => k c v q) (fun c q => by rw [upd_ne (ne_of_none q hn)]; exact q) (fun c xs q => by rw [upd_ne (ne_of_none q hn)]; exact q) fun c ob xs _ _ q => by rw [upd_ne (ne_of_none q hn)]; exact q
end
noncomputable def Rd (H : Hp) (a : Addr) (u : HO) : Prop := H a = some u ∨ ∃ o, H a = some (.frz o u)
theorem Rd.ok {P : Program} {w : World} {H : Hp} {h : Heap} {a : Addr} {u : HO} (r : Rd H a u) (x : HOk P w H h) : ObjOk P w H h a u := by
  rcases r with r | ⟨o, r⟩
  · exact x a u r
  · refine L2.o_A (x a _ r) fun _ q => ?_
    exact q
noncomputable def Mut : Option HO → Prop
  | some (.lst _) => True
  | some (.dK _) => True
  | some (.dT _) => True
  | some (.set _ _) => True
  | some (.ins _ _ _) => True
  | some (.ext _) => True
  | _ => False
section
variable {P : Program} {w : World} {H : Hp} {h h' : Heap} {x e : Addr} {o' : HO}
theorem HOk.write (ok : HOk P w H h) (mu : Mut (H x)) (he : e = x ∨ H e = some (.own x)) (k : ∀ b u, b ≠ e → h.get? b = some u → h'.get? b = some u) (heo : ∃ u, h'.get? e = some u)
    (new : ObjOk P w (upd H x o') h' x o') : HOk P w (upd H x o') h' := fun b u q => by
  have nown : ∀ c y, H c = some (.own y) → c ≠ x := fun c y r z => by subst z; rw [r] at mu; exact mu
  have ntup : ∀ c xs, H c = some (.tup xs) → c ≠ x := fun c xs r z => by subst z; rw [r] at mu; exact mu
  have nfrz : ∀ c ob xs, H c = some (.frz ob xs) → c ≠ x := fun c ob xs r z => by subst z; rw [r] at mu; exact mu
  by_cases hb : b = x
  · subst hb; rw [upd_same] at q; cases q; exact new
  · rw [upd_ne hb] at q
    by_cases hbe : b = e
    · have q' : H b = some (.own x) := by
        rcases he with z | z
        · exact absurd (hbe.trans z) hb
        · rw [hbe]; exact z
      rw [q] at q'; cases q'
      refine L2.o_E (heo) fun v hv => ?_
      exact ⟨v, by rw [hbe]; exact hv⟩
    · refine (ok b u q).stay (fun c v hc r => k c v ?_ r) (fun c r => by rw [upd_ne (nown c b r)]; exact r) (fun c xs r => by rw [upd_ne (ntup c xs r)]; exact r) fun c ob xs _ _ r => by rw [upd_ne (nfrz c ob xs r)]; exact r
      rcases hc with rfl | hc
      · exact hbe
      · rintro rfl
        rcases he with z | z
        · exact nown c b hc z
        · rw [hc] at z; cases z; exact hb rfl
end
structure Un (fs ex : List Addr) (H H' : Hp) (h h' : Heap) : Prop where
  keep : ∀ b o, h.get? b = some o → H b = none → b ∉ fs → b ∉ ex → h'.get? b = some o
  slot : ∀ b o, h.get? b = some o → H b = none → b ∈ fs → b ∉ ex → ∃ sl, h'.get? b = some { o with slots := sl }
  free : ∀ b o, h.get? b = some o → H b = none → b ∉ ex → H' b = none
  there : ∀ b o, h.get? b = some o → b ∉ ex → ∃ o', h'.get? b = some o'
  tups : ∀ b xs, H b = some (.tup xs) → H' b = some (.tup xs)
  frzs : ∀ b o u, H b = some (.frz o u) → H' b = some (.frz o u)
  tbls : ∀ b ps, H b = some (.tbl ps) → ∃ more, H' b = some (.tbl (ps ++ more))
  tabs : ∀ b, H b = some .tab → H' b = some .tab
section
variable {fs fs' ex ex' : List Addr} {H H1 H2 : Hp} {h h1 h2 h' : Heap} {a x e : Addr} {o : HO}
theorem Un.any (u : Un fs ex H H1 h h1) {b : Addr} {ob : Obj} (q : h.get? b = some ob) (n : H b = none) (hx : b ∉ ex) : ∃ sl, h1.get? b = some { ob with slots := sl } := by
  by_cases hb : b ∈ fs
  · exact u.slot b ob q n hb hx
  · exact ⟨ob.slots, u.keep b ob q n hb hx⟩
theorem Un.kept (k : ∀ b u, h.get? b = some u → h'.get? b = some u) : Un fs ex H H h h' :=
  ⟨fun b ob q _ _ _ => k b ob q, fun b ob q _ _ _ => ⟨ob.slots, k b ob q⟩, fun _ _ _ n _ => n, fun b ob q _ => ⟨ob, k b ob q⟩, fun _ _ q => q, fun _ _ _ q => q, fun _ ps q => ⟨#[], by rw [q]; simp⟩, fun _ q => q⟩
theorem Un.refl : Un fs ex H H h h := Un.kept fun _ _ q => q
theorem Un.laid (k : ∀ b u, h.get? b = some u → h'.get? b = some u) (hp : h.objs.size ≤ a) (hn : H a = none) : Un fs ex H (upd H a o) h h' where
  keep := fun b u q _ _ _ => k b u q
  slot := fun b u q _ _ _ => ⟨u.slots, k b u q⟩
  free := fun b u q n _ => by rw [upd_ne (Nat.ne_of_lt (Nat.lt_of_lt_of_le (Heap.lt_size q) hp))]; exact n
  there := fun b u q _ => ⟨u, k b u q⟩
  tups := fun b xs q => by rw [upd_ne (ne_of_none q hn)]; exact q
  frzs := fun b u xs q => by rw [upd_ne (ne_of_none q hn)]; exact q
  tbls := fun b ps q => ⟨#[], by rw [upd_ne (ne_of_none q hn), q]; simp⟩
  tabs := fun b q => by rw [upd_ne (ne_of_none q hn)]; exact q
theorem Un.write (mu : Mut (H x)) (he : e = x ∨ H e = some (.own x)) (k : ∀ b u, b ≠ e → h.get? b = some u → h'.get? b = some u) (heo : ∃ u, h'.get? e = some u) : Un fs ex H (upd H x o) h h' := by
  have hx : ∀ b, H b = none → b ≠ x := fun b n z => by subst z; rw [n] at mu; exact mu
  have hb : ∀ b, H b = none → b ≠ e := fun b n z => by
    subst z
    rcases he with r | r
    · exact hx b n r
    · rw [n] at r; cases r
  have hm : ∀ b u, H b = some u → ¬ Mut (some u) → b ≠ x := fun b u q nm z => by subst z; rw [q] at mu; exact nm mu
  refine ⟨fun b u q n _ _ => k b u (hb b n) q, fun b u q n _ _ => ⟨u.slots, k b u (hb b n) q⟩, fun b u q n _ => by rw [upd_ne (hx b n)]; exact n, fun b u q _ => ?_,
    fun b xs q => by rw [upd_ne (hm b _ q fun z => z)]; exact q, fun b u xs q => by rw [upd_ne (hm b _ q fun z => z)]; exact q, fun b ps q => ⟨#[], by rw [upd_ne (hm b _ q fun z => z), q]; simp⟩, fun b q => by rw [upd_ne (hm b _ q fun z => z)]; exact q⟩
  by_cases hbe : b = e
  · subst hbe; exact heo
  · exact ⟨u, k b u hbe q⟩
end
noncomputable def trk (h : Heap) (H : Hp) : List Addr := (List.range h.objs.size).filter fun a => (H a).isSome
noncomputable def hidT (h : Heap) (H : Hp) : Heap := PySem.W.hideAll h (trk h H)
theorem hidT_size (h : Heap) (H : Hp) : (hidT h H).objs.size = h.objs.size := PySem.W.hideAll_size _ _
theorem hidT_get {h : Heap} {H : Hp} {b : Addr} {o : Obj} (e : h.get? b = some o) (n : H b = none) : (hidT h H).get? b = some o :=
  PySem.W.hideAll_get _ e fun hm => by
    have q : (H b).isSome = true := (List.mem_filter.mp hm).2
    rw [n] at q; simp at q
theorem of_hidT {h : Heap} {H : Hp} {b : Addr} {o : Obj} (e : (hidT h H).get? b = some o) : h.get? b = some o ∧ H b = none := by
  have e' : h.get? b = some o := PySem.W.of_hideAll (trk h H) e
  refine ⟨e', ?_⟩
  cases q : H b with
  | none => rfl
  | some x =>
    have hm : b ∈ trk h H := List.mem_filter.mpr ⟨List.mem_range.mpr (Heap.lt_size e'), by simp [q]⟩
    have z : (hidT h H).get? b = none := PySem.W.hideAll_none (trk h H) hm
    rw [z] at e; cases e
noncomputable def allNews (g h : Heap) (L : Addr) : List (Addr × Obj) := (List.range h.objs.size).filterMap fun a => if a = L ∨ (g.get? a).isSome = true then none else (h.get? a).map fun o => (a, o)
noncomputable def rest (g h : Heap) (L d : Addr) : List (Addr × Obj) := (allNews g h L).filter fun p => decide (p.1 ≠ d)
end L2
namespace L2
open PySem PySem.Spec PyProof.Rows
structure Mod (K : PySem.W.Frag) (mg : Str → Option Value) (base : Heap) : Prop where
  kin : K.In base
  glob : base.Ns mainGlobals mg
  blt : ∃ mb, base.Ns builtinsNs mb ∧ ∀ x : Str, x ≠ "__name__" → mb x = bootBuiltins x
  nolimit : base.NoLimit
noncomputable def lamNames (P : Program) : List Str := ((recsOf P).filter fun d => (freeInTheComprehensionsStmts d.body).isNone).map (·.name)
noncomputable def TabsOk (P : Program) (K : PySem.W.Frag) (mg : Str → Option Value) (base : Heap) (H : Hp) : Prop := ∀ x c p, x ∈ lamNames P → PySem.W.tabIn K x = some (c, p) → H p = some .tab ∧ PySem.W.CodeHd base c p ∧ base.BuiltinsAt mg p
structure Cx where
  prog : Program
  w : World
  K : PySem.W.Frag
  mg : Str → Option Value
  base : Heap
  A : Around
  N : List Str
  s₀ : Shared
  H₀ : Hp
  env : Env
  outer : List Env
  stack : List Env
  ex : List Addr
  fn : Str → Bool
  calm : Bool
  pn : List (Addr × Obj)
  xe : Value → Shared → Prop
noncomputable def frs (l : List Env) : List Addr := l.filterMap (·.frame)
noncomputable abbrev Cx.fs (X : Cx) : List Addr := frs X.outer
noncomputable def Vis (sc : Scope) (x : Str) : Prop := sc.names.lookup x = some .local ∨ sc.names.lookup x = some .cell ∨ sc.names.lookup x = some .free
noncomputable def Loc (sc : Scope) (x : Str) : Prop := sc.names.lookup x = some .local ∨ sc.names.lookup x = some .cell
noncomputable def Look (env : Env) (h : Heap) (m : Str → Option Value) (x : Str) (u : Value) : Prop :=
  (env.kindOf x = some .local ∧ m x = some u) ∨ ((env.kindOf x = some .cell ∨ env.kindOf x = some .free) ∧ ∃ c, env.cells.lookup x = some c ∧ h.IsCell c (some u))
structure Cx.Ok (X : Cx) : Prop where
  mod : Mod X.K X.mg X.base
  kind : X.env.scope.kind = .function
  glob : X.env.globals = mainGlobals
  blt : X.env.builtins = builtinsNs
  above : X.s₀.heap.objs.size ≤ X.env.locals
  inj : ∀ x y c, X.env.cells.lookup x = some c → X.env.cells.lookup y = some c → x = y
  has : ∀ x, (X.env.kindOf x = some .cell ∨ X.env.kindOf x = some .free) → ∃ c, X.env.cells.lookup x = some c
  cab : ∀ x c, X.fn x = true → X.env.cells.lookup x = some c → X.s₀.heap.objs.size ≤ c
  hd : X.calm = true → X.A.handled = none
  frames : X.A.frames = some X.stack
  stk : X.stack = X.outer ∨ (X.stack = X.env :: X.outer ∧ X.env.frame = some X.env.locals)
  exf : ∀ b ∈ X.ex, b ≠ X.env.locals ∧ ∀ x c, X.env.cells.lookup x = some c → c ≠ b
  bs : ∀ b o, X.base.get? b = some o → X.s₀.heap.get? b = some o ∧ X.H₀ b = none
  bsz : X.base.objs.size ≤ X.s₀.heap.objs.size
  noex : ∀ b o, X.base.get? b = some o → b ∉ X.ex
  exfs : ∀ b ∈ X.ex, b ∉ X.fs
  funs : X.s₀.heap.FunFrames X.base X.outer
  frf : ∀ b ∈ X.fs, X.H₀ b = none
  tabs : TabsOk X.prog X.K X.mg X.base X.H₀
structure Inv (X : Cx) (pins : List (Addr × Obj)) (σ : List (Option V)) (H : Hp) (s : Shared) : Prop where
  ok : X.Ok
  os : s.os = X.s₀.os
  bare : AllBare s.gens
  base : Un X.fs X.ex X.H₀ H X.s₀.heap s.heap
  loc : ∃ m, s.heap.Ns X.env.locals m ∧ ∀ (i : Nat) (x : Str) (v : V), X.N[i]? = some x → σ[i]? = some (some v) → Vis X.env.scope x → ∃ u, RelV v u ∧ Look X.env s.heap m x u
  cell : ∀ x c, X.env.cells.lookup x = some c → ∃ v, s.heap.IsCell c v
  free : H X.env.locals = none
  freeC : ∀ x c, X.env.cells.lookup x = some c → H c = none ∨ (X.fn x = false ∧ ∃ o u, H c = some (.frz o u))
  pin : ∀ p ∈ X.pn ++ pins, s.heap.get? p.1 = some p.2 ∧ H p.1 = none ∧ p.1 ≠ X.env.locals ∧ p.1 ∉ X.fs ∧ ∀ v, p.2.data ≠ .cell v
  hok : HOk X.prog X.w H s.heap
  len : σ.length = X.N.length
section
variable {X : Cx} {pins : List (Addr × Obj)} {σ : List (Option V)} {H H' : Hp} {s : Shared} {h' : Heap}
theorem Cx.Ok.nofr (ok : X.Ok) {b : Addr} {o : Obj} (e : X.base.get? b = some o) : b ∉ X.fs := fun hb => by
  have := (ok.funs.mem hb).1
  rw [e] at this; cases this
theorem Inv.bs (I : Inv X pins σ H s) : ∀ b o, X.base.get? b = some o → s.heap.get? b = some o ∧ H b = none := fun b o e =>
  ⟨I.base.keep b o (I.ok.bs b o e).1 (I.ok.bs b o e).2 (I.ok.nofr e) (I.ok.noex b o e), I.base.free b o (I.ok.bs b o e).1 (I.ok.bs b o e).2 (I.ok.noex b o e)⟩
theorem Inv.bk (I : Inv X pins σ H s) : ∀ b o, X.base.get? b = some o → s.heap.get? b = some o := fun b o e => (I.bs b o e).1
theorem Inv.mod (I : Inv X pins σ H s) : Mod X.K X.mg X.base := I.ok.mod
theorem Inv.kIn (I : Inv X pins σ H s) : X.K.In s.heap := I.ok.mod.kin.keeps I.bk
theorem Inv.lt (I : Inv X pins σ H s) : X.env.locals < s.heap.objs.size := let ⟨_, hn, _⟩ := I.loc; hn.lt
theorem Inv.sz (I : Inv X pins σ H s) : X.s₀.heap.objs.size ≤ s.heap.objs.size := Nat.le_trans I.ok.above (Nat.le_of_lt I.lt)
theorem Inv.nofs (I : Inv X pins σ H s) {a : Addr} (h : s.heap.objs.size ≤ a) : a ∉ X.fs := fun hb => by
  refine L2.o_AEA (I.ok.funs.mem hb) fun _ o ho _ => ?_
  exact absurd (Nat.lt_of_lt_of_le (Heap.lt_size ho) (Nat.le_trans I.sz h)) (Nat.lt_irrefl _)
theorem Inv.cne (I : Inv X pins σ H s) : ∀ x c, X.env.cells.lookup x = some c → c ≠ X.env.locals := fun x c e z => by
  refine L2.o_EEA (I.cell x c e) fun v o ho hd => ?_
  obtain ⟨m, ⟨o', es, ep, ho', hd', _⟩, _⟩ := I.loc
  rw [z, ho'] at ho; cases ho; rw [hd'] at hd; cases hd
theorem Inv.funs (I : Inv X pins σ H s) : s.heap.FunFrames X.base X.outer := by
  have all : ∀ (l : List Env), (∀ b ∈ frs l, b ∈ X.fs) → X.s₀.heap.FunFrames X.base l → s.heap.FunFrames X.base l := by
    intro l
    induction l with
    | nil => intro _ _; trivial
    | cons env r ih =>
      intro hs hl
      obtain ⟨hk, ⟨L, o, hf, hn, ho, hd⟩, hr⟩ := hl
      have hL : L ∈ X.fs := hs L (by unfold frs; rw [List.filterMap_cons, hf]; exact List.mem_cons_self)
      refine L2.o_E (I.base.slot L o ho (I.ok.frf L hL) hL fun z => I.ok.exfs L z hL) fun sl e => ?_
      exact ⟨hk, ⟨L, _, hf, hn, e, hd⟩, ih (fun b hb => hs b (by unfold frs; rw [List.filterMap_cons, hf]; exact List.mem_cons_of_mem _ hb)) hr⟩
  exact all X.outer (fun _ hb => hb) I.ok.funs
theorem Inv.stack (I : Inv X pins σ H s) : s.heap.FunFrames X.base X.stack := by
  rcases I.ok.stk with e | ⟨e, hf⟩
  · rw [e]; exact I.funs
  · rw [e]
    refine L2.o_EA (I.loc) fun m hn _ => ?_
    refine .cons (by rw [I.ok.kind]; decide) hf hn ?_ I.funs
    exact Heap.get?_none_of_le (Nat.le_trans I.ok.bsz I.ok.above)
theorem Inv.stkSub (I : Inv X pins σ H s) : ∀ b ∈ frs X.stack, b ∈ X.env.locals :: X.fs := fun b hb => by
  rcases I.ok.stk with e | ⟨e, hf⟩
  · rw [e] at hb; exact List.mem_cons_of_mem _ hb
  · rw [e] at hb
    unfold frs at hb
    rw [List.filterMap_cons, hf] at hb
    exact hb
theorem Inv.stkFree (I : Inv X pins σ H s) : ∀ b ∈ frs X.stack, H b = none := fun b hb => by
  rcases List.mem_cons.mp (I.stkSub b hb) with e | hb
  · rw [e]; exact I.free
  · refine L2.o_AEA (I.ok.funs.mem hb) fun _ o ho _ => ?_
    exact I.base.free b o ho (I.ok.frf b hb) fun z => I.ok.exfs b z hb
theorem Inv.step {g' : Array GenState} {t' : Nat} {d' : Drawn} {ch : List Addr} (I : Inv X pins σ H s)
    (hch : ∀ b ∈ ch, (b ∈ X.ex ∨ X.s₀.heap.objs.size ≤ b) ∧ b ≠ X.env.locals ∧ (∀ x c, X.env.cells.lookup x = some c → c ≠ b) ∧ ∀ p ∈ X.pn ++ pins, p.1 ≠ b)
    (keep : ∀ b o, b ≠ X.env.locals → b ∉ X.fs → b ∉ ch → s.heap.get? b = some o → H b = none → h'.get? b = some o)
    (slot : ∀ b o, b ≠ X.env.locals → b ∈ X.fs → b ∉ ch → s.heap.get? b = some o → H b = none → ∃ sl, h'.get? b = some { o with slots := sl }) (free : ∀ b o, b ∉ ch → s.heap.get? b = some o → H b = none → H' b = none)
    (there : ∀ b o, b ∉ ch → s.heap.get? b = some o → ∃ o', h'.get? b = some o')
    (tups : ∀ b xs, H b = some (.tup xs) → H' b = some (.tup xs)) (frzs : ∀ b o u, H b = some (.frz o u) → H' b = some (.frz o u)) (tbls : ∀ b ps, H b = some (.tbl ps) → ∃ more, H' b = some (.tbl (ps ++ more))) (tabs : ∀ b, H b = some .tab → H' b = some .tab)
    (ns : ∀ m, s.heap.Ns X.env.locals m → h'.Ns X.env.locals m) (hok : HOk X.prog X.w H' h') (hg : AllBare g') :
    Inv X pins σ H' { s with heap := h', gens := g', drawn := d', toks := t' } := by
  have neL : ∀ b o, X.s₀.heap.get? b = some o → b ≠ X.env.locals := fun b o e => Nat.ne_of_lt (Nat.lt_of_lt_of_le (Heap.lt_size e) I.ok.above)
  have neC : ∀ b o, X.s₀.heap.get? b = some o → b ∉ X.ex → b ∉ ch := fun b o e hx hb => by
    rcases (hch b hb).1 with z | z
    · exact hx z
    · exact absurd (Nat.lt_of_lt_of_le (Heap.lt_size e) z) (Nat.lt_irrefl _)
  have cellK : ∀ x c, X.env.cells.lookup x = some c → ∀ v, s.heap.IsCell c v → h'.IsCell c v := fun x c e v zpat => by
    refine L2.o_EA (zpat) fun o ho hd => ?_
    have nch : c ∉ ch := fun z => (hch c z).2.2.1 x c e rfl
    rcases I.freeC x c e with fc | ⟨_, ob, ub, fc⟩
    · by_cases hc : c ∈ X.fs
      · refine L2.o_E (slot c o (I.cne x c e) hc nch ho fc) fun sl q => ?_
        exact ⟨_, q, hd⟩
      · exact ⟨o, keep c o (I.cne x c e) hc nch ho fc, hd⟩
    · have q1 := (I.hok c _ fc).1
      have q2 := (hok c _ (frzs c ob ub fc)).1
      rw [ho] at q1
      cases q1
      exact ⟨o, q2, hd⟩
  refine ⟨I.ok, I.os, hg, ⟨fun b o e n hb hx => ?_, fun b o e n hb hx => ?_, fun b o e n hx => ?_, fun b o e hx => ?_, fun b xs e => tups b xs (I.base.tups b xs e), fun b o xs e => frzs b o xs (I.base.frzs b o xs e), fun b ps e => ?_, fun b e => tabs b (I.base.tabs b e)⟩, ?_, fun x c e => ?_, ?_, fun x c e => ?_, fun p hp => ?_, hok, I.len⟩
  · exact keep b o (neL b o e) hb (neC b o e hx) (I.base.keep b o e n hb hx) (I.base.free b o e n hx)
  · refine L2.o_E (I.base.slot b o e n hb hx) fun sl e1 => ?_
    refine L2.o_E (slot b _ (neL b o e) hb (neC b o e hx) e1 (I.base.free b o e n hx)) fun sl' e2 => ?_
    exact ⟨sl', e2⟩
  · refine L2.o_E (I.base.there b o e hx) fun o' e1 => ?_
    exact free b o' (neC b o e hx) e1 (I.base.free b o e n hx)
  · refine L2.o_E (I.base.there b o e hx) fun o' e1 => ?_
    exact there b o' (neC b o e hx) e1
  · refine L2.o_E (I.base.tbls b ps e) fun m1 e1 => ?_
    refine L2.o_E (tbls b _ e1) fun m2 e2 => ?_
    exact ⟨m1 ++ m2, by rw [e2, Array.append_assoc]⟩
  · refine L2.o_EA (I.loc) fun m hn hl => ?_
    refine ⟨m, ns m hn, fun i x v e1 e2 e3 => ?_⟩
    refine L2.o_EA (hl i x v e1 e2 e3) fun u r l => ?_
    refine ⟨u, r, ?_⟩
    rcases l with l | ⟨k, c, e, z⟩
    · exact .inl l
    · exact .inr ⟨k, c, e, cellK x c e _ z⟩
  · refine L2.o_E (I.cell x c e) fun v z => ?_
    exact ⟨v, cellK x c e v z⟩
  · obtain ⟨m, ⟨o, _, _, ho, _⟩, _⟩ := I.loc
    exact free _ o (fun z => (hch _ z).2.1 rfl) ho I.free
  · refine L2.o_EEA (I.cell x c e) fun v o ho hd => ?_
    rcases I.freeC x c e with fc | ⟨hfn, ob, ub, fc⟩
    · exact .inl (free c o (fun z => (hch c z).2.2.1 x c e rfl) ho fc)
    · exact .inr ⟨hfn, ob, ub, frzs c ob ub fc⟩
  · refine L2.o_AAAA (I.pin p hp) fun e n ne nf d => ?_
    have nch : p.1 ∉ ch := fun z => (hch p.1 z).2.2.2 p hp rfl
    exact ⟨keep p.1 p.2 ne nf nch e n, free p.1 p.2 nch e n, ne, nf, d⟩
theorem Inv.un {t' : Nat} (I : Inv X pins σ H s) (u : Un X.fs [] H H' s.heap h') (hok : HOk X.prog X.w H' h') : Inv X pins σ H' { s with heap := h', toks := t' } := by
  obtain ⟨m, ⟨o, es, ep, ho, r⟩, _⟩ := id I.loc
  refine L2.o_E (u.any ho I.free (by simp)) fun sl hL => ?_
  exact I.step (g' := s.gens) (d' := s.drawn) (ch := []) (fun _ z => nomatch z) (fun b o _ hb _ e n => u.keep b o e n hb (by simp)) (fun b o _ hb _ e n => u.slot b o e n hb (by simp)) (fun b o _ e n => u.free b o e n (by simp)) (fun b o _ e => u.there b o e (by simp)) u.tups u.frzs u.tbls u.tabs (fun m' hm => by
    refine L2.o_EEEA (hm) fun o' es' ep' ho' r' => ?_
    rw [ho] at ho'; cases ho'
    exact ⟨_, es', ep', hL, r'⟩) hok I.bare
theorem Inv.call {g' : Array GenState} {t' : Nat} {d' : Drawn} {ch : List Addr} (I : Inv X pins σ H s) (u : Un (frs X.stack) ch H H' s.heap h') (hok : HOk X.prog X.w H' h') (hg : AllBare g')
    (hch : ∀ b ∈ ch, (b ∈ X.ex ∨ X.s₀.heap.objs.size ≤ b) ∧ b ≠ X.env.locals ∧ (∀ x c, X.env.cells.lookup x = some c → c ≠ b) ∧ ∀ p ∈ X.pn ++ pins, p.1 ≠ b) :
    Inv X pins σ H' { s with heap := h', gens := g', drawn := d', toks := t' } := by
  obtain ⟨m, ⟨o, es, ep, ho, r⟩, _⟩ := id I.loc
  refine L2.o_E (u.any ho I.free fun z => (hch _ z).2.1 rfl) fun sl hL => ?_
  exact I.step (ch := ch) hch (fun b o hL hb hc e n => u.keep b o e n (fun z => (List.mem_cons.mp (I.stkSub b z)).elim hL hb) hc) (fun b o _ _ hc e n => u.any e n hc) (fun b o hc e n => u.free b o e n hc) (fun b o hc e => u.there b o e hc) u.tups u.frzs u.tbls u.tabs (fun m' hm => by
    refine L2.o_EEEA (hm) fun o' es' ep' ho' r' => ?_
    rw [ho] at ho'; cases ho'
    exact ⟨_, es', ep', hL, r'⟩) hok hg
theorem Inv.turned {t' : Nat} {it : Addr} (I : Inv X pins σ H s) (k : ∀ b o, b ≠ it → s.heap.get? b = some o → h'.get? b = some o) (hn : H it = none) (hL : it ≠ X.env.locals)
    (h1 : it ∈ X.ex ∨ X.s₀.heap.objs.size ≤ it) (h2 : ∀ x c, X.env.cells.lookup x = some c → c ≠ it) (h3 : ∀ p ∈ X.pn ++ pins, p.1 ≠ it) : Inv X pins σ H { s with heap := h', toks := t' } := by
  have nit : ∀ b u, H b = some u → b ≠ it := fun b u e z => by rw [z, hn] at e; cases e
  refine I.step (g' := s.gens) (d' := s.drawn) (ch := [it]) (fun b hb => ?_) (fun b o _ _ hc e _ => k b o (fun z => hc (by simp [z])) e) (fun b o _ _ hc e _ => ⟨o.slots, k b o (fun z => hc (by simp [z])) e⟩) (fun _ _ _ _ n => n)
    (fun b o hc e => ⟨o, k b o (fun z => hc (by simp [z])) e⟩) (fun _ _ e => e) (fun _ _ _ e => e) (fun b ps e => ⟨#[], by rw [e]; simp⟩) (fun _ e => e) (fun m hm => ?_) (fun b u e => ?_) I.bare
  · have e : b = it := by simpa using hb
    subst e
    exact ⟨h1, hL, h2, h3⟩
  · refine L2.o_EEEA (hm) fun o es ep ho r => ?_
    exact L2.i_EEEA (o) (es) (ep) (k _ o (Ne.symm hL) ho) (r)
  · refine (I.hok b u e).stay (fun c v hc q => k c v ?_ q) (fun _ q => q) fun _ _ q => q
    rcases hc with z | z
    · rw [z]; exact nit b u e
    · exact nit c _ z
theorem Inv.tok (I : Inv X pins σ H s) (t : Nat) : Inv X pins σ H { s with toks := t } := I.un (h' := s.heap) (t' := t) Un.refl I.hok
theorem Inv.kept {t' : Nat} (I : Inv X pins σ H s) (k : ∀ b u, s.heap.get? b = some u → h'.get? b = some u) : Inv X pins σ H { s with heap := h', toks := t' } := I.un (Un.kept k) (I.hok.kept k)
theorem Inv.laid {a : Addr} {o : HO} {t' : Nat} (I : Inv X pins σ H s) (k : ∀ b u, s.heap.get? b = some u → h'.get? b = some u) (hp : s.heap.objs.size ≤ a) (new : ObjOk X.prog X.w (upd H a o) h' a o) :
    Inv X pins σ (upd H a o) { s with heap := h', toks := t' } := I.un (Un.laid k hp (I.hok.fresh hp)) (I.hok.laid k hp new)
theorem Inv.write {x e : Addr} {o : HO} {t' : Nat} (I : Inv X pins σ H s) (mu : Mut (H x)) (he : e = x ∨ H e = some (.own x)) (k : ∀ b u, b ≠ e → s.heap.get? b = some u → h'.get? b = some u) (heo : ∃ u, h'.get? e = some u)
    (new : ObjOk X.prog X.w (upd H x o) h' x o) : Inv X pins σ (upd H x o) { s with heap := h', toks := t' } := I.un (Un.write mu he k heo) (I.hok.write mu he k heo new)
theorem Inv.pins_of {pins' : List (Addr × Obj)} (I : Inv X pins σ H s) (h : ∀ p ∈ pins', s.heap.get? p.1 = some p.2 ∧ H p.1 = none ∧ p.1 ≠ X.env.locals ∧ p.1 ∉ X.fs ∧ ∀ v, p.2.data ≠ .cell v) : Inv X pins' σ H s :=
  ⟨I.ok, I.os, I.bare, I.base, I.loc, I.cell, I.free, I.freeC, fun p hp => (List.mem_append.mp hp).elim (fun z => I.pin p (List.mem_append_left _ z)) (h p), I.hok, I.len⟩
theorem nodup_ix {N : List Str} (hN : N.Nodup) {i j : Nat} {x : Str} (a : N[i]? = some x) (b : N[j]? = some x) : i = j := by
  refine L2.o_E (List.getElem?_eq_some_iff.mp a) fun h1 e1 => ?_
  refine L2.o_E (List.getElem?_eq_some_iff.mp b) fun h2 e2 => ?_
  exact (List.getElem_inj hN).mp (e1.trans e2.symm)
theorem store_ok2 {M : Model} {A : Around} {E : Value → Shared → Prop} {i : Nat} {x : Str} {v : V} {u : Value} {Q : Unit → Shared → Prop} (I : Inv X pins σ H s) (hN : X.N.Nodup) (hi : X.N[i]? = some x) (hx : Loc X.env.scope x) (r : RelV v u)
    (h : ∀ s', Inv X pins (σ.set i (some v)) H s' → (∃ a, Heap.SameBut a s.heap s'.heap ∧ (a = X.env.locals ∨ X.env.cells.lookup x = some a)) → Q () s') (hf : X.fn x = true ∨ X.env.scope.names.lookup x = some .local := by first | exact .inl rfl | exact .inr rfl | assumption) : wpAny M A (storeName X.env x u) Q E s := by
  refine L2.o_EA (id I.loc) fun m hn hl => ?_
  have hcls : (X.env.scope.kind == .class || (X.env.scope.kind == .module && X.env.locals != X.env.globals)) = false := by rw [I.ok.kind]; rfl
  have hiσ : i < σ.length := by rw [I.len]; exact (List.getElem?_eq_some_iff.mp hi).1
  have cne := I.cne
  have tracked : ∀ {a : Addr} {h' : Heap}, (∃ o, s.heap.get? a = some o ∧ H a = none) → Heap.SameBut a s.heap h' → HOk X.prog X.w H h' := fun {a h'} ha hs b ob e => by
    refine L2.o_EA (ha) fun _ _ hfree => ?_
    refine (I.hok b ob e).stay (fun c w' hc q => (hs.2 c ?_).trans q) (fun _ q => q) fun _ _ q => q
    rintro rfl
    rcases hc with rfl | hc
    · rw [hfree] at e; cases e
    · rw [hfree] at hc; cases hc
  rcases hx with hk | hk
  · refine wpAny_storeName_local hk hn (fun h' hn' hs => ?_) hcls
    refine L2.o_EEEA (id hn) fun oL _ _ hoL _ => ?_
    refine h _ ⟨I.ok, I.os, I.bare, ⟨fun b o e n hb hx => ?_, fun b o e n hb hx => ?_, I.base.free, fun b o e hx => ?_, I.base.tups, I.base.frzs, I.base.tbls, I.base.tabs⟩, ⟨_, hn', fun j y v' e1 e2 e3 => ?_⟩, fun y c e => ?_, I.free, I.freeC, fun p hp => ?_, tracked ⟨oL, hoL, I.free⟩ hs, by simpa using I.len⟩ ⟨_, hs, .inl rfl⟩
    · exact (hs.2 b (Nat.ne_of_lt (Nat.lt_of_lt_of_le (Heap.lt_size e) I.ok.above))).trans (I.base.keep b o e n hb hx)
    · refine L2.o_E (I.base.slot b o e n hb hx) fun sl e1 => ?_
      exact ⟨sl, (hs.2 b (Nat.ne_of_lt (Nat.lt_of_lt_of_le (Heap.lt_size e) I.ok.above))).trans e1⟩
    · refine L2.o_E (I.base.there b o e hx) fun o' e1 => ?_
      exact ⟨o', (hs.2 b (Nat.ne_of_lt (Nat.lt_of_lt_of_le (Heap.lt_size e) I.ok.above))).trans e1⟩
    · by_cases hj : j = i
      · subst hj
        rw [hi] at e1; cases e1
        rw [List.getElem?_set_self hiσ] at e2
        cases e2
        exact ⟨u, r, .inl ⟨hk, by simp⟩⟩
      · rw [List.getElem?_set_ne (Ne.symm hj)] at e2
        refine L2.o_EA (hl j y v' e1 e2 e3) fun u' r' q => ?_
        refine ⟨u', r', ?_⟩
        rcases q with ⟨k, e⟩ | ⟨k, c, e, z⟩
        · refine .inl ⟨k, ?_⟩
          have : y ≠ x := fun e => hj (nodup_ix hN e1 (e ▸ hi))
          simp [this, e]
        · exact .inr ⟨k, c, e, z.sameBut hs (cne y c e)⟩
    · refine L2.o_E (I.cell y c e) fun w' z => ?_
      exact ⟨w', z.sameBut hs (cne y c e)⟩
    · refine L2.o_AAAA (I.pin p hp) fun e n ne nf d => ?_
      exact ⟨(hs.2 p.1 ne).trans e, n, ne, nf, d⟩
  · have hfn : X.fn x = true := by
      rcases hf with z | z
      · exact z
      · rw [z] at hk; cases hk
    refine L2.o_E (I.ok.has x (.inl hk)) fun c hc => ?_
    refine L2.o_E (I.cell x c hc) fun w' z => ?_
    refine wpAny_storeName_cell I.ok.kind hk hc z (fun h' hc' hs => ?_)
    refine L2.o_EA (id z) fun oc hoc hocd => ?_
    refine h { s with heap := h' } ⟨I.ok, I.os, I.bare, ⟨fun b o e n hb hx => ?_, fun b o e n hb hx => ?_, I.base.free, fun b o e hx => ?_, I.base.tups, I.base.frzs, I.base.tbls, I.base.tabs⟩, ⟨m, hn.sameBut hs (Ne.symm (cne x c hc)), fun j y v' e1 e2 e3 => ?_⟩, fun y c' e => ?_, I.free, I.freeC, fun p hp => ?_, tracked ⟨oc, hoc, (I.freeC x c hc).resolve_right fun z => by have z1 := z.1; rw [hfn] at z1; cases z1⟩ hs, by simpa using I.len⟩ ⟨c, hs, .inr hc⟩
    · exact (hs.2 b (Nat.ne_of_lt (Nat.lt_of_lt_of_le (Heap.lt_size e) (I.ok.cab x c hfn hc)))).trans (I.base.keep b o e n hb hx)
    · refine L2.o_E (I.base.slot b o e n hb hx) fun sl e1 => ?_
      exact ⟨sl, (hs.2 b (Nat.ne_of_lt (Nat.lt_of_lt_of_le (Heap.lt_size e) (I.ok.cab x c hfn hc)))).trans e1⟩
    · refine L2.o_E (I.base.there b o e hx) fun o' e1 => ?_
      exact ⟨o', (hs.2 b (Nat.ne_of_lt (Nat.lt_of_lt_of_le (Heap.lt_size e) (I.ok.cab x c hfn hc)))).trans e1⟩
    · by_cases hj : j = i
      · subst hj
        rw [hi] at e1; cases e1
        rw [List.getElem?_set_self hiσ] at e2
        cases e2
        exact ⟨u, r, .inr ⟨.inl hk, c, hc, hc'⟩⟩
      · rw [List.getElem?_set_ne (Ne.symm hj)] at e2
        refine L2.o_EA (hl j y v' e1 e2 e3) fun u' r' q => ?_
        refine ⟨u', r', ?_⟩
        rcases q with q | ⟨k, c', e, z'⟩
        · exact .inl q
        · refine .inr ⟨k, c', e, z'.sameBut hs ?_⟩
          rintro rfl
          exact hj (nodup_ix hN e1 (I.ok.inj _ _ _ e hc ▸ hi))
    · by_cases hcc : c' = c
      · subst hcc; exact ⟨_, hc'⟩
      · refine L2.o_E (I.cell y c' e) fun w2 z2 => ?_
        exact ⟨w2, z2.sameBut hs hcc⟩
    · refine L2.o_AAAA (I.pin p hp) fun e n ne nf d => ?_
      refine ⟨(hs.2 p.1 ?_).trans e, n, ne, nf, d⟩
      intro q
      rw [q, hoc] at e
      have q' : oc = p.2 := Option.some.inj e
      exact d w' (by rw [← q']; exact hocd)
theorem store_ok {M : Model} {A : Around} {E : Value → Shared → Prop} {i : Nat} {x : Str} {v : V} {u : Value} {Q : Unit → Shared → Prop} (I : Inv X pins σ H s) (hN : X.N.Nodup) (hi : X.N[i]? = some x) (hx : Loc X.env.scope x) (r : RelV v u)
    (h : ∀ s', Inv X pins (σ.set i (some v)) H s' → Q () s') (hf : X.fn x = true ∨ X.env.scope.names.lookup x = some .local := by first | exact .inl rfl | exact .inr rfl | assumption) : wpAny M A (storeName X.env x u) Q E s :=
  store_ok2 I hN hi hx r (fun s' I' _ => h s' I') hf
theorem Inv.call' {s' : Shared} {ch : List Addr} (I : Inv X pins σ H s) (ho : s'.os = s.os) (u : Un (frs X.stack) ch H H' s.heap s'.heap) (hok : HOk X.prog X.w H' s'.heap) (hg : AllBare s'.gens)
    (hch : ∀ b ∈ ch, (b ∈ X.ex ∨ X.s₀.heap.objs.size ≤ b) ∧ b ≠ X.env.locals ∧ (∀ x c, X.env.cells.lookup x = some c → c ≠ b) ∧ ∀ p ∈ X.pn ++ pins, p.1 ≠ b) : Inv X pins σ H' s' := by
  obtain ⟨h', g', d', t', o'⟩ := s'
  have e : o' = s.os := ho
  subst e
  exact I.call (g' := g') (t' := t') (d' := d') u hok hg hch
end
noncomputable abbrev XK := Value → Option Addr → Hp → Prop
noncomputable abbrev St := List (Option V)
noncomputable abbrev VK := V → Hp → Prop
noncomputable abbrev TE := St → Hp → VK → Prop
noncomputable abbrev TT := St → Hp → (Bool → Hp → Prop) → Prop
noncomputable abbrev TA := St → Hp → (List V → Hp → Prop) → Prop
structure Ends where
  nx : St → Hp → Prop
  rt : VK
  bk : St → Hp → Prop := fun _ _ => False
  ct : St → Hp → Prop := fun _ _ => False
noncomputable abbrev TS := Ends → St → Hp → Prop
inductive EP (X : Cx) (pins : List (Addr × Obj)) (σ : St) (Q : VK) (u : Value) (s' : Shared) : Prop
  | mk (v : V) (H' : Hp) (I : Inv X pins σ H' s') (r : RelV v u) (q : Q v H') : EP X pins σ Q u s'
inductive TP (X : Cx) (pins : List (Addr × Obj)) (σ : St) (Q : Bool → Hp → Prop) (b : Bool) (s' : Shared) : Prop
  | mk (H' : Hp) (I : Inv X pins σ H' s') (q : Q b H') : TP X pins σ Q b s'
theorem TP.elim {X : Cx} {pins : List (Addr × Obj)} {σ : St} {Q : Bool → Hp → Prop} {b : Bool} {s' : Shared} {P : Prop} (h : TP X pins σ Q b s') (k : ∀ H', Inv X pins σ H' s' → Q b H' → P) : P := by cases h with | mk H' I q => exact k H' I q
inductive AP (X : Cx) (pins : List (Addr × Obj)) (σ : St) (Q : List V → Hp → Prop) (us : List Value) (s' : Shared) : Prop
  | mk (vs : List V) (H' : Hp) (I : Inv X pins σ H' s') (r : Vals vs us) (q : Q vs H') : AP X pins σ Q us s'
noncomputable def SP (X : Cx) (pins : List (Addr × Obj)) (D : Ends) (f : Flow) (s' : Shared) : Prop :=
  match f with
  | .next => ∃ σ' H', Inv X pins σ' H' s' ∧ D.nx σ' H'
  | .brk => ∃ σ' H', Inv X pins σ' H' s' ∧ D.bk σ' H'
  | .cont => ∃ σ' H', Inv X pins σ' H' s' ∧ D.ct σ' H'
  | .ret u => ∃ v σ' H', Inv X pins σ' H' s' ∧ RelV v u ∧ D.rt v H'
noncomputable def PE (X : Cx) (e : Expr) (t : TE) : Prop :=
  ∀ (pins : List (Addr × Obj)) (s : Shared) (σ : St) (H : Hp) (Q : VK), Inv X pins σ H s → t σ H Q → wpAny (model X.prog X.w) X.A (eval e X.env) (EP X pins σ Q) X.xe s
noncomputable def PT (X : Cx) (e : Expr) (t : TT) : Prop :=
  ∀ (pins : List (Addr × Obj)) (s : Shared) (σ : St) (H : Hp) (Q : Bool → Hp → Prop), Inv X pins σ H s → t σ H Q → wpAny (model X.prog X.w) X.A (isTrue e X.env (eval e X.env)) (TP X pins σ Q) X.xe s
noncomputable def PW (X : Cx) (e : Expr) (t : TT) : Prop :=
  ∀ (whole : Sem Value) (pins : List (Addr × Obj)) (s : Shared) (σ : St) (H : Hp) (Q : Bool → Hp → Prop), Inv X pins σ H s → t σ H Q → wpAny (model X.prog X.w) X.A (isTrue e X.env whole) (TP X pins σ Q) X.xe s
theorem PW.pt {X : Cx} {e : Expr} {t : TT} (h : PW X e t) : PT X e t := h _
noncomputable def PA (X : Cx) (es : List Expr) (t : TA) : Prop :=
  ∀ (pos : Pos) (pins : List (Addr × Obj)) (s : Shared) (σ : St) (H : Hp) (Q : List V → Hp → Prop), Inv X pins σ H s → t σ H Q → wpAny (model X.prog X.w) X.A (spliced (backTo pos (starEach es X.env))) (AP X pins σ Q) X.xe s
noncomputable def PS (X : Cx) (st : Stmt) (t : TS) : Prop :=
  ∀ (pins : List (Addr × Obj)) (s : Shared) (σ : St) (H : Hp) (D : Ends), Inv X pins σ H s → t D σ H → wpAny (model X.prog X.w) X.A (exec st X.env) (SP X pins D) X.xe s
noncomputable def PSs (X : Cx) (st : List Stmt) (t : TS) : Prop :=
  ∀ (pins : List (Addr × Obj)) (s : Shared) (σ : St) (H : Hp) (D : Ends), Inv X pins σ H s → t D σ H → wpAny (model X.prog X.w) X.A (execs st X.env) (SP X pins D) X.xe s
theorem thn {α : Type} {t : Sem α} {Q Q' : α → Shared → Prop} {M : Model} {A : Around} {E : Value → Shared → Prop} {s : Shared} (h : wpAny M A t Q E s) (hQ : ∀ a s, Q a s → Q' a s) : wpAny M A t Q' E s := wpAny_mono h hQ fun _ _ x => x
end L2
namespace L2
open PySem PySem.Spec PyProof.Rows
section
variable {X : Cx}
noncomputable def tVar (i : Nat) : TE := fun σ H Q => ∃ v, σ[i]? = some (some v) ∧ Q v H
noncomputable def tC (v : V) : TE := fun _ H Q => Q v H
theorem pe_var {i : Nat} {x : Str} {pos : Pos} (hN : X.N[i]? = some x) (hv : Vis X.env.scope x) (hd : (x == ("__debug__" : Str)) = false := by decide) (hcd : (x == ("__classdict__" : Str)) = false := by decide) : PE X (.Name x pos) (tVar i) := by
  intro pins s σ H Q I h
  revert h
  refine fun zqq => L2.o_EA zqq fun v e h => ?_
  clear zqq
  refine L2.o_EA (I.loc) fun m hn hl => ?_
  refine L2.o_EA (hl i x v hN e hv) fun u r l => ?_
  have fin : EP X pins σ Q u s := ⟨v, H, I, r, h⟩
  rcases l with ⟨hk, hm⟩ | ⟨hk, c, hc, hcell⟩
  · exact wpAny_Name (wpAny_loadName_local I.ok.kind hk hn hm fin) hd
  · rcases hk with hk | hk
    · exact wpAny_Name (wpAny_loadName_cell I.ok.kind hk hc hcell fin) hd
    · exact wpAny_Name (wpAny_loadName_free I.ok.kind hk hc hcell fin hcd) hd
theorem pe_int {i j pos} : PE X (.Constant (.int i) j pos) (tC (.int i)) := fun _ _ _ H _ I h => wpAny_Constant_int ⟨.int i, H, I.tok _, ⟨_, rfl⟩, h⟩
theorem pe_bl {b j pos} : PE X (.Constant (.bool b) j pos) (tC (.bl b)) := fun _ _ _ H _ I h => Constant_bool ⟨.bl b, H, I, rfl, h⟩
theorem pe_non {j pos} : PE X (.Constant .none j pos) (tC .non) := fun _ _ _ H _ I h => Constant_none ⟨.non, H, I, rfl, h⟩
theorem pe_str {x j pos} : PE X (.Constant (.str x) j pos) (tC (.str x)) := fun _ _ _ H _ I h => Calls.Constant_str ⟨.str x, H, I.tok _, ⟨_, rfl⟩, h⟩
noncomputable def Gl (X : Cx) (x : Str) : Prop := X.env.kindOf x = some .globalImplicit
theorem ld_glob {E : Value → Shared → Prop} {pins : List (Addr × Obj)} {s : Shared} {σ : St} {H : Hp} {x : Str} {u : Value} {pos : Pos} {Q : Value → Shared → Prop} (I : Inv X pins σ H s) (hg : Gl X x) (hm : X.mg x = some u) (h : Q u s)
    (hd : (x == ("__debug__" : Str)) = false := by decide) : wpAny (model X.prog X.w) X.A (eval (.Name x pos) X.env) Q E s :=
  Calls.Name_function_global I.ok.kind hg (Calls.loadGlobal_global (by rw [I.ok.glob]; exact I.mod.glob.keeps I.bk) hm h) hd
theorem ld_blt {E : Value → Shared → Prop} {pins : List (Addr × Obj)} {s : Shared} {σ : St} {H : Hp} {x : Str} {u : Value} {pos : Pos} {Q : Value → Shared → Prop} (I : Inv X pins σ H s) (hg : Gl X x) (hm : X.mg x = none) (hv : bootBuiltins x = some u) (h : Q u s)
    (hn : x ≠ "__name__" := by decide) (hd : (x == ("__debug__" : Str)) = false := by decide) : wpAny (model X.prog X.w) X.A (eval (.Name x pos) X.env) Q E s := by
  refine L2.o_EA (I.mod.blt) fun mb h1 h2 => ?_
  exact Calls.Name_function_global I.ok.kind hg (Calls.loadGlobal_builtin (by rw [I.ok.glob]; exact I.mod.glob.keeps I.bk) hm (by rw [I.ok.blt]; exact h1.keeps I.bk) ((h2 x hn).trans hv) h) hd
theorem pe_glob {x : Str} {v : V} {u : Value} {pos : Pos} (hg : Gl X x) (hm : X.mg x = some u) (r : RelV v u) (hd : (x == ("__debug__" : Str)) = false := by decide) : PE X (.Name x pos) (tC v) :=
  fun _ _ _ H _ I h => ld_glob I hg hm ⟨v, H, I, r, h⟩ hd
theorem pe_bltn {x : Str} {v : V} {u : Value} {pos : Pos} (hg : Gl X x) (hm : X.mg x = none) (hv : bootBuiltins x = some u) (r : RelV v u) (hn : x ≠ "__name__" := by decide) (hd : (x == ("__debug__" : Str)) = false := by decide) : PE X (.Name x pos) (tC v) :=
  fun _ _ _ H _ I h => ld_blt I hg hm hv ⟨v, H, I, r, h⟩ hn hd
noncomputable def t2I (ta tb : TE) (k : Int → Int → Hp → Prop) : St → Hp → Prop := fun σ H => ta σ H fun x H1 => tb σ H1 fun y H2 => ∃ i j, x = .int i ∧ y = .int j ∧ k i j H2
variable {a b : Expr} {ta tb : TE} {pos : Pos}
noncomputable def PC (X : Cx) (op : CmpOp) (a b : Expr) (t : TE) : Prop :=
  ∀ (pins : List (Addr × Obj)) (s : Shared) (σ : St) (H : Hp) (Q : VK), Inv X pins σ H s → t σ H Q →
    wpAny (model X.prog X.w) X.A (eval a X.env) (fun v s₁ => wpAny (model X.prog X.w) X.A (eval b X.env) (fun u s₂ => wpAny (model X.prog X.w) X.A (compareOp op v u) (EP X pins σ Q) X.xe s₂) X.xe s₁) X.xe s
noncomputable def tCmp (p : Int → Int → Bool) (ta tb : TE) : TE := fun σ H Q => t2I ta tb (fun i j H2 => Q (.bl (p i j)) H2) σ H
noncomputable abbrev tLt : TE → TE → TE := tCmp fun i j => decide (i < j)
noncomputable abbrev tLe : TE → TE → TE := tCmp fun i j => decide (i ≤ j)
noncomputable abbrev tGt : TE → TE → TE := tCmp fun i j => decide (j < i)
noncomputable abbrev tGe : TE → TE → TE := tCmp fun i j => decide (j ≤ i)
noncomputable abbrev tEqI : TE → TE → TE := tCmp fun i j => decide (i = j)
noncomputable abbrev tNeI : TE → TE → TE := tCmp fun i j => !decide (i = j)
noncomputable def tB (t : TE) : TT := fun σ H Q => t σ H fun x H1 => ∃ c, x = .bl c ∧ Q c H1
theorem pt_val {e : Expr} {t : TE} (h : PE X e t) (he : ∀ whole, isTrue e X.env whole = (do let v ← whole; standAt e.pos; holding [v] (truthy v)) := by intro _; rfl) : PT X e (tB t) := by
  intro pins s σ H Q I hw
  refine isTrue_plain (thn (h pins s σ H _ I hw) fun v s1 ⟨x, H1, I1, r1, q1⟩ => ?_) (he _)
  revert q1
  refine fun zqq => L2.o_EA zqq fun d zq1 q => ?_
  clear zqq
  subst zq1
  cases r1
  exact wpAny_truthy_bool ⟨H1, I1, q⟩
variable {tA tB' : TT} {rest : List Expr}
noncomputable def tAnd (t u : TT) : TT := fun σ H Q => t σ H fun c H1 => if c = true then u σ H1 Q else Q false H1
noncomputable def tOr (t u : TT) : TT := fun σ H Q => t σ H fun c H1 => if c = true then Q true H1 else u σ H1 Q
noncomputable def tNot (t : TT) : TT := fun σ H Q => t σ H fun c H1 => Q (!c) H1
theorem pw_and1 (ha : PT X a tA) : PW X (.BoolOp .And [a] pos) tA := by
  intro wh pins s σ H Q I h
  refine isTrue_and (thn (ha pins s σ H Q I h) fun c s1 e => ?_)
  cases c with
  | true => exact isTrue_and_nil e
  | false => exact e
theorem pw_or1 (ha : PT X a tA) : PW X (.BoolOp .Or [a] pos) tA := by
  intro wh pins s σ H Q I h
  refine isTrue_or (thn (ha pins s σ H Q I h) fun c s1 e => ?_)
  cases c with
  | false => exact isTrue_or_nil e
  | true => exact e
theorem pw_and (ha : PT X a tA) (hb : PW X (.BoolOp .And (b :: rest) pos) tB') : PW X (.BoolOp .And (a :: b :: rest) pos) (tAnd tA tB') := by
  intro wh pins s σ H Q I h
  refine isTrue_and (thn (ha pins s σ H _ I h) fun c s1 zpat => ?_)
  obtain ⟨H1, I1, q1⟩ := zpat
  cases c with
  | true => exact hb wh pins s1 σ H1 Q I1 q1
  | false => exact ⟨H1, I1, q1⟩
theorem pw_or (ha : PT X a tA) (hb : PW X (.BoolOp .Or (b :: rest) pos) tB') : PW X (.BoolOp .Or (a :: b :: rest) pos) (tOr tA tB') := by
  intro wh pins s σ H Q I h
  refine isTrue_or (thn (ha pins s σ H _ I h) fun c s1 zpat => ?_)
  obtain ⟨H1, I1, q1⟩ := zpat
  cases c with
  | true => exact ⟨H1, I1, q1⟩
  | false => exact hb wh pins s1 σ H1 Q I1 q1
theorem pt_not (ha : PT X a tA) : PT X (.UnaryOp .Not a pos) (tNot tA) := by
  intro pins s σ H Q I h
  exact isTrue_not (wpAny_mono (ha pins s σ H (fun c H1 => Q (!c) H1) I h) (fun c s' q => q.elim fun H' I' q' => ⟨H', I', q'⟩) fun _ _ z => z)
end
end L2
namespace L2
open PySem PySem.Spec PyProof.Rows
noncomputable def SqL (K : PySem.W.Frag) (H : Hp) (a : Addr) (xs : List V) : Prop :=
  Rd H a (.lst xs) ∨
    ∃ (o : Obj) (its : Array Value) (n : Nat), K.lookup a = some o ∧ o.cls = .type "list" ∧ o.dict = none ∧ o.data = .seq its n ∧ its.size ≤ sizeLine ∧ Vals xs its.toList
noncomputable def SqT (K : PySem.W.Frag) (H : Hp) (a : Addr) (xs : List V) : Prop :=
  Rd H a (.tup xs) ∨
    ∃ (o : Obj) (its : Array Value) (n : Nat), K.lookup a = some o ∧ o.cls = .type "tuple" ∧ o.data = .seq its n ∧ its.size ≤ sizeLine ∧ Vals xs its.toList
noncomputable def absV : Value → Option V
  | .none => some .non
  | .bool b => some (.bl b)
  | .int i _ => some (.int i)
  | .str x _ => some (.str x)
  | .bytes b _ => some (.byt b)
  | .float b _ => some (.flt b)
  | .ref a => some (.ref a)
  | .type n => some (.ty n)
  | _ => none
theorem RelV.abs {x : V} {u : Value} (r : RelV x u) : absV u = some x := by
  cases x with
  | non => cases r; rfl
  | bl _ => cases r; rfl
  | int _ => obtain ⟨t, rfl⟩ := r; rfl
  | str _ => obtain ⟨t, rfl⟩ := r; rfl
  | byt _ => obtain ⟨t, rfl⟩ := r; rfl
  | flt _ => obtain ⟨t, rfl⟩ := r; rfl
  | ref _ => cases r; rfl
  | ty _ => cases r; rfl
theorem RelV.inj {x y : V} {u : Value} (r : RelV x u) (q : RelV y u) : x = y := Option.some.inj (r.abs.symm.trans q.abs)
theorem Vals.inj {xs ys : List V} {us : List Value} (h : Vals xs us) (h' : Vals ys us) : xs = ys := by
  induction h generalizing ys with
  | nil => cases h'; rfl
  | cons r t ih =>
    cases h' with
    | cons r' t' => rw [r.inj r', ih t']
section
variable {X : Cx} {pins : List (Addr × Obj)} {σ : St} {H : Hp} {s : Shared} {a : Addr} {xs ys : List V}
theorem SqL.of {K : PySem.W.Frag} (h : H a = some (.lst xs)) : SqL K H a xs := .inl (.inl h)
theorem SqT.of {K : PySem.W.Frag} (h : H a = some (.tup xs)) : SqT K H a xs := .inl (.inl h)
theorem Inv.list (I : Inv X pins σ H s) (h : SqL X.K H a xs) : ∃ its : List Value, Vals xs its ∧ PlainL s.heap a its.toArray ∧ xs.length ≤ sizeLine := by
  rcases h with h | ⟨o, its, n, hk, hc, hd, hs, hz, r⟩
  · refine L2.o_AEEA (h.ok I.hok) fun z its n r e => ?_
    exact ⟨its, r, ⟨_, n, e, rfl, rfl, rfl⟩, z⟩
  · refine ⟨its.toList, r, ⟨o, n, I.kIn a o hk, hc, hd, by simpa using hs⟩, ?_⟩
    have e := r.length
    simp only [Array.length_toList] at e
    omega
theorem Inv.tuple (I : Inv X pins σ H s) (h : SqT X.K H a xs) : ∃ its : List Value, Vals xs its ∧ IsTup s.heap a its.toArray ∧ xs.length ≤ sizeLine := by
  rcases h with h | ⟨o, its, n, hk, hc, hs, hz, r⟩
  · refine L2.o_AEA (h.ok I.hok) fun z its r p => ?_
    exact ⟨its, r, p, z⟩
  · refine ⟨its.toList, r, ⟨o, I.kIn a o hk, hc, n, by simpa using hs⟩, ?_⟩
    have e := r.length
    simp only [Array.length_toList] at e
    omega
theorem Inv.list_inj (I : Inv X pins σ H s) (h : SqL X.K H a xs) (h' : SqL X.K H a ys) : xs = ys := by
  obtain ⟨its, r, ⟨o, n, e, _, _, d⟩, _⟩ := I.list h
  obtain ⟨its', r', ⟨o', n', e', _, _, d'⟩, _⟩ := I.list h'
  rw [e] at e'; cases e'
  rw [d] at d'
  injection d' with d1 _
  have : its = its' := by simpa using congrArg Array.toList d1
  subst this
  exact r.inj r'
end
noncomputable abbrev Cx.wish (X : Cx) (E : Value → Shared → Prop) : Cx := { X with xe := E }
noncomputable abbrev Cx.nox (X : Cx) : Cx := X.wish fun _ _ => False
theorem Cx.Ok.wish {X : Cx} (ok : X.Ok) (E : Value → Shared → Prop) : (X.wish E).Ok :=
  ⟨ok.mod, ok.kind, ok.glob, ok.blt, ok.above, ok.inj, ok.has, ok.cab, ok.hd, ok.frames, ok.stk, ok.exf, ok.bs, ok.bsz, ok.noex, ok.exfs, ok.funs, ok.frf, ok.tabs⟩
theorem Cx.Ok.unwish {X : Cx} {E : Value → Shared → Prop} (ok : (X.wish E).Ok) : X.Ok :=
  ⟨ok.mod, ok.kind, ok.glob, ok.blt, ok.above, ok.inj, ok.has, ok.cab, ok.hd, ok.frames, ok.stk, ok.exf, ok.bs, ok.bsz, ok.noex, ok.exfs, ok.funs, ok.frf, ok.tabs⟩
section
variable {X : Cx} {pins : List (Addr × Obj)} {σ : St} {H : Hp} {s : Shared} {E : Value → Shared → Prop}
theorem Inv.wish (I : Inv X pins σ H s) (E : Value → Shared → Prop) : Inv (X.wish E) pins σ H s := ⟨I.ok.wish E, I.os, I.bare, I.base, I.loc, I.cell, I.free, I.freeC, I.pin, I.hok, I.len⟩
theorem Inv.unwish (I : Inv (X.wish E) pins σ H s) : Inv X pins σ H s := ⟨I.ok.unwish, I.os, I.bare, I.base, I.loc, I.cell, I.free, I.freeC, I.pin, I.hok, I.len⟩
theorem SP.unwish {D : Ends} {f : Flow} {s' : Shared} (h : SP (X.wish E) pins D f s') : SP X pins D f s' := by
  cases f with
  | next => obtain ⟨σ', H', I, q⟩ := h; exact ⟨σ', H', I.unwish, q⟩
  | brk => obtain ⟨σ', H', I, q⟩ := h; exact ⟨σ', H', I.unwish, q⟩
  | cont => obtain ⟨σ', H', I, q⟩ := h; exact ⟨σ', H', I.unwish, q⟩
  | ret u => obtain ⟨v, σ', H', I, r, q⟩ := h; exact ⟨v, σ', H', I.unwish, r, q⟩
theorem PT.nox {e : Expr} {t : TT} (h : PT X.nox e t) : PT X e t := fun pins s σ H Q I hw =>
  wpAny_mono (h pins s σ H Q (I.wish _) hw) (fun _ _ ⟨H', I', q⟩ => ⟨H', I'.unwish, q⟩) fun _ _ z => False.elim z
theorem PSs.nox {st : List Stmt} {t : TS} (h : PSs X.nox st t) : PSs X st t := fun pins s σ H D I hw =>
  wpAny_mono (h pins s σ H D (I.wish _) hw) (fun _ _ q => q.unwish) fun _ _ z => False.elim z
end
section
variable {X : Cx} {st : Stmt} {rest : List Stmt} {t u : TS} {e : Expr} {te : TE} {pos : Pos}
noncomputable def tNext : TS := fun D σ H => D.nx σ H
noncomputable def tSeq (t u : TS) : TS := fun D σ H => t { D with nx := u D } σ H
theorem pss_nil : PSs X [] tNext := fun _ _ σ H _ I h => wpAny_execs_nil ⟨σ, H, I, h⟩
theorem pss_cons (h1 : PS X st t) (h2 : PSs X rest u) : PSs X (st :: rest) (tSeq t u) := by
  intro pins s σ H D I h
  refine wpAny_execs_cons (thn (h1 pins s σ H { D with nx := u D } I h) fun f s1 q => ?_)
  cases f with
  | next =>
    revert q
    refine fun zqq => L2.o_EEA zqq fun σ' H' I' q => ?_
    clear zqq
    exact h2 pins s1 σ' H' D I' q
  | ret v => exact q
  | brk => exact q
  | cont => exact q
theorem pss_one (h1 : PS X st t) : PSs X [st] t := by
  intro pins s σ H D I h
  refine wpAny_execs_cons (thn (h1 pins s σ H D I h) fun f s1 q => ?_)
  cases f with
  | next => exact wpAny_execs_nil q
  | ret v => exact q
  | brk => exact q
  | cont => exact q
theorem Inv.quiet {pins : List (Addr × Obj)} {σ : St} {H : Hp} {s : Shared} (I : Inv X pins σ H s) : interactive X.env = false := by simp [interactive, I.ok.kind]
noncomputable def tDrop (te : TE) : TS := fun D σ H => te σ H fun _ H1 => D.nx σ H1
theorem ps_expr (he : PE X e te) (hs : swapsWith e none pos.line X.env = pure false := by rfl) : PS X (.Expr e pos) (tDrop te) := by
  intro pins s σ H D I h
  exact wpAny_Expr_any (thn (he pins s σ H _ I h) fun v s1 ⟨x, H1, I1, r1, q1⟩ => ⟨σ, H1, I1, q1⟩) I.quiet hs
noncomputable def tRet (te : TE) : TS := fun D σ H => te σ H D.rt
theorem ps_ret (he : PE X e te) : PS X (.Return (some e) pos) (tRet te) := by
  intro pins s σ H D I h
  exact wpAny_Return_some (thn (he pins s σ H _ I h) fun v s1 ⟨x, H1, I1, r1, q1⟩ => ⟨x, σ, H1, I1, r1, q1⟩)
noncomputable def tIfS (c : TT) (t u : TS) : TS := fun D σ H => c σ H fun b H1 => if b = true then t D σ H1 else u D σ H1
theorem ps_if {c : Expr} {a b : List Stmt} {tc : TT} (hc : PT X c tc) (ha : PSs X a t) (hb : PSs X b u) : PS X (.If c a b pos) (tIfS tc t u) := by
  intro pins s σ H D I h
  refine wpAny_If (thn (hc pins s σ H _ I h) fun d s1 zpat => ?_)
  obtain ⟨H1, I1, q1⟩ := zpat
  cases d with
  | true => exact ha pins s1 σ H1 D I1 q1
  | false => exact hb pins s1 σ H1 D I1 q1
noncomputable def tNever : TS := fun _ _ _ => False
theorem pss_never {sts : List Stmt} : PSs X sts tNever := fun _ _ _ _ _ _ h => h.elim
end
noncomputable abbrev TG := V → St → Hp → (St → Hp → Prop) → Prop
noncomputable abbrev TGs := List V → St → Hp → (St → Hp → Prop) → Prop
noncomputable def PG (X : Cx) (target : Expr) (t : TG) : Prop :=
  ∀ (pins : List (Addr × Obj)) (s : Shared) (σ : St) (H : Hp) (v : V) (u : Value) (Q : St → Hp → Prop), Inv X pins σ H s → RelV v u → t v σ H Q →
    wpAny (model X.prog X.w) X.A (assign target X.env u) (fun _ s' => ∃ σ' H', Inv X pins σ' H' s' ∧ Q σ' H') X.xe s
noncomputable def PGs (X : Cx) (ts : List Expr) (t : TGs) : Prop :=
  ∀ (pins : List (Addr × Obj)) (s : Shared) (σ : St) (H : Hp) (vs : List V) (us : List Value) (Q : St → Hp → Prop), Inv X pins σ H s → Vals vs us → t vs σ H Q →
    wpAny (model X.prog X.w) X.A (assignInOrder ((assignEach ts X.env).map (·.2)) us) (fun _ s' => ∃ σ' H', Inv X pins σ' H' s' ∧ Q σ' H') X.xe s
noncomputable abbrev TSet := V → V → V → Hp → (Hp → Prop) → Prop
noncomputable abbrev TIp := V → V → Hp → VK → Prop
section
variable {X : Cx} {pos : Pos}
noncomputable def gName (i : Nat) : TG := fun v σ H Q => Q (σ.set i (some v)) H
theorem pg_name {i : Nat} {x : Str} (hN : X.N.Nodup) (hi : X.N[i]? = some x) (hx : Loc X.env.scope x) (hf : X.fn x = true ∨ X.env.scope.names.lookup x = some .local := by first | exact .inl rfl | exact .inr rfl | assumption) : PG X (.Name x pos) (gName i) := by
  intro pins s σ H v u Q I r h
  exact wpAny_assign_Name (store_ok I hN hi hx r (fun s' I' => ⟨_, H, I', h⟩) hf)
noncomputable def gNil : TGs := fun vs σ H Q => vs = [] ∧ Q σ H
noncomputable def gCons (t : TG) (u : TGs) : TGs := fun vs σ H Q => ∃ v r, vs = v :: r ∧ t v σ H fun σ' H' => u r σ' H' Q
theorem pgs_nil : PGs X [] gNil := by
  intro pins s σ H vs us Q I r h
  revert h
  refine fun zqq => L2.o_A zqq fun e h => ?_
  clear zqq
  subst e
  cases r
  exact assignInOrder_nil ⟨σ, H, I, h⟩
theorem pgs_cons {e : Expr} {es : List Expr} {t : TG} {u : TGs} (h1 : PG X e t) (h2 : PGs X es u)
    (hs : (assignEach (e :: es) X.env).map (·.2) = assign e X.env :: (assignEach es X.env).map (·.2) := by rfl) : PGs X (e :: es) (gCons t u) := by
  intro pins s σ H vs us Q I r h
  revert h
  refine fun zqq => L2.o_EEA zqq fun v vr e1 h => ?_
  clear zqq
  subst e1
  cases r with
  | cons r rr =>
    rw [hs]
    refine assignInOrder_cons (thn (h1 pins s σ H _ _ _ I r h) fun _ s1 zpat => ?_)
    refine L2.o_EEA (zpat) fun σ1 H1 I1 q1 => ?_
    exact h2 pins s1 σ1 H1 _ _ Q I1 rr q1
noncomputable def gTup (K : PySem.W.Frag) (n : Nat) (t : TGs) : TG := fun v σ H Q => ∃ a xs, v = .ref a ∧ SqT K H a xs ∧ xs.length = n ∧ t xs σ H Q
theorem pg_tup {es : List Expr} {k : Nat} {t : TGs} {n : Nat} (hc : X.calm = true) (h : PGs X es t)
    (hn : (assignEach es X.env).length = n := by rfl) (hst : (assignEach es X.env).findIdx? (·.1) = none := by rfl) : PG X (.Tuple es k pos) (gTup X.K n t) := by
  intro pins s σ H v u Q I r hw
  revert hw
  refine fun zqq => L2.o_EEAAA zqq fun a xs e1 hq hl hw => ?_
  clear zqq
  subst e1
  cases r
  refine L2.o_EAA (I.tuple hq) fun its rv ht hz => ?_
  refine assign_Tuple_tuple (I.ok.hd hc) ht (by simp [hn, ← hl, rv.length]) hst fun h' hx => ?_
  have I1 : Inv X pins σ H { s with heap := h' } := I.kept (t' := s.toks) fun b o e => hx b o (Nat.ne_of_lt (Heap.lt_size e)) e
  exact h pins _ σ H xs _ Q I1 (by simpa using rv) hw
noncomputable def tAsg (te : TE) (g : TG) : TS := fun D σ H => te σ H fun x H1 => g x σ H1 D.nx
theorem ps_set {i : Nat} {x : Str} {e : Expr} {te : TE} {pos' : Pos} (hN : X.N.Nodup) (hi : X.N[i]? = some x) (hx : Loc X.env.scope x) (he : PE X e te) (hs : swapsWith e (some (.Name x pos')) pos.line X.env = pure false := by rfl) (hf : X.fn x = true ∨ X.env.scope.names.lookup x = some .local := by first | exact .inl rfl | exact .inr rfl | assumption) :
    PS X (.Assign [.Name x pos'] e pos) (tAsg te (gName i)) := by
  intro pins s σ H D I h
  refine wpAny_Assign_Name (thn (he pins s σ H _ I h) fun v s1 ⟨y, H1, I1, r1, q1⟩ => ?_) hs
  exact store_ok I1 hN hi hx r1 (fun s2 I2 => ⟨_, H1, I2, q1⟩) hf
noncomputable def tPar (i j : Nat) (ta : TA) : TS := fun D σ H => ta σ H fun vs H1 => ∃ v w, vs = [v, w] ∧ D.nx ((σ.set i (some v)).set j (some w)) H1
theorem ps_par {i j : Nat} {x y : Str} {a b : Expr} {ta : TA} {px py pt : Pos} {kt k2 pt2} (hc : X.calm = true) (hN : X.N.Nodup) (hi : X.N[i]? = some x) (hj : X.N[j]? = some y) (hij : i ≠ j)
    (hx : X.env.scope.names.lookup x = some .local) (hy : X.env.scope.names.lookup y = some .local) (ha : PA X [a, b] ta)
    (hw : swappedStores [.Tuple [.Name x px, .Name y py] kt pt] (.Tuple [a, b] k2 pt2) X.env = pure (some [x, y]))
    (hs : swapsWithSole [.Tuple [.Name x px, .Name y py] kt pt] (.Tuple [a, b] k2 pt2) pos.line X.env = pure false := by rfl) :
    PS X (.Assign [.Tuple [.Name x px, .Name y py] kt pt] (.Tuple [a, b] k2 pt2) pos) (tPar i j ta) := by
  intro pins s σ H D I h
  rw [exec_Assign_arm]
  refine wpAny_bind (wpAny_standAt ?_)
  rw [hs]
  refine wpAny_bind (wpAny_pure ?_)
  rw [if_neg (by decide)]
  refine wpAny_bind (Tuple_ (thn (ha _ pins s σ H _ I h) fun us s1 zpat => ?_))
  obtain ⟨vs, H1, I1, r1, q1⟩ := zpat
  revert q1
  refine fun zqq => L2.o_EEA zqq fun v w e1 q1 => ?_
  clear zqq
  subst e1
  obtain ⟨u1, u2, rfl, rv, rw'⟩ : ∃ u1 u2, us = [u1, u2] ∧ RelV v u1 ∧ RelV w u2 := by
    cases r1 with
    | cons p q =>
      cases q with
      | cons p' q' =>
        cases q'
        exact L2.i_EEAA (_) (_) (rfl) (p) (p')
  refine wpAny_newObj_type ?_ (by show 2 ≤ sizeLine; decide)
  have I2 : Inv X pins σ H1 { s1 with heap := s1.heap.push { cls := .type "tuple", data := .seq [u1, u2].toArray } } := I1.kept (t' := s1.toks) fun b o e => Heap.get?_push_of_some _ e
  rw [hw]
  refine wpAny_bind (wpAny_pure ?_)
  show wpAny (model X.prog X.w) X.A (do rule "assign.swapped-stores"; let items ← unpackItems (.ref s1.heap.objs.size) 2 none; assignInOrder [fun v => bindName X.env y v, fun v => bindName X.env x v] items.reverse; pure Flow.next) _ _ _
  refine wpAny_bind (wpAny_rule (wpAny_bind (unpackItems_tuple (items := #[u1, u2]) (I.ok.hd hc) (IsTup.new s1.heap _) fun h' hx' => ?_)))
  have I3 := I2.kept (h' := h') (t' := s1.toks) fun b o e => hx' b o (Nat.ne_of_lt (Heap.lt_size e)) e
  show wpAny _ _ (assignInOrder [fun v => bindName X.env y v, fun v => bindName X.env x v] [u2, u1] >>= fun _ => pure Flow.next) _ _ _
  refine wpAny_bind (assignInOrder_cons (wpAny_bindName (store_ok I3 hN hj (.inl hy) rw' (fun s2 I4 => ?_) (.inr hy))))
  refine assignInOrder_cons (wpAny_bindName (store_ok I4 hN hi (.inl hx) rv (fun s3 I5 => assignInOrder_nil (wpAny_pure ?_)) (.inr hx)))
  rw [List.set_comm _ _ (Ne.symm hij)] at I5
  exact L2.i_EEA (_) (H1) (I5) (q1)
end
section
variable {X : Cx} {pos : Pos}
noncomputable def tWhile (c : TT) (tb : TS) : TS := fun D σ H => ∃ W : Nat → St → Hp → Prop, (∃ m, W m σ H) ∧ ∀ m σ H, W m σ H →
  c σ H fun b H1 => if b = true then ∃ N : St → Hp → Prop, (∀ σ' H', N σ' H' → ∃ m', m' < m ∧ W m' σ' H') ∧ tb { D with nx := N, ct := N, bk := D.nx } σ H1 else D.nx σ H1
theorem ps_while {c : Expr} {body : List Stmt} {tc : TT} {tb : TS} (hp : PassesOwn (model X.prog X.w) X.A X.env X.xe) (hc : PT X c tc) (hb : PSs X body tb) : PS X (.While c body [] pos) (tWhile tc tb) := by
  intro pins s σ H D I h
  obtain ⟨W, ⟨m0, w0⟩, turn⟩ := h
  refine wpAny_While (codeAny_whileLoop (fun n s' => ∃ σ' H', Inv X pins σ' H' s' ∧ W n σ' H') ?_ m0 ⟨σ, H, I, w0⟩)
  rintro n s1 ⟨σ1, H1, I1, w1⟩
  refine wpAny_passesOwn hp (thn (hc pins s1 σ1 H1 _ I1 (turn n σ1 H1 w1)) fun b s2 zpat => ?_)
  obtain ⟨H2, I2, q2⟩ := zpat
  cases b with
  | true =>
    revert q2
    refine fun zqq => L2.o_EA zqq fun N hN q2 => ?_
    clear zqq
    rw [if_pos rfl]
    refine wpAny_passesOwn hp (thn (hb pins s2 σ1 H2 _ I2 q2) fun f s3 q3 => ?_)
    cases f with
    | next =>
      refine L2.o_EEA (q3) fun σ3 H3 I3 n3 => ?_
      refine L2.o_EA (hN σ3 H3 n3) fun m' hm w3 => ?_
      exact L2.i_EAEEA (m') (hm) (σ3) (H3) (I3) (w3)
    | cont =>
      refine L2.o_EEA (q3) fun σ3 H3 I3 n3 => ?_
      refine L2.o_EA (hN σ3 H3 n3) fun m' hm w3 => ?_
      exact L2.i_EAEEA (m') (hm) (σ3) (H3) (I3) (w3)
    | brk => exact q3
    | ret v => exact q3
  | false =>
    rw [if_neg Bool.false_ne_true]
    exact wpAny_execs_nil ⟨σ1, H2, I2, q2⟩
end
structure It where
  go : Nat → Hp → Prop
  yld : Nat → Hp → V → Hp → Prop
  stop : Nat → Hp → Prop
noncomputable def FpOk (X : Cx) (pins : List (Addr × Obj)) (H : Hp) (b : Addr) : Prop :=
  H b = none ∧ b ≠ X.env.locals ∧ b ∉ X.fs ∧ (b ∈ X.ex ∨ X.s₀.heap.objs.size ≤ b) ∧ (∀ x c, X.env.cells.lookup x = some c → c ≠ b) ∧ ∀ p ∈ X.pn ++ pins, p.1 ≠ b
theorem Inv.fpOk {X : Cx} {pins : List (Addr × Obj)} {σ : St} {H H' : Hp} {s : Shared} {b : Addr} (I : Inv X pins σ H s) (hb : s.heap.objs.size ≤ b) (hn : H' b = none) : FpOk X pins H' b := by
  refine ⟨hn, Nat.ne_of_gt (Nat.lt_of_lt_of_le I.lt hb), I.nofs hb, .inr (Nat.le_trans I.sz hb), fun x c e z => ?_, fun p hp z => ?_⟩
  · refine L2.o_E (I.cell x c e) fun v q => ?_
    exact absurd (Nat.lt_of_lt_of_le q.lt (by rw [z]; exact hb)) (Nat.lt_irrefl _)
  · exact absurd (Nat.lt_of_lt_of_le (Heap.lt_size (I.pin p hp).1) (by rw [z]; exact hb)) (Nat.lt_irrefl _)
structure Turn (P : Program) (w : World) (K : PySem.W.Frag) (tg : Expr) (J : It) (fp : List Addr) (it : Addr) (tn : Nat → Heap → Prop) : Prop where
  mem : it ∈ fp
  obj : ∀ i h, tn i h → ∀ b ∈ fp, ∃ o, h.get? b = some o ∧ ∀ v, o.data ≠ .cell v
  keep : ∀ i h h', tn i h → (∀ b ∈ fp, ∀ o, h.get? b = some o → h'.get? b = some o) → tn i h'
  item : ∀ (X : Cx), X.prog = P → X.w = w → X.K = K → X.calm = true → ∀ (i : Nat) (pins : List (Addr × Obj)) (s : Shared) (σ : St) (H : Hp) (E : Value → Shared → Prop), Inv X pins σ H s → (∀ b ∈ fp, FpOk X pins H b) → tn i s.heap → J.go i H →
    wpAny (model P w) X.A (pyNext (.ref it)) (fun r s1 => ∃ u, r = some u ∧
      wpAny (model P w) X.A (letOwnedTupleGo tg (.ref it) u) (fun _ s2 => ∃ x H', Inv X pins σ H' s2 ∧ RelV x u ∧ J.yld i H x H' ∧ tn (i + 1) s2.heap ∧ ∀ b ∈ fp, H' b = none) E s1) E s
  done : ∀ (X : Cx), X.prog = P → X.w = w → X.K = K → X.calm = true → ∀ (i : Nat) (pins : List (Addr × Obj)) (s : Shared) (σ : St) (H : Hp) (E : Value → Shared → Prop), Inv X pins σ H s → (∀ b ∈ fp, FpOk X pins H b) → tn i s.heap → J.stop i H →
    wpAny (model P w) X.A (pyNext (.ref it)) (fun r s1 => r = none ∧ Inv X pins σ H s1) E s
  self : ∀ (A : Around) (i : Nat) (s : Shared) (Q : Value → Shared → Prop) (E : Value → Shared → Prop), tn i s.heap → Q (.ref it) s → wpAny (model P w) A (pyIter (.ref it)) Q E s
noncomputable abbrev TI := St → Hp → (It → Hp → Prop) → Prop
noncomputable def PIE (X : Cx) (pins : List (Addr × Obj)) (σ : St) (tg : Expr) (R : It → Hp → Prop) (itv : Value) (s2 : Shared) : Prop :=
  ∃ (it : Addr) (fp : List Addr) (tn : Nat → Heap → Prop) (J : It) (H' : Hp), itv = .ref it ∧ Inv X pins σ H' s2 ∧ Turn X.prog X.w X.K tg J fp it tn ∧ tn 0 s2.heap ∧ (∀ b ∈ fp, FpOk X pins H' b) ∧ R J H'
noncomputable def PI (X : Cx) (tg iter : Expr) (wi : TI) : Prop :=
  ∀ (pins : List (Addr × Obj)) (s : Shared) (σ : St) (H : Hp) (R : It → Hp → Prop), Inv X pins σ H s → wi σ H R →
    wpAny (model X.prog X.w) X.A (eval iter X.env) (fun v s1 => wpAny (model X.prog X.w) X.A (pyIter v) (PIE X pins σ tg R) X.xe s1) X.xe s
theorem go_of {M : Model} {A : Around} {E : Value → Shared → Prop} {s : Shared} {tg : Expr} {it : Addr} {u : Value} {o : Obj} {n : String} {vs : Array Value} {Q : Unit → Shared → Prop} (ho : s.heap.get? it = some o) (hc : o.cls = .type n) (hd : o.data = .fields vs)
    (hn : ["enumerate", "zip", "dict_itemiterator", "dict_reverseitemiterator", "odict_iterator", "itertools.zip_longest", "itertools.pairwise"].contains n = false) (hQ : Q () s) : wpAny M A (letOwnedTupleGo tg (.ref it) u) Q E s := by
  unfold letOwnedTupleGo
  cases tg <;> first
    | exact wpAny_pure hQ
    | (cases u <;> first
        | exact wpAny_pure hQ
        | (refine wpAny_bind (wpAny_load ho ?_)
           rw [hc, hd]
           show wpAny M A (if (["enumerate", "zip", "dict_itemiterator", "dict_reverseitemiterator", "odict_iterator", "itertools.zip_longest", "itertools.pairwise"].contains n && vs[0]? == some (rawInt _)) = true then _ else _) Q E s
           rw [if_neg (by intro h; rw [hn, Bool.false_and] at h; cases h)]
           exact wpAny_pure hQ))
noncomputable def Itl (K : PySem.W.Frag) (a : Addr) : It :=
  ⟨fun i H => ∃ xs x, SqL K H a xs ∧ xs[i]? = some x, fun i H x H' => H' = H ∧ ∀ xs, SqL K H a xs → xs[i]? = some x, fun i H => ∃ xs, SqL K H a xs ∧ xs.length ≤ i⟩
noncomputable def Itr (lo : Int) (n : Nat) : It := ⟨fun i _ => i < n, fun i H x H' => H' = H ∧ x = .int (lo + i), fun i _ => n ≤ i⟩
theorem turn_list {P : Program} {w : World} {K : PySem.W.Frag} {tg : Expr} (a it : Addr) : Turn P w K tg (Itl K a) [it] it (fun i h => h.IsListIter it a i) where
  mem := by simp
  obj := fun i h st b hb => by
    have e : b = it := by simpa using hb
    subst e
    refine L2.o_EAA (st) fun o e c d => ?_
    exact ⟨o, e, fun v z => by rw [d] at z; cases z⟩
  keep := fun i h h' st k => st.at fun o e => k it (by simp) o e
  item := by
    intro X hP hw hK hc i pins s σ H E I hf st hg
    subst hP hw hK
    refine L2.o_EEA (hg) fun xs x hq hx => ?_
    refine L2.o_EAA (I.list hq) fun its rv p hz => ?_
    refine L2.o_EA (rv.get hx) fun u hu ru => ?_
    refine L2.o_AAAAA (hf it (by simp)) fun f0 f1 f2 f3 f4 f5 => ?_
    refine wpAny_pyNext_list_item st p.isList (x := u) (by simpa using hu) fun h' st' sb => ?_
    have I1 : Inv X pins σ H { s with heap := h' } := I.turned (t' := s.toks) (fun b o hb e => (sb.2 b hb).trans e) f0 f1 f3 f4 f5
    refine L2.o_EAA (id st') fun o e c d => ?_
    exact ⟨u, rfl, go_of (s := { s with heap := h' }) e c d (by decide) ⟨x, H, I1, ru, ⟨rfl, fun ys hy => by rw [I.list_inj hy hq]; exact hx⟩, st', fun b hb => (hf b hb).1⟩⟩
  done := by
    intro X hP hw hK hc i pins s σ H E I hf st hg
    subst hP hw hK
    refine L2.o_EA (hg) fun xs hq hx => ?_
    refine L2.o_EAA (I.list hq) fun its rv p hz => ?_
    refine L2.o_AAAAA (hf it (by simp)) fun f0 f1 f2 f3 f4 f5 => ?_
    have hl := rv.length
    exact wpAny_pyNext_list_end (I.ok.hd hc) st p.isList (by simp; omega) fun h' eb => ⟨rfl, I.turned (t' := s.toks) (fun b o hb e => eb b o hb e) f0 f1 f3 f4 f5⟩
  self := fun _ _ _ _ _ st h => wpAny_pyIter_listiter st h
theorem turn_range {P : Program} {w : World} {K : PySem.W.Frag} {tg : Expr} (it : Addr) (lo : Int) (n : Nat) : Turn P w K tg (Itr lo n) [it] it (fun i h => IsRangeIter h it (lo + (i : Nat) * 1) ((n : Int) - (i : Nat)) 1) where
  mem := by simp
  obj := fun i h st b hb => by
    have e : b = it := by simpa using hb
    subst e
    exact ⟨_, st, fun v z => by
      have z' : Data.fields _ = Data.cell v := z
      cases z'⟩
  keep := fun i h h' st k => k it (by simp) _ st
  item := by
    intro X hP hw hK hc i pins s σ H E I hf st hg
    subst hP hw hK
    refine L2.o_AAAAA (hf it (by simp)) fun f0 f1 f2 f3 f4 f5 => ?_
    have W := Walks.range (prog := X.prog) (w := X.w) (I.ok.hd hc) it lo 1 n
    refine W.item i s _ _ hg st fun v h' tk hv st' kk => ?_
    revert hv
    refine fun zqq => L2.o_E zqq fun t zq1 => ?_
    clear zqq
    subst zq1
    have I1 : Inv X pins σ H { s with heap := h', toks := tk } := I.turned (fun b o hb e => kk b o (by simpa using hb) e) f0 f1 f3 f4 f5
    refine ⟨_, rfl, go_of (s := { s with heap := h', toks := tk }) (n := "range_iterator") st' rfl rfl (by decide) ⟨.int (lo + i), H, I1, ⟨t, ?_⟩, ⟨rfl, rfl⟩, st', fun b hb => (hf b hb).1⟩⟩
    rw [Int.mul_one]
  done := by
    intro X hP hw hK hc i pins s σ H E I hf st hg
    subst hP hw hK
    refine L2.o_AAAAA (hf it (by simp)) fun f0 f1 f2 f3 f4 f5 => ?_
    exact wpAny_pyNext_range_end (I.ok.hd hc) st (by have : n ≤ i := hg; omega) fun h' eb => ⟨rfl, I.turned (t' := s.toks) (fun b o hb e => eb b o hb e) f0 f1 f3 f4 f5⟩
  self := fun _ _ _ _ _ st h => wpAny_pyIter_rangeiter st h
end L2
namespace L2
open PySem PySem.Spec PyProof.Rows
section
variable {X : Cx} {tg : Expr}
noncomputable def iList (K : PySem.W.Frag) (tl : TE) : TI := fun σ H R => tl σ H fun x H1 => ∃ a, x = .ref a ∧ (∃ xs, SqL K H1 a xs) ∧ R (Itl K a) H1
theorem pi_list {l : Expr} {tl : TE} (hl : PE X l tl) : PI X tg l (iList X.K tl) := by
  intro pins s σ H R I h
  refine thn (hl pins s σ H _ I h) fun v s1 zpat => ?_
  obtain ⟨x, H1, I1, r1, q1⟩ := zpat
  obtain ⟨a, e, ⟨xs, hq⟩, q⟩ := q1
  subst e
  cases r1
  refine L2.o_EAA (I1.list hq) fun its rv p hz => ?_
  refine wpAny_pyIter_list p.isList ?_
  refine L2.i_EEEEEAAAAA (s1.heap.objs.size) ([s1.heap.objs.size]) (_) (_) (H1) (rfl) (I1.kept (t' := s1.toks) fun b o e => Heap.get?_push_of_some _ e) (turn_list a _) (⟨_, Heap.get?_push_size _ rfl, rfl, rfl⟩) (fun b hb => ?_) (q)
  have e : b = s1.heap.objs.size := by simpa using hb
  subst e
  exact I1.fpOk (Nat.le_refl _) (I1.hok.fresh (Nat.le_refl _))
theorem range_it {pins : List (Addr × Obj)} {σ : St} {H : Hp} {s : Shared} {R : It → Hp → Prop} {E : Value → Shared → Prop} {lo hi : Int} {t u v : Tok} {tk : Nat} (I : Inv X pins σ H s) (h1 : -(2 ^ 62) ≤ lo) (h2 : lo < 2 ^ 62) (h3 : -(2 ^ 62) ≤ hi) (h4 : hi < 2 ^ 62)
    (q : R (Itr lo (hi - lo).toNat) H) : wpAny (model X.prog X.w) X.A (pyIter (.ref s.heap.objs.size)) (PIE X pins σ tg R) E { s with heap := s.heap.push { cls := .type "range", data := .fields #[.int lo t, .int hi u, .int 1 v] }, toks := tk } := by
  refine wpAny_pyIter_range (IsRange.new ..) (small_one h1 h2 h3 h4) ?_
  have I1 : Inv X pins σ H { s with heap := s.heap.push { cls := .type "range", data := .fields #[.int lo t, .int hi u, .int 1 v] }, toks := tk } := I.kept fun b o e => Heap.get?_push_of_some _ e
  refine ⟨(s.heap.push { cls := .type "range", data := .fields #[.int lo t, .int hi u, .int 1 v] }).objs.size, [(s.heap.push { cls := .type "range", data := .fields #[.int lo t, .int hi u, .int 1 v] }).objs.size], _, _, H, rfl,
    I1.kept (t' := tk) fun b o e => Heap.get?_push_of_some _ e, turn_range _ lo (hi - lo).toNat, ?_, fun b hb => ?_, q⟩
  · have e1 : lo + ((0 : Nat) : Int) * 1 = lo := by simp
    have e2 : (((hi - lo).toNat : Nat) : Int) - ((0 : Nat) : Int) = Builtin.Range.rangeSize lo hi 1 := by rw [rangeSize_one]; split <;> omega
    show IsRangeIter _ _ (lo + ((0 : Nat) : Int) * 1) ((((hi - lo).toNat : Nat) : Int) - ((0 : Nat) : Int)) 1
    rw [e1, e2]
    exact Heap.get?_push_size _ rfl
  · have e : b = (s.heap.push { cls := .type "range", data := .fields #[.int lo t, .int hi u, .int 1 v] }).objs.size := by simpa using hb
    subst e
    exact I1.fpOk (Nat.le_refl _) (I1.hok.fresh (Nat.le_refl _))
noncomputable def iRng1 (ta : TA) : TI := fun σ H R => ta σ H fun vs H1 => ∃ j : Int, vs = [.int j] ∧ -(2 ^ 62) ≤ j ∧ j < 2 ^ 62 ∧ R (Itr 0 j.toNat) H1
theorem pi_range1 {a : Expr} {ta : TA} {p pos : Pos} (hg : Gl X "range") (hm : X.mg "range" = none) (ha : PA X [a] ta) (hs : starEach [a] X.env = [(false, eval a X.env)] := by rfl) : PI X tg (.Call (.Name "range" p) [a] [] pos) (iRng1 ta) := by
  intro pins s σ H R I h
  refine Call_ (ld_blt I hg hm boot_range (PyProof.Rows.callWith_type1 (thn (ha pos pins s σ H _ I h) fun us s1 ⟨vs, H1, I1, r1, q1⟩ => ?_) hs rfl))
  revert q1
  refine fun zqq => L2.o_EAAA zqq fun j e q1 q2 q => ?_
  clear zqq
  subst e
  cases r1 with
  | cons r rr =>
    cases rr
    revert r
    refine fun zqq => L2.o_E zqq fun t zq1 => ?_
    clear zqq
    subst zq1
    exact call_range_1 (range_it I1 (by omega) (by omega) q1 q2 (by simpa using q))
noncomputable def tFor (wi : TI) (g : TG) (tb : TS) : TS := fun D σ H => wi σ H fun J H1 => ∃ W : Nat → Nat → St → Hp → Prop, (∃ m, W 0 m σ H1) ∧ ∀ i m σ H, W i m σ H →
  (J.stop i H ∧ D.nx σ H) ∨ (J.go i H ∧ ∃ N : St → Hp → Prop, (∀ σ' H', N σ' H' → ∃ m', m' < m ∧ W (i + 1) m' σ' H') ∧ ∀ x H', J.yld i H x H' → g x σ H' fun σ2 H2 => tb { D with nx := N, ct := N, bk := D.nx } σ2 H2)
noncomputable def pinsAt (fp : List Addr) (h : Heap) : List (Addr × Obj) := fp.filterMap fun b => (h.get? b).map fun o => (b, o)
theorem mem_pinsAt {fp : List Addr} {h : Heap} {b : Addr} {o : Obj} (hb : b ∈ fp) (e : h.get? b = some o) : (b, o) ∈ pinsAt fp h := List.mem_filterMap.mpr ⟨b, hb, by rw [e]; rfl⟩
theorem of_pinsAt {fp : List Addr} {h : Heap} {p : Addr × Obj} (hp : p ∈ pinsAt fp h) : p.1 ∈ fp ∧ h.get? p.1 = some p.2 := by
  refine L2.o_EA (List.mem_filterMap.mp hp) fun b hb e => ?_
  cases q : h.get? b with
  | none => rw [q] at e; cases e
  | some o =>
    rw [q] at e
    have e' : (b, o) = p := Option.some.inj e
    subst e'
    exact ⟨hb, q⟩
theorem Inv.pinned {pins : List (Addr × Obj)} {σ : St} {H : Hp} {s : Shared} {fp : List Addr} (I : Inv X pins σ H s) (hf : ∀ b ∈ fp, FpOk X pins H b) (ho : ∀ b ∈ fp, ∃ o, s.heap.get? b = some o ∧ ∀ v, o.data ≠ .cell v) : Inv X (pins ++ pinsAt fp s.heap) σ H s :=
  I.pins_of fun p hp => (List.mem_append.mp hp).elim (fun z => I.pin p (List.mem_append_right _ z)) fun z => by
    refine L2.o_A (of_pinsAt z) fun hb e => ?_
    refine L2.o_AAA (hf p.1 hb) fun f0 f1 f2 _ => ?_
    refine L2.o_EA (ho p.1 hb) fun o e' d => ?_
    rw [e] at e'; cases e'
    exact ⟨e, f0, f1, f2, d⟩
theorem Inv.unpinned {pins pl : List (Addr × Obj)} {σ : St} {H : Hp} {s : Shared} (I : Inv X (pins ++ pl) σ H s) : Inv X pins σ H s := I.pins_of fun p hp => I.pin p (List.mem_append_right _ (List.mem_append_left _ hp))
theorem ps_for {iter : Expr} {body : List Stmt} {wi : TI} {g : TG} {tb : TS} {pos : Pos} (hp : PassesOwn (model X.prog X.w) X.A X.env X.xe) (hc : X.calm = true) (hi : PI X tg iter wi) (hg : PG X tg g) (hb : PSs X body tb)
    (hs : ∀ x, foldedSetIterable iter X.env x = pure x := by intro _; rfl) : PS X (.For tg iter body [] pos) (tFor wi g tb) := by
  intro pins s σ H D I h
  refine wpAny_For (thn (hi pins s σ H _ I h) fun v s1 h1 => thn h1 fun itv s2 h2 => ?_) hs
  obtain ⟨it, fp, tn, J, H2, e, I2, T, st2, f2, W, ⟨m0, w0⟩, turn⟩ := h2
  subst e
  have stat : ∀ {H' : Hp}, (∀ b ∈ fp, H' b = none) → ∀ b ∈ fp, FpOk X pins H' b := fun hn b hb => ⟨hn b hb, (f2 b hb).2⟩
  refine codeAny_forLoop_any (fun n s' => ∃ i σ' H', Inv X pins σ' H' s' ∧ tn i s'.heap ∧ (∀ b ∈ fp, H' b = none) ∧ W i n σ' H') ?_ m0 ⟨0, σ, H2, I2, st2, fun b hb => (f2 b hb).1, w0⟩
  rintro n s3 ⟨i, σ3, H3, I3, st3, fr3, w3⟩
  rcases turn i n σ3 H3 w3 with ⟨stop, qn⟩ | ⟨go, N, hN, step⟩
  · refine wpAny_passesOwn hp (thn (T.done X rfl rfl rfl hc i pins s3 σ3 H3 X.xe I3 (stat fr3) st3 stop) fun r s4 zpat => ?_)
    refine L2.o_A (zpat) fun hr I4 => ?_
    subst hr
    exact wpAny_execs_nil ⟨σ3, H3, I4, qn⟩
  · refine wpAny_passesOwn hp (thn (T.item X rfl rfl rfl hc i pins s3 σ3 H3 X.xe I3 (stat fr3) st3 go) fun r s4 zpat => ?_)
    refine L2.o_EA (zpat) fun u hr h4 => ?_
    subst hr
    refine wpAny_passesOwn hp (thn h4 fun _ s5 zpat => ?_)
    refine L2.o_EEAAAA (zpat) fun x H5 I5 r5 y5 st5 fr5 => ?_
    have I5' := I5.pinned (stat fr5) (T.obj _ _ st5)
    refine wpAny_passesOwn hp (thn (hg _ s5 σ3 H5 x u _ I5' r5 (step x H5 y5)) fun _ s6 zpat => ?_)
    refine L2.o_EEA (zpat) fun σ6 H6 I6 q6 => ?_
    refine wpAny_passesOwn hp (thn (hb _ s6 σ6 H6 _ I6 q6) fun f s7 q7 => ?_)
    have again : ∀ {σ7 : St} {H7 : Hp}, Inv X (pins ++ pinsAt fp s5.heap) σ7 H7 s7 → N σ7 H7 → ∃ m, m < n ∧ ∃ i σ' H', Inv X pins σ' H' s7 ∧ tn i s7.heap ∧ (∀ b ∈ fp, H' b = none) ∧ W i m σ' H' := fun {σ7 H7} I7 n7 => by
      refine L2.o_EA (hN σ7 H7 n7) fun m' hm w7 => ?_
      refine L2.i_EAEEEAAA (m') (hm) (i + 1) (σ7) (H7) (I7.unpinned) (T.keep _ _ _ st5 fun b hb o e => (I7.pin (b, o) (List.mem_append_right _ (List.mem_append_right _ (mem_pinsAt hb e)))).1) (fun b hb => ?_) (w7)
      refine L2.o_EA (T.obj _ _ st5 b hb) fun o e d => ?_
      exact (I7.pin (b, o) (List.mem_append_right _ (List.mem_append_right _ (mem_pinsAt hb e)))).2.1
    cases f with
    | next => obtain ⟨σ7, H7, I7, n7⟩ := q7; exact again I7 n7
    | cont => obtain ⟨σ7, H7, I7, n7⟩ := q7; exact again I7 n7
    | brk => obtain ⟨σ7, H7, I7, q7⟩ := q7; exact ⟨σ7, H7, I7.unpinned, q7⟩
    | ret v => obtain ⟨x7, σ7, H7, I7, r7, q7⟩ := q7; exact ⟨x7, σ7, H7, I7.unpinned, r7, q7⟩
end
end L2
namespace L2
open PySem PySem.Spec PyProof.Rows
noncomputable abbrev R2 := V → V → Hp → VK → Prop
noncomputable def OpR (X : Cx) (f : Value → Value → Sem Value) (r : R2) : Prop :=
  ∀ (pins : List (Addr × Obj)) (s : Shared) (σ : St) (H : Hp) (x y : V) (v u : Value) (Q : VK), Inv X pins σ H s → RelV x v → RelV y u → r x y H Q →
    wpAny (model X.prog X.w) X.A (f v u) (EP X pins σ Q) X.xe s
noncomputable def UnR (X : Cx) (f : Value → Sem Value) (r : V → Hp → VK → Prop) : Prop :=
  ∀ (pins : List (Addr × Obj)) (s : Shared) (σ : St) (H : Hp) (x : V) (v : Value) (Q : VK), Inv X pins σ H s → RelV x v → r x H Q →
    wpAny (model X.prog X.w) X.A (f v) (EP X pins σ Q) X.xe s
noncomputable def CallR (X : Cx) (f : Value) (r : List V → Hp → VK → Prop) : Prop :=
  ∀ (pins : List (Addr × Obj)) (s : Shared) (σ : St) (H : Hp) (xs : List V) (us : List Value) (Q : VK), Inv X pins σ H s → Vals xs us → r xs H Q →
    wpAny (model X.prog X.w) X.A (call f us) (EP X pins σ Q) X.xe s
noncomputable def tOp (r : R2) (ta tb : TE) : TE := fun σ H Q => ta σ H fun x H1 => tb σ H1 fun y H2 => r x y H2 Q
noncomputable def tUn (r : V → Hp → VK → Prop) (ta : TE) : TE := fun σ H Q => ta σ H fun x H1 => r x H1 Q
noncomputable def rI (C : Int → Int → Prop) (g : Int → Int → V) : R2 := fun x y H Q => ∃ i j, x = .int i ∧ y = .int j ∧ C i j ∧ Q (g i j) H
noncomputable def rI0 (g : Int → Int → V) : R2 := fun x y H Q => ∃ i j, x = .int i ∧ y = .int j ∧ Q (g i j) H
noncomputable def rU (g : Int → V) : V → Hp → VK → Prop := fun x H Q => ∃ i, x = .int i ∧ Q (g i) H
section
variable {X : Cx} {a b c : Expr} {ta tb tc : TE} {pos : Pos}
theorem binT (ha : PE X a ta) (hb : PE X b tb) {pins : List (Addr × Obj)} {s : Shared} {σ : St} {H : Hp} {R : V → V → Hp → Prop} (I : Inv X pins σ H s)
    (h : ta σ H fun x H1 => tb σ H1 fun y H2 => R x y H2) {Q : Value → Shared → Prop} {f : Value → Value → Sem Value}
    (hf : ∀ v u s2 x y H2, Inv X pins σ H2 s2 → RelV x v → RelV y u → R x y H2 → wpAny (model X.prog X.w) X.A (f v u) Q X.xe s2) :
    wpAny (model X.prog X.w) X.A (eval a X.env) (fun v s₁ => wpAny (model X.prog X.w) X.A (eval b X.env) (fun u s₂ => wpAny (model X.prog X.w) X.A (f v u) Q X.xe s₂) X.xe s₁) X.xe s := by
  refine thn (ha pins s σ H _ I h) fun v s1 zpat => ?_
  obtain ⟨x, H1, I1, r1, q1⟩ := zpat
  refine thn (hb pins s1 σ H1 _ I1 q1) fun u s2 zpat => ?_
  obtain ⟨y, H2, I2, r2, q2⟩ := zpat
  exact hf v u s2 x y H2 I2 r1 r2 q2
theorem pe_op {op : Operator} {r : R2} (ho : OpR X (binaryOp op) r) (ha : PE X a ta) (hb : PE X b tb) : PE X (.BinOp a op b pos) (tOp r ta tb) := by
  intro pins s σ H Q I h
  exact wpAny_BinOp (binT ha hb I h fun v u s2 x y H2 I2 rx ry q => ho pins s2 σ H2 x y v u Q I2 rx ry q)
theorem pe_un {op : UnaryOp} {r : V → Hp → VK → Prop} (ho : UnR X (unaryOp op) r) (ha : PE X a ta) : PE X (.UnaryOp op a pos) (tUn r ta) := by
  intro pins s σ H Q I h
  exact UnaryOp_ (thn (ha pins s σ H _ I h) fun v s1 ⟨x, H1, I1, r1, q1⟩ => ho pins s1 σ H1 x v Q I1 r1 q1)
theorem opI {f : Value → Value → Sem Value} {C : Int → Int → Prop} {g : Int → Int → Int}
    (rule : ∀ (i j : Int) (t u : Tok) (s : Shared) (Q : Value → Shared → Prop) (E : Value → Shared → Prop), C i j → Q (.int (g i j) s.toks) { s with toks := s.toks + 1 } → wpAny (model X.prog X.w) X.A (f (.int i t) (.int j u)) Q E s) :
    OpR X f (rI C fun i j => .int (g i j)) := by
  intro pins s σ H x y v u Q I rx ry h
  revert h
  refine fun zqq => L2.o_EEAAA zqq fun i j zq2 zq3 hc q => ?_
  clear zqq
  subst zq2
  subst zq3
  revert rx
  refine fun zqq => L2.o_E zqq fun t zq1 => ?_
  clear zqq
  subst zq1
  revert ry
  refine fun zqq => L2.o_E zqq fun t' zq1 => ?_
  clear zqq
  subst zq1
  exact rule i j t t' s _ _ hc ⟨.int (g i j), H, I.tok _, ⟨_, rfl⟩, q⟩
theorem opI0 {f : Value → Value → Sem Value} {g : Int → Int → Int}
    (rule : ∀ (i j : Int) (t u : Tok) (s : Shared) (Q : Value → Shared → Prop) (E : Value → Shared → Prop), Q (.int (g i j) s.toks) { s with toks := s.toks + 1 } → wpAny (model X.prog X.w) X.A (f (.int i t) (.int j u)) Q E s) :
    OpR X f (rI0 fun i j => .int (g i j)) := by
  intro pins s σ H x y v u Q I rx ry h
  revert h
  refine fun zqq => L2.o_EEAA zqq fun i j zq2 zq3 q => ?_
  clear zqq
  subst zq2
  subst zq3
  revert rx
  refine fun zqq => L2.o_E zqq fun t zq1 => ?_
  clear zqq
  subst zq1
  revert ry
  refine fun zqq => L2.o_E zqq fun t' zq1 => ?_
  clear zqq
  subst zq1
  exact rule i j t t' s _ _ ⟨.int (g i j), H, I.tok _, ⟨_, rfl⟩, q⟩
theorem opB0 {f : Value → Value → Sem Value} {g : Int → Int → Bool}
    (rule : ∀ (i j : Int) (t u : Tok) (s : Shared) (Q : Value → Shared → Prop) (E : Value → Shared → Prop), Q (.bool (g i j)) s → wpAny (model X.prog X.w) X.A (f (.int i t) (.int j u)) Q E s) :
    OpR X f (rI0 fun i j => .bl (g i j)) := by
  intro pins s σ H x y v u Q I rx ry h
  revert h
  refine fun zqq => L2.o_EEAA zqq fun i j zq2 zq3 q => ?_
  clear zqq
  subst zq2
  subst zq3
  revert rx
  refine fun zqq => L2.o_E zqq fun t zq1 => ?_
  clear zqq
  subst zq1
  revert ry
  refine fun zqq => L2.o_E zqq fun t' zq1 => ?_
  clear zqq
  subst zq1
  exact rule i j t t' s _ _ ⟨.bl (g i j), H, I, rfl, q⟩
noncomputable def CPow (i j : Int) : Prop := 0 ≤ j ∧ j ≤ 1000000 ∧ i.natAbs < 2 ^ 64
noncomputable def CMul (i j : Int) : Prop := (-(2 ^ 64) < i ∧ i < 2 ^ 64) ∨ (-(2 ^ 64) < j ∧ j < 2 ^ 64)
theorem CMul.ok {i j : Int} (h : CMul i j) : IntMulOk i j := by
  rcases h with ⟨h1, h2⟩ | ⟨h1, h2⟩
  · exact .of_left (intBits_le_64 h1 h2)
  · exact .of_right (intBits_le_64 h1 h2)
theorem op_add : OpR X (binaryOp .Add) (rI0 fun i j => .int (i + j)) := opI0 fun _ _ _ _ _ _ _ q => add_int q
theorem op_sub : OpR X (binaryOp .Sub) (rI0 fun i j => .int (i - j)) := opI0 fun _ _ _ _ _ _ _ q => sub_int q
theorem op_modN : OpR X (binaryOp .Mod) (rI (fun _ j => j ≠ 0) fun i j => .int (i.fmod j)) := opI fun _ _ _ _ _ _ _ hc q => mod_int' hc q
theorem op_pow : OpR X (binaryOp .Pow) (rI CPow fun i j => .int (i ^ j.toNat)) := opI fun _ _ _ _ _ _ _ hc q => pow_int_small hc.1 hc.2.1 hc.2.2 q
theorem unI {f : Value → Sem Value} {g : Int → Int}
    (rule : ∀ (i : Int) (t : Tok) (s : Shared) (Q : Value → Shared → Prop) (E : Value → Shared → Prop), Q (.int (g i) s.toks) { s with toks := s.toks + 1 } → wpAny (model X.prog X.w) X.A (f (.int i t)) Q E s) :
    UnR X f (rU fun i => .int (g i)) := by
  intro pins s σ H x v Q I rx h
  revert h
  refine fun zqq => L2.o_EA zqq fun i zq1 q => ?_
  clear zqq
  subst zq1
  revert rx
  refine fun zqq => L2.o_E zqq fun t zq1 => ?_
  clear zqq
  subst zq1
  exact rule i t s _ _ ⟨.int (g i), H, I.tok _, ⟨_, rfl⟩, q⟩
theorem un_neg : UnR X (unaryOp .USub) (rU fun i => .int (-i)) := unI fun _ _ _ _ _ q => neg_int q
end
section
variable {X : Cx} {a b c : Expr} {ta tb tc : TE} {pos : Pos}
theorem fin_bl {pins : List (Addr × Obj)} {σ : St} {H : Hp} {s : Shared} {Q : VK} {k k' : Bool} (I : Inv X pins σ H s) (q : Q (.bl k) H) (e : k = k') : EP X pins σ Q (.bool k') s := by
  subst e
  exact ⟨.bl k, H, I, rfl, q⟩
theorem op_lt : OpR X (compareOp .Lt) (rI0 fun i j => .bl (decide (i < j))) := opB0 fun _ _ _ _ _ _ _ q => lt_int q
theorem op_gt : OpR X (compareOp .Gt) (rI0 fun i j => .bl (decide (j < i))) := opB0 fun _ _ _ _ _ _ _ q => gt_int q
theorem op_ge : OpR X (compareOp .GtE) (rI0 fun i j => .bl (decide (j ≤ i))) := opB0 fun _ _ _ _ _ _ _ q => ge_int q
theorem nomark (b : Expr) {op : CmpOp} (h : op ≠ .In := by decide) (h2 : op ≠ .NotIn := by decide) : behindInMarks op b = false := by
  have e1 : (op == CmpOp.In) = false := by cases op <;> first | rfl | exact absurd rfl h
  have e2 : (op == CmpOp.NotIn) = false := by cases op <;> first | rfl | exact absurd rfl h2
  cases b <;> simp [behindInMarks, e1, e2]
theorem pe_cmpR {op : CmpOp} {r : R2} (ho : OpR X (compareOp op) r) (ha : PE X a ta) (hb : PE X b tb) (hm : behindInMarks op b = false) : PE X (.Compare a [op] [b] pos) (tOp r ta tb) := by
  intro pins s σ H Q I h
  exact wpAny_Compare1 (binT ha hb I h fun v u s2 x y H2 I2 rx ry q => ho pins s2 σ H2 x y v u Q I2 rx ry q) hm
noncomputable def tTest (t : TE) : TT := fun σ H Q => t σ H fun x H' => ∃ k, x = .bl k ∧ Q k H'
theorem pt_cmpR {op : CmpOp} {r : R2} (ho : OpR X (compareOp op) r) (ha : PE X a ta) (hb : PE X b tb) (hm : behindInMarks op b = false) : PT X (.Compare a [op] [b] pos) (tTest (tOp r ta tb)) := by
  intro pins s σ H Q I h
  refine wpAny_isTrue_Compare1 (thn (ha pins s σ H _ I h) fun v s1 ⟨x, H1, I1, r1, q1⟩ => thn (hb pins s1 σ H1 _ I1 q1) fun u s2 ⟨y, H2, I2, r2, q2⟩ =>
    thn (ho pins s2 σ H2 x y v u _ I2 r1 r2 q2) fun c s3 ⟨z, H3, I3, r3, k, e, q3⟩ => ?_) hm
  subst e
  cases r3
  exact wpAny_truthy_bool ⟨H3, I3, q3⟩
theorem line63 : (sizeLine : Nat) < 2 ^ 63 := by rw [sizeLine_eq]; decide
theorem vals1 {x : V} {us : List Value} (r : Vals [x] us) : ∃ u, us = [u] ∧ RelV x u := by
  cases r with
  | cons r1 r2 => cases r2; exact ⟨_, rfl, r1⟩
theorem vals2 {x y : V} {us : List Value} (r : Vals [x, y] us) : ∃ u w', us = [u, w'] ∧ RelV x u ∧ RelV y w' := by
  cases r with
  | cons r1 r2 =>
    cases r2 with
    | cons r3 r4 => cases r4; exact ⟨_, _, rfl, r1, r3⟩
theorem call_abs : CallR X (.builtin "abs") (fun xs H Q => ∃ i, xs = [.int i] ∧ Q (.int (if i < 0 then -i else i)) H) := by
  intro pins s σ H xs us Q I r h
  revert h
  refine fun zqq => L2.o_EA zqq fun i zq1 q => ?_
  clear zqq
  subst zq1
  refine L2.o_EAE (vals1 r) fun u zq1 t zq3 => ?_
  subst zq1
  subst zq3
  exact call_abs_int fun u tk => ⟨.int (if i < 0 then -i else i), H, I.tok _, ⟨_, rfl⟩, q⟩
theorem call_max2 (hc : X.calm = true) : CallR X (.builtin "max") (fun xs H Q => ∃ i j, xs = [.int i, .int j] ∧ Q (.int (if j > i then j else i)) H) := by
  intro pins s σ H xs us Q I r h
  revert h
  refine fun zqq => L2.o_EEA zqq fun i j zq2 q => ?_
  clear zqq
  subst zq2
  obtain ⟨u, w', rfl, ⟨t, rfl⟩, ⟨t', rfl⟩⟩ := vals2 r
  refine max_two_ints (I.ok.hd hc) fun h' tk k => ⟨_, H, I.kept k, ?_, q⟩
  by_cases hj : j > i
  · rw [if_pos hj, if_pos hj]; exact ⟨_, rfl⟩
  · rw [if_neg hj, if_neg hj]; exact ⟨_, rfl⟩
theorem call_min2 (hc : X.calm = true) : CallR X (.builtin "min") (fun xs H Q => ∃ i j, xs = [.int i, .int j] ∧ Q (.int (if j < i then j else i)) H) := by
  intro pins s σ H xs us Q I r h
  revert h
  refine fun zqq => L2.o_EEA zqq fun i j zq2 q => ?_
  clear zqq
  subst zq2
  obtain ⟨u, w', rfl, ⟨t, rfl⟩, ⟨t', rfl⟩⟩ := vals2 r
  refine min_two_ints (I.ok.hd hc) fun h' tk k => ⟨_, H, I.kept k, ?_, q⟩
  by_cases hj : j < i
  · rw [if_pos hj, if_pos hj]; exact ⟨_, rfl⟩
  · rw [if_neg hj, if_neg hj]; exact ⟨_, rfl⟩
theorem call_int1 : CallR X (.type "int") (fun xs H Q => (∃ i, xs = [.int i] ∧ Q (.int i) H) ∨ ∃ k, xs = [.bl k] ∧ Q (.int (if k then 1 else 0)) H) := by
  intro pins s σ H xs us Q I r h
  rcases h with ⟨i, rfl, q⟩ | ⟨k, rfl, q⟩
  · refine L2.o_EAE (vals1 r) fun u zq1 t zq3 => ?_
    subst zq1
    subst zq3
    exact call_int_int ⟨.int i, H, I, ⟨_, rfl⟩, q⟩
  · refine L2.o_EA (vals1 r) fun u zq1 r1 => ?_
    subst zq1
    cases r1
    exact call_int_bool ⟨.int (if k then 1 else 0), H, I.tok _, ⟨_, rfl⟩, q⟩
end
end L2
namespace L2
open PySem PySem.Spec PyProof.Rows
structure ObjM (h : Heap) (x dx C : Addr) (mA : Str → Option Value) : Prop where
  obj : h.get? x = some (PySem.W.instObj C dx)
  ns : h.Ns1 dx mA
  ne : dx ≠ x
section
variable {prog : Program} {w : World} {A : Around} {E : Value → Shared → Prop} {s : Shared} {K : PySem.W.Frag} {x dx C f : Addr} {mA : Str → Option Value} {name : Str} {v : Value}
end
section
variable {P : Program} {w : World} {H H' : Hp} {h h' : Heap} {a C dx : Addr} {fs fs' : List (Str × V)}
end
structure Cls (K : PySem.W.Frag) (C : Addr) : Prop where
  pg : PySem.W.plainGet K C Str.empty = true
  hd : PySem.W.hasDictIn K C = true
  po : PySem.W.plainOver K C = true
  sa : PySem.W.findIn K (.ref C) "__setattr__" = some (some (.builtin "object.__setattr__"))
structure Con (K : PySem.W.Frag) (C : Addr) (f : Str) (v : V) (u : Value) : Prop where
  at_ : PySem.W.findIn K (.ref C) f = some (some u)
  rel : RelV v u
  get : PySem.W.specialIn K u "__get__" = some none
  cp : PySem.W.copiedNames.contains f = false
structure Meth (K : PySem.W.Frag) (C : Addr) (m : Str) (f : Addr) : Prop where
  at_ : PySem.W.findIn K (.ref C) m = some (some (.ref f))
  fn : PySem.W.isFn K (.ref f) = true
  kp : PySem.W.keepIn K (.ref f) = true
section
variable {X : Cx} {pins : List (Addr × Obj)} {σ : St} {H : Hp} {s : Shared} {a C dx : Addr} {fs : List (Str × V)} {f : Str} {v : V} {A : Around} {E : Value → Shared → Prop}
end
section
variable {X : Cx} {o e value : Expr} {f : Str} {pos pos' tpos : Pos} {ta tv : TE}
end
section
variable {X : Cx} {pins : List (Addr × Obj)} {σ : St} {H : Hp} {s : Shared} {A : Around} {E : Value → Shared → Prop} {Q : Value → Shared → Prop} {c : Value} {b : Bool}
inductive TyOf (K : PySem.W.Frag) (H : Hp) : V → Value → Prop where
  | non : TyOf K H .non (.type "NoneType")
  | bl (x : Bool) : TyOf K H (.bl x) (.type "bool")
  | int (i : Int) : TyOf K H (.int i) (.type "int")
  | str (x : Str) : TyOf K H (.str x) (.type "str")
  | flt (x : UInt64) : TyOf K H (.flt x) (.type "float")
  | lst {a : Addr} {xs : List V} (e : H a = some (.lst xs)) : TyOf K H (.ref a) (.type "list")
  | frz {a : Addr} {o : Obj} {xs : List V} (e : H a = some (.frz o (.lst xs))) : TyOf K H (.ref a) (.type "list")
  | tup {a : Addr} {xs : List V} (e : H a = some (.tup xs)) : TyOf K H (.ref a) (.type "tuple")
  | dK {a : Addr} {kvs : List (Key × V)} (e : H a = some (.dK kvs)) : TyOf K H (.ref a) (.type "dict")
  | dT {a : Addr} {kvs : List (List Key × V)} (e : H a = some (.dT kvs)) : TyOf K H (.ref a) (.type "dict")
  | ins {a C dx : Addr} {fs : List (Str × V)} (e : H a = some (.ins C dx fs)) (cl : Cls K C) (ha : PySem.W.findIn K (.ref C) "__class__" = some (some (.builtin "object.__class__")))
      (hn : PySem.W.specialIn K (.builtin "object.__class__") "__get__" = some (some (.builtin "getset_descriptor.__get__"))) (htk : PySem.W.takesIn K (.builtin "object.__class__") = some true)
      (hm : PySem.W.mroIn K C (.type "object") = some true) : TyOf K H (.ref a) (.ref C)
end
end L2
namespace L2
open PySem PySem.Spec PyProof.Rows
structure Room (k : Nat) (A : Around) : Prop where
  hd : A.handled = none
  dp : A.depth + 3 * k + 5 < recursionLimit
  un : A.units + 16 * k + 200 < cLine
theorem Room.mono {j k : Nat} {A : Around} (r : Room k A) (h : j ≤ k) : Room j A := ⟨r.hd, by have := r.dp; omega, by have := r.un; omega⟩
theorem Room.deeper {k : Nat} {A : Around} (r : Room (k + 1) A) (env : Env) : Room k (A.deeper env) :=
  ⟨r.hd, by have := r.dp; show A.depth + 1 + 3 * k + 5 < _; omega, by have := r.un; show A.units + 3 + 16 * k + 200 < _; omega⟩
theorem Room.in1 {k : Nat} {A : Around} (r : Room (k + 1) A) : Room k A.in1 :=
  ⟨r.hd, by have := r.dp; show A.depth + 3 * k + 5 < _; omega, by have := r.un; show A.units + 1 + 16 * k + 200 < _; omega⟩
theorem Room.depth {k : Nat} {A : Around} (r : Room k A) : A.depth < recursionLimit := by have := r.dp; omega
theorem Room.units {k : Nat} {A : Around} (r : Room k A) : A.units + 64 < cLine := by have := r.un; omega
noncomputable def tNil : TA := fun _ H Q => Q [] H
noncomputable def tCons (ta : TE) (tr : TA) : TA := fun σ H Q => ta σ H fun x H1 => tr σ H1 fun xs H2 => Q (x :: xs) H2
section
variable {X : Cx} {e : Expr} {es : List Expr} {te : TE} {t : TA} {pos : Pos}
theorem pa_nil : PA X [] tNil := fun _ _ _ _ H Q I h => Calls.spliced_nil ⟨[], H, I, .nil, h⟩
theorem pa_cons (ha : PE X e te) (hr : PA X es t) (hs : starEach (e :: es) X.env = (false, eval e X.env) :: starEach es X.env := by rfl) : PA X (e :: es) (tCons te t) := by
  intro pos pins s σ H Q I h
  rw [hs]
  show wpAny _ _ (spliced ((false, eval e X.env) :: backTo pos (starEach es X.env))) _ _ s
  refine Calls.spliced_cons (thn (ha pins s σ H _ I h) fun u s1 zpat => ?_)
  obtain ⟨x, H1, I1, r1, q1⟩ := zpat
  exact thn (hr pos pins s1 σ H1 _ I1 q1) fun us s2 ⟨xs, H2, I2, r2, q2⟩ => ⟨x :: xs, H2, I2, .cons r1 r2, q2⟩
noncomputable def tTup (t : TA) : TE := fun σ H Q => t σ H fun xs H1 => xs.length ≤ sizeLine ∧ ∀ p, H1 p = none → Q (.ref p) (upd H1 p (.tup xs))
noncomputable def tLst (t : TA) : TE := fun σ H Q => t σ H fun xs H1 => xs.length ≤ sizeLine ∧ ∀ p, H1 p = none → Q (.ref p) (upd H1 p (.lst xs))
theorem pe_tup {x1} (h : PA X es t) : PE X (.Tuple es x1 pos) (tTup t) := by
  intro pins s σ H Q I hq
  refine wpAny_Tuple_spliced (thn (h pos pins s σ H _ I hq) fun us s1 ⟨xs, H1, I1, r, z, q⟩ => ⟨by rw [← r.length]; exact z, ?_⟩)
  have hf : H1 s1.heap.objs.size = none := I1.hok.fresh (Nat.le_refl _)
  refine ⟨.ref s1.heap.objs.size, upd H1 s1.heap.objs.size (.tup xs), I1.laid (t' := s1.toks) (fun b u e => Heap.get?_push_of_some _ e) (Nat.le_refl _) ?_, rfl, q _ hf⟩
  exact ⟨z, us, r, ⟨_, Heap.get?_push_size _ rfl, rfl, _, rfl⟩⟩
theorem pe_lst (h : PA X es t) : PE X (.List es pos) (tLst t) := by
  intro pins s σ H Q I hq
  refine wpAny_List_spliced (thn (h pos pins s σ H _ I hq) fun us s1 ⟨xs, H1, I1, r, z, q⟩ => ⟨by rw [← r.length]; exact z, ?_⟩)
  have hf : H1 s1.heap.objs.size = none := I1.hok.fresh (Nat.le_refl _)
  refine ⟨.ref s1.heap.objs.size, upd H1 s1.heap.objs.size (.lst xs), I1.laid (t' := s1.toks) (fun b u e => Heap.get?_push_of_some _ e) (Nat.le_refl _) ?_, rfl, q _ hf⟩
  exact L2.i_AEEA (z) (us) (0) (r) (Heap.get?_push_size _ rfl)
end
noncomputable abbrev Sp := List V → Hp → VK → XK → Prop
noncomputable abbrev CXT := List Env → Hp → Shared → XK → Value → Shared → Prop
structure Env0 (P : Program) (w : World) (K : PySem.W.Frag) (mg : Str → Option Value) (base : Heap) (A : Around) (outer : List Env) (s : Shared) (H : Hp) : Prop where
  frames : A.frames = some outer
  mod : Mod K mg base
  bs : ∀ b o, base.get? b = some o → s.heap.get? b = some o ∧ H b = none
  bsz : base.objs.size ≤ s.heap.objs.size
  funs : s.heap.FunFrames base outer
  frf : ∀ b ∈ frs outer, H b = none
  hok : HOk P w H s.heap
  bare : AllBare s.gens
  tabs : TabsOk P K mg base H
noncomputable def CE (outer : List Env) (P : Program) (w : World) (H : Hp) (s : Shared) (Q : VK) (u : Value) (s' : Shared) : Prop :=
  ∃ v H', s'.os = s.os ∧ AllBare s'.gens ∧ Un (frs outer) [] H H' s.heap s'.heap ∧ HOk P w H' s'.heap ∧ RelV v u ∧ Q v H'
noncomputable def CR (CX : CXT) (outer : List Env) (P : Program) (w : World) (H : Hp) (s : Shared) (Q : VK) (E : XK) (r : Result) (s' : Shared) : Prop :=
  match r with
  | .ok (.ret u) => CE outer P w H s Q u s'
  | .ok _ => False
  | .error e => CX outer H s E e s'
structure FnOk (P : Program) (w : World) (K : PySem.W.Frag) (mg : Str → Option Value) (base : Heap) (CX : CXT) (k : Nat) (f : Addr) (fd : FuncData) (ps : List Str) (sp : Sp) : Prop where
  len : ∀ vs H Q E, sp vs H Q E → vs.length = ps.length
  run : ∀ (A : Around) (outer : List Env) (s : Shared) (H : Hp) (args : Args) (us : List Value) (vs : List V) (Q : VK) (E : XK), Room k A → Env0 P w K mg base A outer s H → BindsTo s fd args (ps.zip us) → Vals vs us → sp vs H Q E →
    codeAny (model P w) A (.call (.ref f) args) (CR CX outer P w H s Q E) s
section
variable {X : Cx} {pins : List (Addr × Obj)} {σ : St} {H : Hp} {s s' : Shared}
theorem Inv.env0 (I : Inv X pins σ H s) : Env0 X.prog X.w X.K X.mg X.base X.A X.stack s H :=
  ⟨I.ok.frames, I.ok.mod, I.bs, Nat.le_trans I.ok.bsz I.sz, I.stack, I.stkFree, I.hok, I.bare, fun x c p h1 h2 => let z := I.ok.tabs x c p h1 h2; ⟨I.base.tabs p z.1, z.2⟩⟩
theorem Inv.after {Q : VK} {u : Value} (I : Inv X pins σ H s) (h : CE X.stack X.prog X.w H s Q u s') : EP X pins σ Q u s' := by
  refine L2.o_EEAAAAA (h) fun v H' os bare un hok r q => ?_
  obtain ⟨hh, g, d, t, os'⟩ := s'
  obtain rfl : os' = s.os := os
  exact ⟨v, H', I.call (h' := hh) (g' := g) (d' := d) (t' := t) (ch := []) un hok bare (fun b z => absurd z (by simp)), r, q⟩
end
noncomputable def tCall (sp : Sp) (dvs : List V) (E : XK) (t : TA) : TE := fun σ H Q => t σ H fun vs H1 => sp (vs ++ dvs) H1 Q E
noncomputable def Binds (K : PySem.W.Frag) (fd : FuncData) (ps : List Str) (ds : List Value) : Prop :=
  ∀ (s : Shared) (us : List Value), K.In s.heap → (us ++ ds).length = ps.length → BindsTo s fd ⟨us, []⟩ (ps.zip (us ++ ds))
theorem Binds.all {K : PySem.W.Frag} {fd : FuncData} {ps : List Str} (h : ∀ us : List Value, us.length = ps.length → bindArgs fd ⟨us, []⟩ = pure (ps.zip us)) : Binds K fd ps [] := fun s us _ hl => by
  rw [List.append_nil] at hl ⊢
  exact .of_eq (h us hl)
noncomputable def Passes (CX : CXT) (X : Cx) (E : XK) : Prop := ∀ (pins : List (Addr × Obj)) (σ : St) (H : Hp) (s : Shared) (e : Value) (s' : Shared), Inv X pins σ H s → CX X.stack H s E e s' → X.xe e s'
section
variable {X : Cx} {CX : CXT} {k : Nat} {f C : Addr} {fd : FuncData} {ps : List Str} {sp : Sp} {dvs : List V} {ds : List Value} {E : XK} {x m : Str} {p pos apos : Pos} {e o : Expr} {es : List Expr} {ta : TE} {t : TA}
theorem run_fn {pins : List (Addr × Obj)} {σ : St} {H : Hp} {s : Shared} {Q : VK} {us : List Value} {vs : List V} (F : FnOk X.prog X.w X.K X.mg X.base CX k f fd ps sp) (hr : Room k X.A) (hb : Binds X.K fd ps ds) (hd : Vals dvs ds) (hx : Passes CX X E)
    (I : Inv X pins σ H s) (r : Vals vs us) (h : sp (vs ++ dvs) H Q E) : wpAny (model X.prog X.w) X.A (call (.ref f) us) (EP X pins σ Q) X.xe s := by
  have r2 : Vals (vs ++ dvs) (us ++ ds) := r.append hd
  have hl : (us ++ ds).length = ps.length := by rw [← r2.length]; exact F.len _ _ _ _ h
  refine wpAny_call (codeAny_mono (F.run X.A X.stack s H ⟨us, []⟩ (us ++ ds) (vs ++ dvs) Q E hr I.env0 (hb s us I.kIn hl) r2 h) fun r s' hq => ?_)
  cases r with
  | error e => exact hx pins σ H s e s' I hq
  | ok fl =>
    cases fl with
    | ret u => exact I.after hq
    | next => exact False.elim hq
    | brk => exact False.elim hq
    | cont => exact False.elim hq
theorem pe_call (F : FnOk X.prog X.w X.K X.mg X.base CX k f fd ps sp) (hr : Room k X.A) (hg : Gl X x) (hm : X.mg x = some (.ref f)) (hk : PySem.W.keepIn X.K (.ref f) = true) (hb : Binds X.K fd ps ds) (hd : Vals dvs ds) (hx : Passes CX X E)
    (ha : PA X (e :: es) t) (hdb : (x == ("__debug__" : Str)) = false := by decide) (he : starEach (e :: es) X.env = (false, eval e X.env) :: starEach es X.env := by rfl) (hpl : (backTo pos (starEach es X.env)).any (·.1) = false := by rfl) :
    PE X (.Call (.Name x p) (e :: es) [] pos) (tCall sp dvs E t) := by
  intro pins s σ H Q I h
  refine wpAny_Call_Name_kw (ld_glob I hg hm ?_ hdb)
  refine PySem.W.callWith_K (h₀ := X.base) I.ok.mod.kin hk (thn (ha pos pins s σ H _ I h) fun us s1 ⟨vs, H1, I1, r, q⟩ => ⟨I1.kIn, ?_⟩) he hpl
  exact run_fn F hr hb hd hx I1 r q
structure Mk (K : PySem.W.Frag) (C f : Addr) : Prop where
  makes : PySem.W.makesIn K C = true
  init : PySem.W.findIn K (.ref C) "__init__" = some (some (.ref f))
  fn : PySem.W.isFn K (.ref f) = true
  kp : PySem.W.keepIn K (.ref C) = true
end
section
variable {X : Cx} {CX : CXT} {k : Nat} {f C : Addr} {fd : FuncData} {ps ks : List Str} {sp : Sp} {E : XK} {x m : Str} {p pos apos kpos : Pos} {e o : Expr} {es : List Expr} {kws : List Keyword} {te ta : TE} {t tk : TA} {nm : Option Str}
structure KBinds (K : PySem.W.Frag) (fd : FuncData) (ps ks : List Str) (g : List Value → List Value → List Value) (gV : List V → List V → List V) : Prop where
  to : ∀ (s : Shared) (us ws : List Value), K.In s.heap → (g us ws).length = ps.length → BindsTo s fd ⟨us, ks.zip ws⟩ (ps.zip (g us ws))
  rel : ∀ {vs : List V} {us : List Value} {zs : List V} {ws : List Value}, Vals vs us → Vals zs ws → Vals (gV vs zs) (g us ws)
variable {g : List Value → List Value → List Value} {gV : List V → List V → List V}
end
structure FnScope (N P : List Str) (sc : Scope) : Prop where
  kind : sc.kind = .function
  co : sc.isCoroutine = false
  gen : sc.isGenerator = false
  nd : N.Nodup
  pre : N.take P.length = P
  par : ∀ x ∈ P, sc.names.lookup x = some .local ∨ sc.names.lookup x = some .cell
  nofree : ∀ y ∈ sc.names, y.2 ≠ .free
theorem bindL_out {kindOf : Str → Option NameKind} {x : Str} : ∀ {binds : List (Str × Value)} {m : Str → Option Value}, (∀ v, (x, v) ∉ binds) → bindL kindOf binds m x = m x
  | [], _, _ => rfl
  | (n, v) :: r, m, h => by
    unfold bindL
    rw [bindL_out fun w hw => h w (List.mem_cons_of_mem _ hw)]
    split
    · have : x ≠ n := by rintro rfl; exact h v List.mem_cons_self
      simp [this]
    · rfl
theorem bindC_out {kindOf : Str → Option NameKind} {x : Str} : ∀ {binds : List (Str × Value)} {m : Str → Option Value}, (∀ v, (x, v) ∉ binds) → bindC kindOf binds m x = m x
  | [], _, _ => rfl
  | (n, v) :: r, m, h => by
    unfold bindC
    rw [bindC_out fun w hw => h w (List.mem_cons_of_mem _ hw)]
    split
    · rfl
    · have : x ≠ n := by rintro rfl; exact h v List.mem_cons_self
      simp [this]
theorem bindL_get {kindOf : Str → Option NameKind} {x : Str} {v : Value} : ∀ {P : List Str} {vs : List Value} {i : Nat} {m : Str → Option Value}, P.Nodup → P[i]? = some x → vs[i]? = some v → kindOf x = some .local →
    bindL kindOf (P.zip vs) m x = some v
  | [], _, _, _, _, h, _, _ => by simp at h
  | _ :: _, [], _, _, _, _, h, _ => by simp at h
  | p :: P, w :: vs, 0, m, nd, h1, h2, hk => by
    simp at h1 h2; subst h1; subst h2
    show bindL kindOf ((p, w) :: P.zip vs) m p = _
    unfold bindL
    rw [bindL_out fun v hv => (List.nodup_cons.mp nd).1 (List.of_mem_zip hv).1, if_pos hk]
    simp
  | p :: P, w :: vs, i + 1, m, nd, h1, h2, hk => by
    show bindL kindOf ((p, w) :: P.zip vs) m x = _
    unfold bindL
    exact bindL_get (i := i) (List.nodup_cons.mp nd).2 (by simpa using h1) (by simpa using h2) hk
theorem bindC_get {kindOf : Str → Option NameKind} {x : Str} {v : Value} : ∀ {P : List Str} {vs : List Value} {i : Nat} {m : Str → Option Value}, P.Nodup → P[i]? = some x → vs[i]? = some v → kindOf x ≠ some .local →
    bindC kindOf (P.zip vs) m x = some v
  | [], _, _, _, _, h, _, _ => by simp at h
  | _ :: _, [], _, _, _, _, h, _ => by simp at h
  | p :: P, w :: vs, 0, m, nd, h1, h2, hk => by
    simp at h1 h2; subst h1; subst h2
    show bindC kindOf ((p, w) :: P.zip vs) m p = _
    unfold bindC
    rw [bindC_out fun v hv => (List.nodup_cons.mp nd).1 (List.of_mem_zip hv).1, if_neg hk]
    simp
  | p :: P, w :: vs, i + 1, m, nd, h1, h2, hk => by
    show bindC kindOf ((p, w) :: P.zip vs) m x = _
    unfold bindC
    exact bindC_get (i := i) (List.nodup_cons.mp nd).2 (by simpa using h1) (by simpa using h2) hk
noncomputable def start (N : List Str) (vs : List V) : St := vs.map some ++ List.replicate (N.length - vs.length) none
noncomputable def cxOf (CX : CXT) (P : Program) (w : World) (K : PySem.W.Frag) (mg : Str → Option Value) (base : Heap) (N : List Str) (qual : Str) (scope : Scope) (f : Addr) (cd : Value) (A : Around) (outer : List Env) (s : Shared) (H : Hp) (E : XK) : Cx where
  prog := P
  w := w
  K := K
  mg := mg
  base := base
  A := A.deeper (envOfC qual scope s.heap.objs.size f cd)
  N := N
  s₀ := s
  H₀ := H
  env := envOfC qual scope s.heap.objs.size f cd
  outer := outer
  stack := envOfC qual scope s.heap.objs.size f cd :: outer
  ex := []
  calm := true
  fn := fun _ => true
  pn := []
  xe := fun e s' => wpAny (model P w) (A.deeper (envOfC qual scope s.heap.objs.size f cd)) (leaving (envOfC qual scope s.heap.objs.size f cd) e) (fun _ s'' => CX outer H s E e s'') (fun e' s'' => CX outer H s E e' s'') s'
theorem cell_has {sc : Scope} {n : Nat} {x : Str} (h : sc.names.lookup x = some .cell) : ∃ c, (cellsFrom n sc.names []).lookup x = some c := by
  have q := PySem.W.cellsFrom_some sc.names n [] (.inl h)
  exact Option.isSome_iff_exists.mp q
theorem inv_start {CX : CXT} {P : Program} {w : World} {K : PySem.W.Frag} {mg : Str → Option Value} {base : Heap} {N ps : List Str} {qual : Str} {scope : Scope} {f : Addr} {cd : Value} {A : Around} {outer : List Env} {s s1 : Shared} {H : Hp} {E : XK} {us : List Value} {vs : List V}
    (S : FnScope N ps scope) (hd : A.handled = none) (e0 : Env0 P w K mg base A outer s H) (hl : vs.length = ps.length) (r : Vals vs us)
    (x : InCallC s s.heap.objs.size (bindL (envOfC qual scope s.heap.objs.size f cd).kindOf (ps.zip us) fun _ => none) (cellsFrom (s.heap.objs.size + 1) scope.names []) (bindC (envOfC qual scope s.heap.objs.size f cd).kindOf (ps.zip us) fun _ => none) s1) :
    Inv (cxOf CX P w K mg base N qual scope f cd A outer s H E) [] (start N vs) H s1 := by
  have hpl : ps.length ≤ N.length := by have := congrArg List.length S.pre; rw [List.length_take] at this; omega
  refine L2.o_EEA (x.done) fun h1 tk zq2 hk => ?_
  subst zq2
  have noA : ∀ b : Addr, b ∉ (cxOf CX P w K mg base N qual scope f cd A outer s H E).ex := fun b z => absurd (show b ∈ ([] : List Addr) from z) (by simp)
  refine ⟨⟨e0.mod, S.kind, rfl, rfl, Nat.le_refl _, fun y z c h1 h2 => ?_, fun y hy => ?_, fun y c _ h => ?_, fun _ => hd, Around.frames_deeper e0.frames, .inr ⟨rfl, rfl⟩, fun b z => absurd z (noA b), e0.bs, e0.bsz, fun b _ _ => noA b, fun b z => absurd z (noA b), e0.funs, e0.frf, e0.tabs⟩,
    rfl, e0.bare, Un.kept hk, ⟨_, x.toInCall.ns, fun i y v h1 h2 h3 => ?_⟩, fun y c h => ⟨_, x.cell y c h⟩, e0.hok.fresh (Nat.le_refl _), fun y c h => ?_, fun p hp => absurd (show p ∈ ([] : List (Addr × Obj)) from hp) (by simp), e0.hok.kept hk, ?_⟩
  · exact name_of_addr x.apart (PySem.mem_of_lookup h1) (PySem.mem_of_lookup h2)
  · have hy : scope.names.lookup y = some .cell ∨ scope.names.lookup y = some .free := hy
    rcases hy with hy | hy
    · exact cell_has hy
    · exact absurd rfl (S.nofree _ (PySem.mem_of_lookup hy))
  · exact Nat.le_of_lt (x.above y c (PySem.mem_of_lookup h))
  · have hi : i < vs.length := by
      unfold start at h2
      by_cases hi : i < vs.length
      · exact hi
      · rw [List.getElem?_append_right (by simpa using hi)] at h2
        rw [List.getElem?_replicate] at h2
        split at h2 <;> cases h2
    have ha : vs[i]? = some v := by
      unfold start at h2
      rw [List.getElem?_append_left (by simpa using hi), List.getElem?_map] at h2
      cases e : vs[i]? with
      | none => rw [e] at h2; cases h2
      | some a => rw [e] at h2; cases h2; rfl
    refine L2.o_EA (r.get ha) fun u hu rv => ?_
    have hp : ps[i]? = some y := by
      rw [← S.pre, List.getElem?_take_of_lt (by omega)]; exact h1
    have ndP : ps.Nodup := by rw [← S.pre]; exact S.nd.sublist (List.take_sublist _ _)
    refine ⟨u, rv, ?_⟩
    rcases S.par y (List.mem_of_getElem? hp) with k | k
    · exact .inl ⟨k, bindL_get ndP hp hu k⟩
    · refine L2.o_E (cell_has (n := s.heap.objs.size + 1) k) fun c e => ?_
      refine .inr ⟨.inl k, c, e, ?_⟩
      have q := x.cell y c e
      rw [bindC_get ndP hp hu (by show scope.names.lookup y ≠ _; rw [k]; decide)] at q
      exact q
  · exact .inl (e0.hok.fresh (Nat.le_of_lt (x.above y c (PySem.mem_of_lookup h))))
  · unfold start
    show _ = N.length
    rw [List.length_append, List.length_map, List.length_replicate]
    omega
theorem fn_of {CX : CXT} {P : Program} {w : World} {K : PySem.W.Frag} {mg : Str → Option Value} {base : Heap} {k : Nat} {f : Addr} {name qual : Str} {params : Arguments} {body : List Stmt} {scope : Scope} {dV kV doc pm cdv ct oc : Value} {an od : Option Addr}
    {osl : Array (Option Value)} {N ps : List Str} {sp : Sp} (lk : K.lookup f = some ⟨oc, od, .func (PySem.W.fnOf name qual params body scope dV kV doc pm an cdv ct), osl⟩) (hcd : PySem.W.codeIn K cdv qual = true) (S : FnScope N ps scope)
    (len : ∀ vs H Q E, sp vs H Q E → vs.length = ps.length)
    (hbody : ∀ (A : Around) (outer : List Env) (s : Shared) (H : Hp) (vs : List V) (Q : VK) (E : XK), Room k (A.deeper (envOfC qual scope s.heap.objs.size f cdv)) → sp vs H Q E →
      ∃ t, PSs (cxOf CX P w K mg base N qual scope f cdv A outer s H E) body t ∧ t { nx := fun _ H' => Q .non H', rt := Q } (start N vs) H) :
    FnOk P w K mg base CX (k + 1) f (PySem.W.fnOf name qual params body scope dV kV doc pm an cdv ct) ps sp := by
  refine ⟨len, fun A outer s H args us vs Q E hr e0 hb r hsp => ?_⟩
  have hl := len _ _ _ _ hsp
  have KX : K.In s.heap := e0.mod.kin.keeps fun b o e => (e0.bs b o e).1
  have lim : s.heap.NoLimit := e0.mod.nolimit.keeps fun b o e => (e0.bs b o e).1
  have hkind : ∀ y ∈ ps.zip us, scope.names.lookup y.1 = some .local ∨ (scope.names.lookup y.1 = some .cell ∧ ((cellsFrom (s.heap.objs.size + 1) scope.names []).lookup y.1).isSome = true) := fun ⟨n, v⟩ hy => by
    rcases S.par n (List.of_mem_zip hy).1 with q | q
    · exact .inl q
    · exact .inr ⟨q, PySem.W.cellsFrom_some _ _ _ (.inl q)⟩
  refine codeAny_call_function hr.depth (KX _ _ lk) rfl S.co S.gen rfl (PySem.W.codeRec_of KX hcd) (hb _ _ _ _ ?_)
  refine wpAny_newFunctionEnv_cells S.kind hkind fun env he s1 x => ?_
  subst he
  refine ⟨lim.keeps x.toInCall.keep, codeAny_func ?_⟩
  refine L2.o_EA (hbody A outer s H vs Q E (hr.deeper _) hsp) fun t ht hq => ?_
  have I : Inv (cxOf CX P w K mg base N qual scope f cdv A outer s H E) [] (start N vs) H s1 := inv_start S hr.hd e0 hl r x
  refine wpAny_mono (ht [] s1 (start N vs) H _ I hq) (fun fl s' hs => ?_) fun e s' hs => hs
  have fin : ∀ {σ' : St} {H' : Hp} {v : V} {u : Value}, Inv (cxOf CX P w K mg base N qual scope f cdv A outer s H E) [] σ' H' s' → RelV v u → Q v H' → CE outer P w H s Q u s' :=
    fun {σ' H' v u} J rv q => ⟨v, H', J.os, J.bare, J.base, J.hok, rv, q⟩
  cases fl with
  | ret u =>
    refine L2.o_EEEAA (hs) fun v σ' H' J rv q => ?_
    exact fin J rv q
  | next =>
    refine L2.o_EEA (hs) fun σ' H' J q => ?_
    exact fin (v := V.non) (u := Value.none) J rfl q
  | brk =>
    refine L2.o_EEA (hs) fun _ _ _ q => ?_
    exact False.elim q
  | cont =>
    refine L2.o_EEA (hs) fun _ _ _ q => ?_
    exact False.elim q
end L2
namespace L2
open PySem PySem.Spec PyProof.Rows
section
variable {X : Cx} {x : Str} {p pos : Pos} {e : Expr} {es : List Expr} {t : TA} {id T : String} {r : List V → Hp → VK → Prop}
noncomputable def tCB (r : List V → Hp → VK → Prop) (t : TA) : TE := fun σ H Q => t σ H fun vs H1 => r vs H1 Q
theorem pe_callB (hc : CallR X (.builtin id) r) (hg : Gl X x) (hm : X.mg x = none) (hv : bootBuiltins x = some (.builtin id)) (ha : PA X (e :: es) t) (hn : x ≠ "__name__" := by decide) (hdb : (x == ("__debug__" : Str)) = false := by decide)
    (he : starEach (e :: es) X.env = (false, eval e X.env) :: starEach es X.env := by rfl) (hpl : (backTo pos (starEach es X.env)).any (·.1) = false := by rfl) : PE X (.Call (.Name x p) (e :: es) [] pos) (tCB r t) := by
  intro pins s σ H Q I h
  refine wpAny_Call_Name_kw (ld_blt I hg hm hv ?_ hn hdb)
  exact PyProof.Rows.callWith_builtin1 (thn (ha pos pins s σ H _ I h) fun us s1 ⟨vs, H1, I1, r1, q1⟩ => hc pins s1 σ H1 vs us Q I1 r1 q1) he hpl
theorem pe_callTy (hc : CallR X (.type T) r) (hg : Gl X x) (hm : X.mg x = none) (hv : bootBuiltins x = some (.type T)) (ha : PA X (e :: es) t) (hn : x ≠ "__name__" := by decide) (hdb : (x == ("__debug__" : Str)) = false := by decide)
    (he : starEach (e :: es) X.env = (false, eval e X.env) :: starEach es X.env := by rfl) (hpl : (backTo pos (starEach es X.env)).any (·.1) = false := by rfl) : PE X (.Call (.Name x p) (e :: es) [] pos) (tCB r t) := by
  intro pins s σ H Q I h
  refine wpAny_Call_Name_kw (ld_blt I hg hm hv ?_ hn hdb)
  exact PyProof.Rows.callWith_type1 (thn (ha pos pins s σ H _ I h) fun us s1 ⟨vs, H1, I1, r1, q1⟩ => hc pins s1 σ H1 vs us Q I1 r1 q1) he hpl
end
end L2
namespace HT
open PySem PyProof.Rows
section
open PySem.SeqAt
open PySem.AutoSeq1 (wpAny_loadPart')
open PySem.MeetsSeq PySem.MeetsSeq2 PySem.MeetsSeq3
end
section
variable {prog : Program} {w : World} {A : Around} {E : Value → Shared → Prop} {s : Shared}
end
end HT
namespace L2
open PySem PySem.Spec PyProof.Rows
noncomputable abbrev TO := St → Hp → (Option Int → Hp → Prop) → Prop
noncomputable def PO (X : Cx) (e : Option Expr) (t : TO) : Prop :=
  ∀ (pins : List (Addr × Obj)) (s : Shared) (σ : St) (H : Hp) (Q : Option Int → Hp → Prop), Inv X pins σ H s → t σ H Q →
    wpAny (model X.prog X.w) X.A (evalPart e X.env) (fun u s' => ∃ o H', Inv X pins σ H' s' ∧ IsPart u o ∧ Q o H') X.xe s
theorem intsAre_of {ns : List Int} : ∀ {us : List Value}, Vals (ns.map V.int) us → IntsAre us ns := by
  induction ns with
  | nil => intro us r; rw [List.map_nil] at r; cases r; exact .nil
  | cons n ns ih =>
    intro us r
    rw [List.map_cons] at r
    cases r with
    | cons r1 r2 =>
      refine L2.o_E (r1) fun t e => ?_
      subst e
      exact .cons n t (ih r2)
section
variable {X : Cx} {e : Expr} {te : TE} {lo hi : Option Expr} {tl th : TO} {pos p2 : Pos}
end
end L2
namespace L2
open PySem PySem.Spec PyProof.Rows
noncomputable def ixN (n : Nat) (i : Int) : Option Nat := if 0 ≤ i then (if i < n then some i.toNat else none) else if -(n : Int) ≤ i then some (i + n).toNat else none
noncomputable def atI {α : Type} (xs : List α) (i : Int) : Option α := (ixN xs.length i).bind fun j => xs[j]?
theorem ixN_seq {n : Nat} {i : Int} {j : Nat} (h : ixN n i = some j) : seqIndex? i n = some j ∧ j < n ∧ -(n : Int) ≤ i ∧ i < n := by
  unfold ixN at h
  by_cases h0 : 0 ≤ i
  · rw [if_pos h0] at h
    by_cases h1 : i < n
    · rw [if_pos h1] at h
      have e : i.toNat = j := Option.some.inj h
      exact ⟨by rw [seqIndex_of h0 h1, e], by omega, by omega, h1⟩
    · rw [if_neg h1] at h; cases h
  · rw [if_neg h0] at h
    by_cases h1 : -(n : Int) ≤ i
    · rw [if_pos h1] at h
      have e : (i + n).toNat = j := Option.some.inj h
      exact ⟨by rw [seqIndex_neg (by omega) h1, e], by omega, h1, by omega⟩
    · rw [if_neg h1] at h; cases h
theorem atI_get {α : Type} {xs : List α} {i : Int} {v : α} (h : atI xs i = some v) : ∃ j, seqIndex? i xs.length = some j ∧ xs[j]? = some v ∧ j < xs.length ∧ -(xs.length : Int) ≤ i ∧ i < xs.length := by
  unfold atI at h
  cases e : ixN xs.length i with
  | none => rw [e] at h; cases h
  | some j =>
    rw [e] at h
    refine L2.o_AAA (ixN_seq e) fun h1 h2 h3 h4 => ?_
    exact ⟨j, h1, h, h2, h3, h4⟩
theorem atI_nat {α : Type} {xs : List α} {j : Nat} {v : α} (h : xs[j]? = some v) : atI xs (j : Int) = some v := by
  have hj : j < xs.length := (List.getElem?_eq_some_iff.mp h).1
  have e : ixN xs.length (j : Int) = some j := by
    unfold ixN
    rw [if_pos (by omega), if_pos (by omega)]; simp
  unfold atI; rw [e]; exact h
noncomputable def PlainIx (b : Expr) : Prop := ∀ o i, subscripted b false o i = operate [o, i] (getItem o i)
noncomputable def IxR (X : Cx) (r : R2) : Prop :=
  ∀ (value slice : Expr) (pins : List (Addr × Obj)) (s : Shared) (σ : St) (H : Hp) (x y : V) (v u : Value) (Q : VK), Inv X pins σ H s → RelV x v → RelV y u → r x y H Q →
    subscripted slice false v u = operate [v, u] (getItem v u) → wpAny (model X.prog X.w) X.A (subscriptTail value slice v u) (EP X pins σ Q) X.xe s
noncomputable def MtR (X : Cx) (id : String) (r : V → List V → Hp → VK → Prop) : Prop :=
  ∀ (pins : List (Addr × Obj)) (s : Shared) (σ : St) (H : Hp) (x : V) (xs : List V) (v : Value) (us : List Value) (Q : VK), Inv X pins σ H s → RelV x v → Vals xs us → r x xs H Q →
    wpAny (model X.prog X.w) X.A (call (.builtin id) (v :: us)) (EP X pins σ Q) X.xe s
section
variable {X : Cx} {a b : Expr} {ta tb : TE} {pos : Pos}
theorem IxR.or {r r' : R2} (h : IxR X r) (h' : IxR X r') : IxR X (fun x y H Q => r x y H Q ∨ r' x y H Q) := by
  intro value slice pins s σ H x y v u Q I rx ry q hs
  rcases q with q | q
  · exact h value slice pins s σ H x y v u Q I rx ry q hs
  · exact h' value slice pins s σ H x y v u Q I rx ry q hs
theorem pe_ix {r : R2} (hr : IxR X r) (ha : PE X a ta) (hb : PE X b tb) (hs : PlainIx b) : PE X (.Subscript a b pos) (tOp r ta tb) := by
  intro pins s σ H Q I h
  exact Subscript_ (binT ha hb I h fun v u s2 x y H2 I2 rx ry q => hr a b pins s2 σ H2 x y v u Q I2 rx ry q (hs _ _))
noncomputable def rIxL (K : PySem.W.Frag) : R2 := fun x y H Q => ∃ p xs i v, x = .ref p ∧ y = .int i ∧ SqL K H p xs ∧ atI xs i = some v ∧ Q v H
noncomputable def rIxT (K : PySem.W.Frag) : R2 := fun x y H Q => ∃ p xs i v, x = .ref p ∧ y = .int i ∧ SqT K H p xs ∧ atI xs i = some v ∧ Q v H
theorem ix_list : IxR X (rIxL X.K) := by
  intro value slice pins s σ H x y v u Q I rx ry h hs
  revert h
  refine fun zqq => L2.o_EEEEAAAA zqq fun p xs i z zq4 zq5 hq he q => ?_
  clear zqq
  subst zq4
  subst zq5
  cases rx
  revert ry
  refine fun zqq => L2.o_E zqq fun t zq1 => ?_
  clear zqq
  subst zq1
  refine L2.o_EAA (I.list hq) fun its r pl hz => ?_
  refine L2.o_EAAAA (atI_get he) fun j h1 h2 h3 h4 h5 => ?_
  refine L2.o_EA (r.get h2) fun w ew rw' => ?_
  have hl := r.length
  have hn := line63
  have fin : EP X pins σ Q w s := ⟨z, H, I, rw', q⟩
  by_cases h0 : 0 ≤ i
  · have hj : i.toNat = j := by
      rw [seqIndex_of h0 h5] at h1
      exact Option.some.inj h1
    exact item_listR pl.isList h0 (by omega) (by rw [hj]; simpa using ew) fin hs
  · have hj : (i + (its.toArray.size : Int)).toNat = j := by
      rw [seqIndex_neg (by omega) h4] at h1
      rw [List.size_toArray, ← hl]
      exact Option.some.inj h1
    exact subscriptTail_builtinR (x := w) pl.isList.typeIs slot_list_getitem.lookup
      (wpAny_getItem_list_neg (Q := fun r s' => r = w ∧ EP X pins σ Q r s') pl.isList (by omega) (by rw [List.size_toArray] <;> omega) (by omega) (by rw [hj]; simpa using ew) ⟨rfl, fin⟩) hs
theorem ix_tup : IxR X (rIxT X.K) := by
  intro value slice pins s σ H x y v u Q I rx ry h hs
  revert h
  refine fun zqq => L2.o_EEEEAAAA zqq fun p xs i z zq4 zq5 hq he q => ?_
  clear zqq
  subst zq4
  subst zq5
  cases rx
  revert ry
  refine fun zqq => L2.o_E zqq fun t zq1 => ?_
  clear zqq
  subst zq1
  refine L2.o_EAA (I.tuple hq) fun its r pl hz => ?_
  refine L2.o_EAAAA (atI_get he) fun j h1 h2 h3 h4 h5 => ?_
  refine L2.o_EA (r.get h2) fun w ew rw' => ?_
  have hl := r.length
  have hn := line63
  have fin : EP X pins σ Q w s := ⟨z, H, I, rw', q⟩
  exact subscriptTail_builtinR (x := w) pl.typeIs slot_tuple_getitem.lookup
    (getItem_tuple (j := j) (Q := fun r s' => r = w ∧ EP X pins σ Q r s') pl (by omega) (by omega) (by rw [List.size_toArray, ← hl]; exact h1) (by simpa using ew) ⟨rfl, fin⟩) hs
noncomputable def flatV : V → Bool
  | .non => true
  | .bl _ => true
  | .int _ => true
  | .str _ => true
  | _ => false
noncomputable def eqV : V → V → Bool
  | .non, .non => true
  | .bl a, .bl b => a == b
  | .bl a, .int b => (if a then 1 else 0) == b
  | .int a, .bl b => a == (if b then 1 else 0)
  | .int a, .int b => a == b
  | .str a, .str b => a == b
  | _, _ => false
theorem eqAt_V {A : Around} {s : Shared} {y x : V} {u v : Value} (ry : RelV y u) (rx : RelV x v) (fy : flatV y = true) (fx : flatV x = true) : SeqAt.EqAt A s u v (eqV y x) := by
  cases y with
  | non =>
    cases ry
    cases x with
    | non => cases rx; exact SeqAt.EqAt.same _
    | bl b => cases rx; exact SeqAt.EqAt.none_bool b
    | int b => obtain ⟨t, rfl⟩ := rx; exact SeqAt.EqAt.none_int b t
    | str b => obtain ⟨t, rfl⟩ := rx; exact SeqAt.EqAt.none_str b t
    | _ => exact absurd (show false = true from fx) Bool.false_ne_true
  | bl a =>
    cases ry
    cases x with
    | non => cases rx; exact SeqAt.EqAt.bool_none a
    | bl b => cases rx; exact SeqAt.EqAt.bool_bool a b
    | int b => obtain ⟨t, rfl⟩ := rx; exact SeqAt.EqAt.bool_int a b t
    | str b => obtain ⟨t, rfl⟩ := rx; exact SeqAt.EqAt.bool_str a b t
    | _ => exact absurd (show false = true from fx) Bool.false_ne_true
  | int a =>
    revert ry
    refine fun zqq => L2.o_E zqq fun t' zq1 => ?_
    clear zqq
    subst zq1
    cases x with
    | non => cases rx; exact SeqAt.EqAt.int_none a t'
    | bl b => cases rx; exact SeqAt.EqAt.int_bool a t' b
    | int b => obtain ⟨t, rfl⟩ := rx; exact SeqAt.EqAt.int_int a t' b t
    | str b => obtain ⟨t, rfl⟩ := rx; exact SeqAt.EqAt.int_str a t' b t
    | _ => exact absurd (show false = true from fx) Bool.false_ne_true
  | str a =>
    revert ry
    refine fun zqq => L2.o_E zqq fun t' zq1 => ?_
    clear zqq
    subst zq1
    cases x with
    | non => cases rx; exact SeqAt.EqAt.str_none a t'
    | bl b => cases rx; exact SeqAt.EqAt.str_bool a t' b
    | int b => obtain ⟨t, rfl⟩ := rx; exact SeqAt.EqAt.str_int a t' b t
    | str b => obtain ⟨t, rfl⟩ := rx; exact SeqAt.EqAt.str_str a t' b t
    | _ => exact absurd (show false = true from fx) Bool.false_ne_true
  | _ => exact absurd (show false = true from fy) Bool.false_ne_true
noncomputable def eqU (x : V) (u : Value) : Bool := match u with
  | .none => eqV .non x
  | .bool b => eqV (.bl b) x
  | .int i _ => eqV (.int i) x
  | .str z _ => eqV (.str z) x
  | _ => false
theorem eqU_of {x y : V} {u : Value} (r : RelV y u) (f : flatV y = true) : eqU x u = eqV y x := by
  cases y with
  | non => cases r; rfl
  | bl b => cases r; rfl
  | int i => obtain ⟨t, rfl⟩ := r; rfl
  | str z => obtain ⟨t, rfl⟩ := r; rfl
  | _ => exact absurd (show false = true from f) Bool.false_ne_true
theorem mem_eqAt {A : Around} {s : Shared} {x : V} {v : Value} (rx : RelV x v) (fx : flatV x = true) : ∀ {xs : List V} {us : List Value}, Vals xs us → xs.all flatV = true → ∀ u ∈ us, SeqAt.EqAt A s u v (eqU x u) := by
  intro xs us h
  induction h with
  | nil => exact fun _ u hu => by cases hu
  | cons r t ih =>
    intro f u' hu
    rw [List.all_cons, Bool.and_eq_true] at f
    rcases List.mem_cons.mp hu with rfl | hu
    · rw [eqU_of r f.1]; exact eqAt_V r rx f.1 fx
    · exact ih f.2 u' hu
theorem call_len_seq : CallR X (.builtin "len") (fun xs H Q => ∃ p ys, xs = [.ref p] ∧ (SqL X.K H p ys ∨ SqT X.K H p ys) ∧ Q (.int ys.length) H) := by
  intro pins s σ H xs us Q I r h
  revert h
  refine fun zqq => L2.o_EEAA zqq fun p ys zq2 hq q => ?_
  clear zqq
  subst zq2
  refine L2.o_EA (vals1 r) fun u zq1 rx => ?_
  subst zq1
  cases rx
  have hn := line63
  rcases hq with hq | hq
  · refine L2.o_EAA (I.list hq) fun its r' pl hz => ?_
    have hlen := r'.length
    exact Calls.call_len_list pl.isList (by simp only [List.size_toArray] <;> omega) ⟨.int ys.length, H, I.tok _, ⟨s.toks + 1, by rw [List.size_toArray, hlen]⟩, q⟩
  · refine L2.o_EAA (I.tuple hq) fun its r' pl hz => ?_
    have hlen := r'.length
    exact len_tuple pl (by simp only [List.size_toArray] <;> omega) ⟨.int ys.length, H, I.tok _, ⟨s.toks + 1, by rw [List.size_toArray, hlen]⟩, q⟩
noncomputable def tyV (K : PySem.W.Frag) (T : String) (x : V) (H : Hp) : Prop := match x with
  | .str _ => T = "str"
  | .int _ => T = "int"
  | .ref p => (T = "list" ∧ ∃ xs, SqL K H p xs) ∨ (T = "tuple" ∧ ∃ o, K.lookup p = some o ∧ o.cls = .type "tuple" ∧ o.dict = none) ∨
      (T = "dict" ∧ ((∃ kvs, H p = some (.dK kvs)) ∨ ∃ kvs, H p = some (.dT kvs))) ∨ (T = "set" ∧ ∃ S n, H p = some (.set S n))
  | _ => False
theorem tyV_is {pins : List (Addr × Obj)} {σ : St} {H : Hp} {s : Shared} {T : String} {x : V} {v : Value} (I : Inv X pins σ H s) (r : RelV x v) (ty : tyV X.K T x H) :
    s.TypeIs v T ∧ ∀ a, v = .ref a → ∃ ob, s.heap.get? a = some ob ∧ ob.dict = none := by
  cases x with
  | str z =>
    revert r
    refine fun zqq => L2.o_E zqq fun t zq1 => ?_
    clear zqq
    subst zq1
    cases (show T = "str" from ty)
    exact ⟨typeIs_str s z t, fun _ e => nomatch e⟩
  | int i =>
    revert r
    refine fun zqq => L2.o_E zqq fun t zq1 => ?_
    clear zqq
    subst zq1
    cases (show T = "int" from ty)
    exact ⟨typeIs_int s i t, fun _ e => nomatch e⟩
  | ref p =>
    cases r
    rcases ty with ⟨rfl, xs, hq⟩ | ⟨rfl, o, hk, hc, hd⟩ | ⟨rfl, hk⟩ | ⟨rfl, S, n, hk⟩
    · refine L2.o_EAA (I.list hq) fun its _ pl _ => ?_
      refine ⟨pl.isList.typeIs, fun a e => ?_⟩
      cases e
      refine L2.o_EEAAA (pl) fun o n e c hd _ => ?_
      exact ⟨o, e, hd⟩
    · refine ⟨⟨o, I.kIn p o hk, hc⟩, fun a e => ?_⟩
      cases e
      exact ⟨o, I.kIn _ o hk, hd⟩
    · have z : ∃ o, s.heap.get? p = some o ∧ o.ExactDict := by
        rcases hk with ⟨kvs, hk⟩ | ⟨kvs, hk⟩
        · refine L2.o_AAEAEEEAA (I.hok p _ hk) fun _ _ _ _ o _ _ e ex _ => ?_
          exact ⟨o, e, ex⟩
        · refine L2.o_AAEAEEEAA (I.hok p _ hk) fun _ _ _ _ o _ _ e ex _ => ?_
          exact ⟨o, e, ex⟩
      refine L2.o_EA (z) fun o e ex => ?_
      refine ⟨⟨o, e, ex.1⟩, fun a e2 => ?_⟩
      cases e2
      exact ⟨o, e, ex.2.1⟩
    · refine L2.o_EEEEAA (I.hok p _ hk) fun o _ _ _ e ex _ => ?_
      refine ⟨⟨o, e, ex.1⟩, fun a e2 => ?_⟩
      cases e2
      exact ⟨o, e, ex.2.1⟩
  | _ => exact False.elim ty
noncomputable def tBM (K : PySem.W.Frag) (T : String) (r : V → List V → Hp → VK → Prop) (to : TE) (t : TA) : TE := fun σ H Q => to σ H fun x H1 => tyV K T x H1 ∧ t σ H1 fun xs H2 => r x xs H2 Q
variable {o e : Expr} {es : List Expr} {to : TE} {t : TA} {name : Str} {apos cpos : Pos} {T id : String} {r : V → List V → Hp → VK → Prop}
theorem pe_bm (pa : PlainAttrs T) (slot : Slot T name id) (hty : typeOf (.builtin id) = pure (.type "method_descriptor")) (hm : MtR X id r) (ho : PE X o to) (ha : PA X (e :: es) t)
    (hbase : attributeBase o name X.env (eval o X.env) = eval o X.env := by rfl)
    (hfew : ((backTo cpos (starEach (e :: es) X.env)).all (fun x => !x.1) && (backToKw cpos (keywordEach [] X.env)).all (fun x => x.1.isSome)
      && decide ((e :: es).length + ([] : List Keyword).length + (if ([] : List Keyword).isEmpty then 0 else 1) < 30)) = true := by rfl)
    (hline : (apos.endLine == cpos.line) = true := by rfl) (hs : starEach (e :: es) X.env = (false, eval e X.env) :: starEach es X.env := by rfl) (hplain : (backTo cpos (starEach es X.env)).any (·.1) = false := by rfl) :
    PE X (.Call (.Attribute o name apos) (e :: es) [] cpos) (tBM X.K T r to t) := by
  intro pins s σ H Q I h
  refine wpAny_Call_method_late hbase hfew hline rfl (thn (ho pins s σ H _ I h) fun v s1 zpat => ?_)
  obtain ⟨x, H1, I1, r1, ty, q1⟩ := zpat
  refine L2.o_A (tyV_is I1 r1 ty) fun h1 h2 => ?_
  refine L2.i_EEAAAAA (T) (id) (pa) (slot) (hty) (h1) (h2) ?_
  have hA := ha cpos pins s1 σ H1 _ I1 q1
  rw [hs] at hA ⊢
  refine Calls.callWith_builtin (by show (false || (backTo cpos (starEach es X.env)).any (·.1)) = false; rw [hplain] <;> rfl) (Calls.evalArgs_plain ?_)
  exact thn hA fun us s2 ⟨vs, H2, I2, r2, q2⟩ => hm pins s2 σ H2 x vs v us Q I2 r1 r2 q2
/- xs.append(e), list.index on a module's tuple .. are MtR facts of 06m -/
end
end L2
namespace L2
open PySem PySem.Spec PyProof.Rows
noncomputable def MtM (X : Cx) (id : String) (r : V → List V → Hp → VK → Prop) : Prop :=
  ∀ (pins : List (Addr × Obj)) (s : Shared) (σ : St) (H : Hp) (x : V) (xs : List V) (v : Value) (us : List Value) (Q : VK), Inv X pins σ H s → RelV x v → Vals xs us → r x xs H Q →
    wpAny (model X.prog X.w) X.A (call (.builtin id) (v :: us)) (EP X pins σ Q) X.xe s
theorem Vals.one {x : V} {us : List Value} (h : Vals [x] us) : ∃ u, us = [u] ∧ RelV x u := by
  cases h with
  | cons r t => cases t; exact ⟨_, rfl, r⟩
theorem Vals.two {x y : V} {us : List Value} (h : Vals [x, y] us) : ∃ u v, us = [u, v] ∧ RelV x u ∧ RelV y v := by
  cases h with
  | cons r t =>
    refine L2.o_EA (Vals.one t) fun u zq1 q => ?_
    subst zq1
    exact L2.i_EEAA (_) (_) (rfl) (r) (q)
theorem Vals.reverse {xs : List V} {us : List Value} (h : Vals xs us) : Vals xs.reverse us.reverse := by
  induction h with
  | nil => exact .nil
  | cons r t ih => rw [List.reverse_cons, List.reverse_cons]; exact Vals.append ih (.cons r .nil)
section
variable {X : Cx} {pins : List (Addr × Obj)} {σ : St} {H : Hp} {s : Shared} {l b : Addr} {xs ys zs : List V}
theorem Inv.lset {its its' : List Value} {n : Nat} {f : Array Value → Array Value} {t' : Nat} (I : Inv X pins σ H s) (hH : H l = some (.lst xs))
    (e : s.heap.get? l = some { cls := .type "list", data := .seq its.toArray n }) (hf : f its.toArray = its'.toArray) (hv : Vals ys its') (hz : ys.length ≤ sizeLine) :
    Inv X pins σ (upd H l (.lst ys)) { s with heap := s.heap.update l (Obj.mapSeq f), toks := t' } := by
  have q := PySem.IsL.update e f
  rw [hf] at q
  refine I.write (x := l) (e := l) (by rw [hH]; exact trivial) (.inl rfl) (fun b' u hb hu => (Heap.get?_update_other s.heap (Obj.mapSeq f) (Ne.symm hb)).trans hu) ⟨_, q⟩ ?_
  exact L2.i_AEEA (hz) (its') (_) (hv) (q)
theorem Inv.lnew {its : List Value} {t' : Nat} (I : Inv X pins σ H s) (hv : Vals ys its) (hz : ys.length ≤ sizeLine) :
    Inv X pins σ (upd H s.heap.objs.size (.lst ys)) { s with heap := s.heap.push { cls := .type "list", data := .seq its.toArray }, toks := t' } :=
  I.laid (fun _ _ q => Heap.get?_push_of_some _ q) (Nat.le_refl _) ⟨hz, its, 0, hv, Heap.get?_push_size _ rfl⟩
theorem Inv.fresh (I : Inv X pins σ H s) : H s.heap.objs.size = none := I.hok.fresh (Nat.le_refl _)
theorem Inv.lstM (I : Inv X pins σ H s) (hH : H l = some (.lst xs)) : xs.length ≤ sizeLine ∧ ∃ (its : List Value) (n : Nat), Vals xs its ∧ xs.length = its.length ∧ s.heap.get? l = some { cls := .type "list", data := .seq its.toArray n } := by
  refine L2.o_AEEA (I.hok l _ hH) fun z its n r e => ?_
  exact L2.i_AEEAA (z) (its) (n) (r) (r.length) (e)
end
section
variable {X : Cx}
noncomputable def rAppend : V → List V → Hp → VK → Prop := fun x vs H Q => ∃ l xs y, x = .ref l ∧ vs = [y] ∧ H l = some (.lst xs) ∧ xs.length < sizeLine ∧ Q .non (upd H l (.lst (xs ++ [y])))
theorem mt_append : MtM X "list.append" rAppend := by
  intro pins s σ H x vs v us Q I rx rv h
  revert h
  refine fun zqq => L2.o_EEEAAAA zqq fun l xs y zq3 zq4 hH hz q => ?_
  clear zqq
  subst zq3
  subst zq4
  cases rx
  refine L2.o_EA (rv.one) fun u zq1 ru => ?_
  subst zq1
  refine L2.o_AEEAA (I.lstM hH) fun z its n r hl e => ?_
  refine call_meets F.slot_list_append ⟨_, e, rfl⟩ F.entry_list_append (F.args_list_append_2 _ _) (PySem.list_append l its.toArray n u (by rw [List.size_toArray]; omega)) ⟨e, ?_⟩
  refine ⟨.non, _, I.lset (its' := its ++ [u]) hH e (by simp) (r.append (.cons ru .nil)) ?_, rfl, q⟩
  rw [List.length_append, List.length_singleton]
  omega
end
section
variable {prog : Program} {w : World} {A : Around} {E : Value → Shared → Prop} {s : Shared}
end
section
variable {X : Cx}
end
end L2
namespace Att
open PySem PySem.W PySem.Calls PyProof.Rows
theorem ints_of_wellAll {P : Params} {h : Heap} : ∀ (ns : List Int) (vs : List Value), WellAll P h vs (ns.map WData.int) → IntsAre vs ns := by
  intro ns
  induction ns with
  | nil =>
    intro vs w
    rw [List.map_nil] at w
    cases w
    exact .nil
  | cons n ns ih =>
    intro vs w
    rw [List.map_cons] at w
    cases w with
    | cons a b =>
      cases a
      exact .cons _ _ (ih _ b)
theorem script_of {l : OpenLaw} {n : Nat} (hn : l.most = some n) {P : Params} {h : Heap} {args : List WData} {vals : List Value}
    (hpre : l.row.toRowW.claim.pre args = true) (hwl : WellAll P h vals args) :
    ∃ a vs ns, vals = [Value.ref a] ∧ args = [WData.list (ns.map WData.int)] ∧ h.get? a = some { cls := .type "list", data := .seq vs.toArray } ∧ IntsAre vs ns ∧ ns.length ≤ n := by
  have hsh : WShape.hasAll [] args [.list .int] = true := (pre_splitW hpre).1
  have hc : l.pre.holds [] { args := args } = true := (pre_splitW hpre).2
  refine L2.o_EEAA (hasAllW_cons hsh) fun d r zq2 h1 h2 => ?_
  subst zq2
  obtain rfl := hasAllW_nil h2
  refine L2.o_EA (hasW_list h1) fun xs zq1 h3 => ?_
  subst zq1
  refine L2.o_E (items_int h3) fun ns zq1 => ?_
  subst zq1
  have hlen : ns.length ≤ n := by
    unfold OpenLaw.pre at hc
    have h4 : (WTm.not (.lt (.lit (.int (n : Int))) (.len (.arg 0)))).holds [] { args := [.list (ns.map .int)] } = true := by
      have h4 := (holds_andW hc).1
      rw [hn] at h4
      exact h4
    have h5 := condW_of h4 (w_not (w_lt w_lit (w_len_list (w_arg rfl))))
    rw [List.length_map] at h5
    refine Nat.le_of_not_lt fun q => ?_
    have q' : (n : Int) < ((ns.length : Nat) : Int) := by omega
    first
      | (rw [decide_eq_true q'] at h5; exact absurd h5 (by decide))
      | (simp at h5; omega)
  cases hwl with
  | cons w1 w2 =>
    cases w2
    cases w1 with
    | list ho hall => exact ⟨_, _, ns, rfl, rfl, ho, ints_of_wellAll ns _ hall, hlen⟩
theorem post_true (l : OpenLaw) (args : List WData) : l.row.toRowW.claim.post args (.bool true) args = true :=
  postW_of (r := l.row.toRowW) (X := (true == true))
    (show WShape.has [] (.bool true) .bool = true by first | rfl | decide | simp [WShape.has, WShape.arms, WShape.armsAll])
    (show (WTm.eq .res (.lit (.bool true))).value [] { args := args, res := some (.bool true), after := args } = some (.bool (true == true)) from w_eq_bool (w_res rfl) w_lit) rfl
theorem attach_call {l : OpenLaw} {n : Nat} {q : Program} {loose : List Str} {XP : (Str → Option Value) → Heap → Prop} {YP : World → Heap → Prop} {d : DefRec}
    (hn : l.most = some n) (hdf : d.params.defaults = [])
    (call : ∀ (w : World) (s₀ s₁ : Shared) (mg mb : Str → Option Value) (fa : Addr) (o : Obj) (pm cd doc : Value) (a : Addr) (vs : List Value) (ns : List Int),
      Ground q loose [] XP w s₀ mg mb s₁.heap → YP w s₁.heap →
      s₁.heap.get? fa = some o → o.data = .func (docDef d.name d.params d.body d.scope pm cd doc) → s₁.heap.CodeRec cd d.name → mg d.name = some (.ref fa) →
      s₁.heap.get? a = some { cls := .type "list", data := .seq vs.toArray } → IntsAre vs ns → ns.length ≤ n → s₁.gens = #[] →
      codeAny (model l.prog w) callerA (.call (.ref fa) ⟨[.ref a], []⟩) (fun r s' => r = .ok (.ret (.bool true)) ∧ OldK s₁.heap s'.heap ∧ s'.os = s₁.os ∧ AllBare s'.gens) s₁) :
    WalkO q loose XP YP l.row.toRowW d [] (fun f vs => PySem.call f vs) := by
  intro w s₀ s₁ mg mb G Y fa o pm cd doc dV kV ho hd hcd hD hmg hg args vals as hpre hlay hrd hwl hlo
  obtain rfl : dV = .none := Dflts.none hD hdf
  obtain rfl : kV = .none := Dflts.noKw hD
  refine L2.o_EEEAAAA (script_of hn hpre hwl) fun a vs ns zq3 zq4 hobj hints hlen => ?_
  subst zq3
  subst zq4
  refine enter_call (codeAny_mono (call w s₀ s₁ mg mb fa o pm cd doc a vs ns G Y ho (fd_plain hd) hcd hmg hobj hints hlen hg) fun r s' hq => ?_)
  revert hq
  refine fun zqq => L2.o_AAA zqq fun zq0 h2 h3 h4 => ?_
  clear zqq
  subst zq0
  exact ⟨.inl ⟨.bool true, .bool true, [], rfl, fun _ => rfl, .bool true, post_true l _, fun _ => ⟨List.Pairwise.nil, fun _ hm => (nomatch hm)⟩⟩, h2, h3, h4⟩
section
variable {prog : Program} {w : World} {A : Around} {E : Value → Shared → Prop} {s : Shared} {K : Frag}
end
end Att
namespace L2
open PySem PySem.Spec PyProof.Rows
theorem vals_ints {vs : List Value} {ns : List Int} (h : IntsAre vs ns) : Vals (ns.map V.int) vs := by
  induction h with
  | nil => exact .nil
  | cons n t h ih => exact .cons ⟨t, rfl⟩ ih
end L2
namespace L2
open PySem PySem.Spec PyProof.Rows
noncomputable abbrev KOf {K : PySem.W.Frag} {h : Heap} (_ : K.In h) : PySem.W.Frag := K
end L2
namespace L2
open PySem PySem.Spec PyProof.Rows
noncomputable def defArgs (s : Stmt) : Arguments := match s with
  | .FunctionDef _ a _ _ _ _ _ _ _ _ => a
  | _ => { posonlyargs := [], args := [], vararg := none, kwonlyargs := [], kw_defaults := [], kwarg := none, defaults := [] }
noncomputable def defBody (s : Stmt) : List Stmt := match s with
  | .FunctionDef _ _ b _ _ _ _ _ _ _ => b
  | _ => []
noncomputable def defScope (s : Stmt) : Scope := match s with
  | .FunctionDef _ _ _ _ _ _ sc _ _ _ => sc
  | _ => { kind := .function, names := [], isGenerator := false, isCoroutine := false }
noncomputable abbrev CX0 : CXT := fun _ _ _ _ _ _ => False
noncomputable abbrev E0 : XK := fun _ _ _ => False
theorem pass0 {X : Cx} : Passes CX0 X E0 := fun _ _ _ _ _ _ _ h => h.elim
structure Fun (K : PySem.W.Frag) (x qual : Str) (st : Stmt) (f : Addr) (fd : FuncData) : Prop where
  ex : ∃ (oc : Value) (od : Option Addr) (kV doc pm : Value) (an : Option Addr) (cdv ct : Value) (osl : Array (Option Value)),
    fd = PySem.W.fnOf x qual (defArgs st) (defBody st) (defScope st) .none kV doc pm an cdv ct ∧ K.lookup f = some ⟨oc, od, .func fd, osl⟩ ∧ PySem.W.codeIn K cdv qual = true
  kp : PySem.W.keepIn K (.ref f) = true
section
variable {P : Program} {w : World} {K : PySem.W.Frag} {mg : Str → Option Value} {base : Heap}
theorem Fun.binds {x qual : Str} {st : Stmt} {f : Addr} {fd : FuncData} {ps : List Str} (F : Fun K x qual st f fd)
    (h : ∀ (kV doc pm : Value) (an : Option Addr) (cdv ct : Value) (us : List Value), us.length = ps.length → bindArgs (PySem.W.fnOf x qual (defArgs st) (defBody st) (defScope st) .none kV doc pm an cdv ct) ⟨us, []⟩ = pure (ps.zip us)) : Binds K fd ps [] := by
  refine L2.o_EEEEEEEEEAA (F.ex) fun oc od kV doc pm an cdv ct osl zq9 lk hcd => ?_
  subst zq9
  exact .all (h kV doc pm an cdv ct)
theorem fun_mk {x qual : Str} {st : Stmt} {f : Addr} {oc : Value} {od an : Option Addr} {osl : Array (Option Value)} {kV doc pm cdv ct : Value} (l : K.lookup f = some ⟨oc, od, .func (PySem.W.fnOf x qual (defArgs st) (defBody st) (defScope st) .none kV doc pm an cdv ct), osl⟩)
    (c : PySem.W.codeIn K cdv qual = true) (k : PySem.W.keepIn K (.ref f) = true) : Fun K x qual st f (PySem.W.fnOf x qual (defArgs st) (defBody st) (defScope st) .none kV doc pm an cdv ct) := ⟨⟨oc, od, kV, doc, pm, an, cdv, ct, osl, rfl, l, c⟩, k⟩
end
section
variable {X : Cx}
theorem pv (i : Nat) {x : Str} {pos : Pos} (hN : X.N[i]? = some x := by rfl) (hv : Vis X.env.scope x := by first | exact Or.inl rfl | exact Or.inr (Or.inl rfl) | exact Or.inr (Or.inr rfl)) (hd : (x == ("__debug__" : Str)) = false := by decide)
    (hcd : (x == ("__classdict__" : Str)) = false := by decide) : PE X (.Name x pos) (tVar i) := pe_var hN hv hd hcd
end
noncomputable def Same (H H' : Hp) : Prop := ∀ b o, H b = some o → H' b = some o
theorem Same.refl (H : Hp) : Same H H := fun _ _ h => h
theorem Same.trans {H H1 H2 : Hp} (a : Same H H1) (b : Same H1 H2) : Same H H2 := fun c o h => b c o (a c o h)
theorem Same.free {H H' : Hp} (e : Same H H') {l : Addr} (h : H' l = Option.none) : H l = Option.none := by
  cases q : H l with
  | none => rfl
  | some o =>
    rw [e l o q] at h
    cases h
theorem Same.seq {K : PySem.W.Frag} {H H' : Hp} {a : Addr} {xs : List V} (e : Same H H') (h : SqL K H a xs) : SqL K H' a xs := by
  rcases h with (h | ⟨o, h⟩) | h
  · exact .inl (.inl (e _ _ h))
  · exact .inl (.inr ⟨o, e _ _ h⟩)
  · exact .inr h
end L2
namespace L2
open PySem PySem.Spec PyProof.Rows
noncomputable def TabAt (P : Program) (K : PySem.W.Frag) (p : Addr) : Prop := ∃ x c, x ∈ lamNames P ∧ PySem.W.tabIn K x = some (c, p)
open Classical in
theorem law_callT {P : Program} {w : World} {K : PySem.W.Frag} {mg mb : Str → Option Value} {CX : CXT} {k : Nat} {fa a : Addr} {fd : FuncData} {x : Str} {sp : Sp} {s₁ : Shared} {vs : List Value} {ns : List Int}
    (KX : K.In s₁.heap) (hns : s₁.heap.Ns mainGlobals mg) (hb : s₁.heap.Ns builtinsNs mb) (hbb : ∀ x : Str, x ≠ "__name__" → mb x = bootBuiltins x) (hlim : s₁.heap.NoLimit) (hg : s₁.gens = #[])
    (ha : s₁.heap.get? a = some { cls := .type "list", data := .seq vs.toArray }) (hi : IntsAre vs ns) (hl : ns.length ≤ sizeLine) (hr : Room k callerA)
    (hT : ∀ x c p, x ∈ lamNames P → PySem.W.tabIn K x = some (c, p) → PySem.W.CodeHd s₁.heap c p ∧ s₁.heap.get? p = some (PySem.W.tabObj #[])) (hTK : ∀ x c p, x ∈ lamNames P → PySem.W.tabIn K x = some (c, p) → K.lookup p = none)
    (hBm : ∃ bm ob, mg "__builtins__" = some (.ref bm) ∧ bm ≠ builtinsNs ∧ s₁.heap.get? bm = some ob ∧ ob.cls = .type "module" ∧ ob.dict = some builtinsNs ∧ ob.data = .plain)
    (F : ∀ base : Heap, K.In base → base.Ns mainGlobals mg → FnOk P w K mg base CX k fa fd [x] sp) (hbind : ∀ (s : Shared) (u : Value), BindsTo s fd ⟨[u], []⟩ [(x, u)])
    (hsp : ∀ H : Hp, SqL K H a (ns.map V.int) → sp [.ref a] H (fun v _ => v = .bl true) fun _ _ _ => False)
    (hCX : ∀ H e s', CX [] H s₁ (fun _ _ _ => False) e s' → False) :
    codeAny (model P w) callerA (.call (.ref fa) ⟨[.ref a], []⟩) (fun r s' => r = .ok (.ret (.bool true)) ∧ OldK s₁.heap s'.heap ∧ s'.os = s₁.os ∧ AllBare s'.gens) s₁ := by
  have rv := vals_ints hi
  have lenV := hi.length
  have objT : ∀ {b : Addr}, TabAt P K b → s₁.heap.get? b = some (PySem.W.tabObj #[]) := fun {b} ⟨y, c, h1, h2⟩ => (hT y c b h1 h2).2
  have aT : ¬ TabAt P K a := fun z => by have q := objT z; rw [ha] at q; cases q
  have core : ∀ H : Hp, SqL K H a (ns.map V.int) → HOk P w H s₁.heap → (∀ b u, H b = some u → (b = a ∧ ∃ o xs, u = .frz o (.lst xs)) ∨ (u = .tab ∧ TabAt P K b)) → (∀ b, TabAt P K b → H b = some .tab) → (H a ≠ none → K.lookup a = none) →
      codeAny (model P w) callerA (.call (.ref fa) ⟨[.ref a], []⟩) (fun r s' => r = .ok (.ret (.bool true)) ∧ OldK s₁.heap s'.heap ∧ s'.os = s₁.os ∧ AllBare s'.gens) s₁ := by
    intro H hS hok hA hTt hK
    have base_of : ∀ {b : Addr} {o : Obj}, s₁.heap.get? b = some o → H b = none → (hidT s₁.heap H).get? b = some o := fun e n => hidT_get e n
    have free_of : ∀ {b : Addr} {o : Obj}, s₁.heap.get? b = some o → o ≠ { cls := .type "list", data := .seq vs.toArray } → o ≠ PySem.W.tabObj #[] → H b = none := fun {b o} e n1 n2 => by
      cases q : H b with
      | none => rfl
      | some u =>
        rcases hA b u q with ⟨rfl, _⟩ | ⟨_, z⟩
        · rw [ha] at e; exact absurd (Option.some.inj e).symm n1
        · have := objT z; rw [e] at this; exact absurd (Option.some.inj this) n2
    have noA : ∀ {b : Addr} {o : Obj} {es : Array DictEntry} {ep : Nat}, s₁.heap.get? b = some o → o.data = .dict es ep → H b = none := fun {b o es ep} e d => free_of e (fun z => by rw [z] at d; cases d) (fun z => by rw [z] at d; cases d)
    have nsK : ∀ {b : Addr} {m : Str → Option Value}, s₁.heap.Ns b m → (hidT s₁.heap H).Ns b m := fun {b m} ⟨o, es, ep, e, d, r⟩ => ⟨o, es, ep, base_of e (noA e d), d, r⟩
    have hKb : K.In (hidT s₁.heap H) := fun b o e => base_of (KX b o e) (by
      cases q : H b with
      | none => rfl
      | some u =>
        rcases hA b u q with ⟨rfl, _⟩ | ⟨_, y, c, h1, h2⟩
        · rw [hK (by rw [q]; simp)] at e; cases e
        · rw [hTK y c b h1 h2] at e; cases e)
    have hM : Mod K mg (hidT s₁.heap H) := ⟨hKb, nsK hns, ⟨mb, nsK hb, hbb⟩, let ⟨mc, h1, h2⟩ := hlim; ⟨mc, nsK h1, h2⟩⟩
    have hTb : TabsOk P K mg (hidT s₁.heap H) H := fun y c p h1 h2 => by
      have hp := (hT y c p h1 h2).2
      refine ⟨hTt p ⟨y, c, h1, h2⟩, ?_, ?_⟩
      · refine L2.o_EEEEEEEEEAA ((hT y c p h1 h2).1) fun o vs' file tf flags tg inF text tt e1 e2 r => ?_
        exact L2.i_EEEEEEEEEAA (o) (vs') (file) (tf) (flags) (tg) (inF) (text) (tt) (base_of e1 (free_of e1 (fun z => by rw [z] at e2; exact absurd e2 (by simp)) fun z => by rw [z] at e2; exact absurd e2 (by simp))) (e2) (r)
      · refine L2.o_EEAAAAA (hBm) fun bm ob b1 b2 b3 b4 b5 b6 => ?_
        refine L2.i_EEAAAAAAA (bm) (ob) (b1) (b2) (fun q => ?_) (fun q => ?_) (base_of b3 (free_of b3 (fun z => by rw [z] at b4; exact absurd b4 (by simp)) fun z => by rw [z] at b4; exact absurd b4 (by simp))) (b4) (b5) (b6)
        · refine L2.o_EEEAA (hns) fun o es ep e hd _ => ?_
          rw [q, e] at b3; cases b3; rw [hd] at b6; cases b6
        · rw [q, hp] at b3; cases b3; cases b4
    have e0 : Env0 P w K mg (hidT s₁.heap H) callerA [] s₁ H := ⟨rfl, hM, fun b o e => of_hidT e, Nat.le_of_eq (hidT_size _ _), trivial, fun b hb => absurd (show b ∈ ([] : List Addr) from hb) (by simp), hok, .of_eq hg, hTb⟩
    refine codeAny_mono ((F _ hKb (nsK hns)).run callerA [] s₁ H ⟨[.ref a], []⟩ [.ref a] [.ref a] _ _ hr e0 (hbind s₁ (.ref a)) (.cons rfl .nil) (hsp H hS)) fun r s' h => ?_
    cases r with
    | error e => exact (hCX H e s' h).elim
    | ok fl =>
      cases fl with
      | next => exact False.elim h
      | brk => exact False.elim h
      | cont => exact False.elim h
      | ret u =>
        refine L2.o_EEAAAAA (h) fun v H' os bare un hok' r' q => ?_
        have q' : v = .bl true := q
        subst q'
        obtain rfl : u = Value.bool true := r'
        have all : ∀ b o, s₁.heap.get? b = some o → asItWas s₁.heap s'.heap b o ∧ ∃ o', s'.heap.get? b = some o' := fun b o e => by
          cases q : H b with
          | none =>
            have z := un.keep b o e q (by intro z; exact absurd (show b ∈ ([] : List Addr) from z) (by simp)) (by simp)
            exact ⟨.inl z, o, z⟩
          | some u =>
            rcases hA b u q with ⟨_, ob, xs, rfl⟩ | ⟨rfl, y, c, h1, h2⟩
            · have z2 := un.frzs b ob _ q
              refine L2.o_A (hok b _ q) fun e1 _ => ?_
              refine L2.o_A (hok' b _ z2) fun e2 _ => ?_
              rw [e] at e1; cases e1
              exact ⟨.inl e2, o, e2⟩
            · refine L2.o_EA (hok' b _ (un.tabs b q)) fun ps e2 _ => ?_
              refine L2.o_A (hT y c b h1 h2) fun hc hp => ?_
              rw [hp] at e; cases e
              exact ⟨.inr (.inl ⟨(hc.tab hp).isCodeTable, rfl, #[], ps, rfl, by rw [e2]; simp⟩), _, e2⟩
        exact ⟨rfl, ⟨fun b o e => (all b o e).1, fun b o e => (all b o e).2⟩, os, bare⟩
  have okT : ∀ (H : Hp) (b : Addr), TabAt P K b → ObjOk P w H s₁.heap b .tab := fun H b z => ⟨#[], objT z, trivial, fun pos c q => by cases q⟩
  cases hk : K.lookup a with
  | some o =>
    have e := KX a o hk
    rw [ha] at e
    cases e
    refine core (fun b => if TabAt P K b then some .tab else none) (.inr ⟨_, vs.toArray, _, hk, rfl, rfl, rfl, by rw [List.size_toArray, lenV]; exact hl, by simpa using rv⟩) (fun b u z => ?_) (fun b u z => ?_) (fun b z => if_pos z) fun z => absurd (if_neg aT) z
    · by_cases hb : TabAt P K b
      · have z' := (if_pos hb).symm.trans z
        cases z'
        exact okT _ b hb
      · have z' := (if_neg hb).symm.trans z
        cases z'
    · by_cases hb : TabAt P K b
      · have z' := (if_pos hb).symm.trans z
        cases z'
        exact .inr ⟨rfl, hb⟩
      · have z' := (if_neg hb).symm.trans z
        cases z'
  | none =>
    refine core (fun b => if b = a then some (.frz { cls := .type "list", data := .seq vs.toArray } (.lst (ns.map V.int))) else if TabAt P K b then some .tab else none) (.inl (.inr ⟨{ cls := .type "list", data := .seq vs.toArray }, if_pos rfl⟩)) (fun b u z => ?_) (fun b u z => ?_) (fun b z => ?_) fun _ => hk
    · by_cases hb : b = a
      · have z' := (if_pos hb).symm.trans z
        cases z'
        subst hb
        exact L2.i_AAEEA (ha) (by rw [List.length_map]; exact hl) (vs) (_) (rv) (ha)
      · have z' := (if_neg hb).symm.trans z
        by_cases hb2 : TabAt P K b
        · have z2 := (if_pos hb2).symm.trans z'
          cases z2
          exact okT _ b hb2
        · have z2 := (if_neg hb2).symm.trans z'
          cases z2
    · by_cases hb : b = a
      · have z' := (if_pos hb).symm.trans z
        cases z'
        exact .inl ⟨hb, _, _, rfl⟩
      · have z' := (if_neg hb).symm.trans z
        by_cases hb2 : TabAt P K b
        · have z2 := (if_pos hb2).symm.trans z'
          cases z2
          exact .inr ⟨rfl, hb2⟩
        · have z2 := (if_neg hb2).symm.trans z'
          cases z2
    · have hb : b ≠ a := fun e => aT (e ▸ z)
      rw [if_neg hb, if_pos z]
theorem walk_ofT {l : PySem.W.OpenLaw} {n k : Nat} {q : Program} {loose : List Str} {XP : (Str → Option Value) → Heap → Prop} {YP : World → Heap → Prop} {d : DefRec} {K : Params → PySem.W.Frag} {CX : World → CXT} {sp : World → Sp} {x : Str}
    (hn : l.most = some n) (hn2 : n ≤ sizeLine) (hdf : d.params.defaults = []) (hr : Room k callerA)
    (hY : ∀ (w : World) (h : Heap), YP w h → (K w.params).In h)
    (hq : ∀ y ∈ lamNames l.prog, ((recsOf q).find? fun e => e.name == y).isSome = true) (hTK : ∀ (w : World) (y : Str) (c p : Addr), y ∈ lamNames l.prog → PySem.W.tabIn (K w.params) y = some (c, p) → (K w.params).lookup p = none)
    (F : ∀ (w : World) (mg : Str → Option Value) (fa : Addr) (h : Heap), (K w.params).In h → h.Ns mainGlobals mg → mg d.name = some (.ref fa) →
      ∃ fd : FuncData, (∀ (s : Shared) (u : Value), BindsTo s fd ⟨[u], []⟩ [(x, u)]) ∧
        ∀ base : Heap, (K w.params).In base → base.Ns mainGlobals mg → FnOk l.prog w (K w.params) mg base (CX w) k fa fd [x] (sp w))
    (hsp : ∀ (w : World) (H : Hp) (a : Addr) (ns : List Int), ns.length ≤ n → SqL (K w.params) H a (ns.map V.int) → sp w [.ref a] H (fun v _ => v = .bl true) fun _ _ _ => False)
    (hCX : ∀ (w : World) (H : Hp) (s : Shared) (e : Value) (s' : Shared), CX w [] H s (fun _ _ _ => False) e s' → False) :
    PySem.W.WalkO q loose XP YP l.row.toRowW d [] (fun f vs => PySem.call f vs) := by
  refine Att.attach_call hn hdf fun w s₀ s₁ mg mb fa o pm cd doc a vs ns G Y ho hd hcd hmg hobj hints hlen hg => ?_
  have KX := hY w _ Y
  refine L2.o_EA (F w mg fa _ KX G.T.g hmg) fun fd hb hF => ?_
  refine law_callT KX G.T.g G.T.b G.T.builtins G.T.nolimit hg hobj hints (Nat.le_trans hlen hn2) hr (fun y c p h1 h2 => ?_) (hTK w) G.T.bmain hF hb (fun H hS => hsp w H a ns hlen hS) fun H e s' => hCX w H s₁ e s'
  refine L2.o_E (Option.isSome_iff_exists.mp (hq y h1)) fun r hr' => ?_
  exact PySem.W.tab_of G.T KX hr' h2
end L2
namespace L2
open PySem PySem.Spec PyProof.Rows
noncomputable def isTab (ys : List Str) (K : PySem.W.Frag) (a : Addr) : Bool := ys.any fun y => match PySem.W.tabIn K y with
  | some z => z.2 == a
  | none => false
noncomputable def noTab (ys : List Str) (K : PySem.W.Frag) : PySem.W.Frag := K.filter fun x => !(isTab ys K x.1)
theorem filter_lookup (q : Addr → Bool) {b : Addr} {o : Obj} : ∀ (K : List (Addr × Obj)), (K.filter fun x => q x.1).lookup b = some o → K.lookup b = some o
  | [], h => h
  | (a, u) :: r, h => by
    rw [List.filter_cons] at h
    rw [List.lookup_cons]
    cases hq : q a with
    | true =>
      rw [show q (a, u).1 = true from hq, if_pos rfl, List.lookup_cons] at h
      cases hb : b == a with
      | true => rw [hb] at h; exact h
      | false => rw [hb] at h; exact filter_lookup q r h
    | false =>
      rw [show q (a, u).1 = false from hq, if_neg Bool.false_ne_true] at h
      have h' := filter_lookup q r h
      cases hb : b == a with
      | false => exact h'
      | true =>
        have e : b = a := by simpa using hb
        subst e
        have no : ∀ (r : List (Addr × Obj)), (r.filter fun x => q x.1).lookup b = none := fun r => by
          induction r with
          | nil => rfl
          | cons y r ih =>
            rw [List.filter_cons]
            cases hy : q y.1 with
            | false => rw [if_neg Bool.false_ne_true]; exact ih
            | true =>
              obtain ⟨y1, y2⟩ := y
              rw [if_pos rfl, List.lookup_cons]
              have : (b == y1) = false := beq_false_of_ne fun z => by rw [z] at hq; rw [hq] at hy; cases hy
              rw [this]
              exact ih
        rw [no r] at h
        cases h
theorem walkX_of2 {q : Program} {loose : List Str} {XP : (Str → Option Value) → Heap → Prop} {K : Params → PySem.W.Frag} {as : List Addr} {n t : Nat} {r : PySem.W.RowW} {d : DefRec} {kwd : List (Str × Expr)} {run : Value → List Value → Sem Value} (ys : List Str)
    (e : ∀ P, as = (K P).map (fun x => x.fst)) (h : PySem.W.WalkO q loose XP (fun w h => (noTab ys (K w.params)).In h) r d kwd run) : PySem.W.WalkX q loose XP (PySem.W.X.obsZ as) (PySem.W.X.valZ K n t) r d kwd run := by
  intro w s₀ s₁ mg mb G Y a o pm cd doc dV kV ho hd hcd hD hmg hg args vals as' L hpre hlay hrd hwl hlo
  have Y1 : (PySem.W.kHook K as e).obs s₀ = (PySem.W.kHook K as e).val w := congrArg (fun z => z.1) Y
  have Y2 : (K w.params).In s₀.heap := PySem.W.kIn_of ((PySem.W.kHook K as e).of w s₀ Y1)
  exact h w s₀ s₁ mg mb G (fun b o q => L.keeps b o (Y2 b o (filter_lookup (fun a => !(isTab ys (K w.params) a)) _ q))) a o pm cd doc dV kV ho hd hcd hD hmg hg args vals as' hpre hlay hrd hwl hlo
theorem keep_lookup (q : Addr → Bool) {b : Addr} (hb : q b = true) : ∀ (K : List (Addr × Obj)), (K.filter fun x => q x.1).lookup b = K.lookup b
  | [] => rfl
  | (a, u) :: r => by
    rw [List.filter_cons, List.lookup_cons]
    cases hq : q a with
    | true =>
      rw [if_pos rfl, List.lookup_cons, keep_lookup q hb r]
    | false =>
      rw [if_neg Bool.false_ne_true, keep_lookup q hb r]
      have : (b == a) = false := beq_false_of_ne fun z => by rw [z, hq] at hb; cases hb
      rw [this]
theorem lookup_noTab {ys : List Str} {K : PySem.W.Frag} {a : Addr} (h : isTab ys K a = false) : (noTab ys K).lookup a = K.lookup a := keep_lookup (fun a => !(isTab ys K a)) (by rw [h]; rfl) K
theorem nsIn_noTab {ys : List Str} {K : PySem.W.Frag} {a : Addr} {x : Str} (h : isTab ys K a = false) : PySem.W.nsIn (noTab ys K) a x = PySem.W.nsIn K a x := by
  unfold PySem.W.nsIn
  rw [lookup_noTab h]
end L2
namespace L2
open PySem PySem.Spec PyProof.Rows
theorem forIn_pureStep {α β : Type} {f : α → β → Sem (ForInStep β)} {g : β → α → β} : ∀ (l : List α) (b : β), (∀ x ∈ l, ∀ b, f x b = pure (ForInStep.yield (g b x))) → forIn l b f = (pure (l.foldl g b) : Sem β)
  | [], b, _ => rfl
  | x :: r, b, h => by
    rw [List.forIn_cons, h x List.mem_cons_self b]
    simp only [pure_bind, List.foldl_cons]
    exact forIn_pureStep r (g b x) fun y hy => h y (List.mem_cons_of_mem _ hy)
noncomputable def cloStep (env : Env) (b : List (Str × Addr)) (x : Str × NameKind) : List (Str × Addr) := if x.2 == .free then (x.1, (env.cells.lookup x.1).getD 0) :: b else b
noncomputable def cloOf (scope : Scope) (env : Env) : List (Str × Addr) := scope.names.foldl (cloStep env) []
theorem closure_is {scope : Scope} {env : Env} (h : ∀ x ∈ scope.names, x.2 = .free → ∃ c, env.cells.lookup x.1 = some c) : closureFor scope env = pure (cloOf scope env) := by
  simp only [closureFor]
  rw [forIn_pureStep (g := cloStep env) scope.names [] ?_]
  · rfl
  · rintro ⟨n, k⟩ hx b
    unfold cloStep
    by_cases hk : (k == NameKind.free) = true
    · refine L2.o_E (h (n, k) hx (by simpa using hk)) fun c hc => ?_
      simp only [hk, if_true, cellOf, hc, Option.getD_some, pure_bind]
    · simp only [hk, Bool.false_eq_true, if_false]
theorem clo_mem {env : Env} : ∀ (l : List (Str × NameKind)) (b : List (Str × Addr)) (p : Str × Addr), p ∈ l.foldl (cloStep env) b → p ∈ b ∨ ∃ x ∈ l, x.2 = .free ∧ p = (x.1, (env.cells.lookup x.1).getD 0)
  | [], b, p, h => .inl h
  | x :: r, b, p, h => by
    rcases clo_mem r (cloStep env b x) p h with q | ⟨y, hy, e⟩
    · unfold cloStep at q
      by_cases hk : (x.2 == NameKind.free) = true
      · rw [if_pos hk] at q
        rcases List.mem_cons.mp q with q | q
        · exact .inr ⟨x, List.mem_cons_self, by simpa using hk, q⟩
        · exact .inl q
      · rw [if_neg hk] at q
        exact .inl q
    · exact .inr ⟨y, List.mem_cons_of_mem _ hy, e⟩
theorem clo_old {env : Env} : ∀ (l : List (Str × NameKind)) (b : List (Str × Addr)) (p : Str × Addr), p ∈ b → p ∈ l.foldl (cloStep env) b
  | [], b, p, h => h
  | x :: r, b, p, h => clo_old r _ p (by unfold cloStep; split; exact List.mem_cons_of_mem _ h; exact h)
theorem clo_new {env : Env} : ∀ (l : List (Str × NameKind)) (b : List (Str × Addr)) (x : Str × NameKind), x ∈ l → x.2 = .free → (x.1, (env.cells.lookup x.1).getD 0) ∈ l.foldl (cloStep env) b
  | y :: r, b, x, h, e => by
    rcases List.mem_cons.mp h with rfl | h
    · refine clo_old r _ _ ?_
      unfold cloStep
      rw [if_pos (by rw [e]; rfl)]
      exact List.mem_cons_self
    · exact clo_new r _ x h e
theorem lookup_mem {l : List (Str × Addr)} {n : Str} {c : Addr} (h : (n, c) ∈ l) : ∃ d, l.lookup n = some d := by
  induction l with
  | nil => cases h
  | cons p r ih =>
    obtain ⟨m, d⟩ := p
    by_cases e : n = m
    · subst e
      exact ⟨d, by simp [List.lookup_cons]⟩
    · rcases List.mem_cons.mp h with q | q
      · cases q
        exact absurd rfl e
      · refine L2.o_E (ih q) fun d' q' => ?_
        exact ⟨d', by rw [List.lookup_cons, show (n == m) = false by simpa using e]; exact q'⟩
theorem clo_in {scope : Scope} {env : Env} (h : ∀ x ∈ scope.names, x.2 = .free → ∃ c, env.cells.lookup x.1 = some c) {n : Str} {c : Addr} (e : (cloOf scope env).lookup n = some c) : env.cells.lookup n = some c := by
  rcases clo_mem scope.names [] (n, c) (PySem.mem_of_lookup e) with q | ⟨x, hx, hf, q⟩
  · cases q
  · refine L2.o_E (h x hx hf) fun d hd => ?_
    cases q
    rw [hd]
    rfl
theorem clo_has {scope : Scope} {env : Env} {n : Str} (h : (n, NameKind.free) ∈ scope.names) : ∃ c, (cloOf scope env).lookup n = some c :=
  lookup_mem (clo_new scope.names [] (n, .free) h rfl)
structure CompSc (sc : Scope) (XN : List Str) (scope : Scope) (k : Nat) (N : List Str) (ix : List Nat) : Prop where
  kind : scope.kind = .function
  okind : sc.kind = .function
  nocell : ∀ y ∈ scope.names, y.2 ≠ .cell
  loc : ∀ y ∈ scope.names, y.2 = .local → scope.names.lookup y.1 = some .local
  fr : ∀ y ∈ scope.names, y.2 = .free → sc.names.lookup y.1 = some .cell
  sl : ix.map (fun i => XN[i]?) = (N.drop k).map some
  frl : ∀ x ∈ N.drop k, scope.names.lookup x = some .free
  len : N.length = k + ix.length
noncomputable def cxComp (X : Cx) (N : List Str) (scope : Scope) (cl : List (Str × Addr)) (C : Addr) (s3 : Shared) (H3 : Hp) (fp : List Addr) (pins : List (Addr × Obj)) : Cx :=
  { X with N := N, s₀ := s3, H₀ := H3, env := compEnvC scope cl C X.env, outer := X.stack, stack := X.stack, ex := fp, fn := fun _ => false, pn := X.pn ++ pins }
theorem relabel_free {scope : Scope} {env : Env} {x : Str} (hk : env.scope.kind = .function) (he : env.kindOf x = some .cell) (h : scope.names.lookup x = some .free) : (relabel scope env).names.lookup x = some .cell := by
  have go : ∀ names : List (Str × NameKind), names.lookup x = some .free →
      (names.map fun (n, k) => if (k == NameKind.free && env.scope.kind == .function && env.kindOf n == some .cell) then (n, NameKind.cell) else (n, k)).lookup x = some .cell := by
    intro names
    induction names with
    | nil => intro h; cases h
    | cons p r ih =>
      obtain ⟨n, k⟩ := p
      intro h
      rw [List.map_cons]
      by_cases e : x = n
      · subst e
        have hkf : k = .free := by simpa [List.lookup_cons] using h
        subst hkf
        simp [List.lookup_cons, hk, he]
      · have e' : (x == n) = false := by simpa using e
        rw [List.lookup_cons, e'] at h
        have q := ih h
        dsimp only
        split
        · rw [List.lookup_cons, e']
          exact q
        · rw [List.lookup_cons, e']
          exact q
  exact go _ h
theorem relabel_mem {scope : Scope} {env : Env} {x : Str} {k : NameKind} (hc : ∀ y ∈ scope.names, y.2 ≠ .cell) (h : (relabel scope env).names.lookup x = some k) (hk : k = .cell ∨ k = .free) : (x, NameKind.free) ∈ scope.names := by
  obtain ⟨⟨n, k'⟩, hm, e⟩ := List.mem_map.mp (PySem.mem_of_lookup h)
  dsimp only at e
  split at e
  · rename_i hq
    cases e
    have : k' = .free := by
      have := (Bool.and_eq_true_iff.mp (Bool.and_eq_true_iff.mp hq).1).1
      simpa using this
    subst this
    exact hm
  · cases e
    rcases hk with rfl | rfl
    · exact absurd rfl (hc _ hm)
    · exact hm
section
variable {X : Cx} {pins : List (Addr × Obj)} {σ : St} {H : Hp} {s : Shared} {scope : Scope} {k : Nat} {N : List Str} {ix : List Nat} {sc : Scope} {fp : List Addr}
theorem comp_cells (I : Inv X pins σ H s) (hsc : X.env.scope = sc) (S : CompSc sc X.N scope k N ix) : ∀ x ∈ scope.names, x.2 = .free → ∃ c, X.env.cells.lookup x.1 = some c := fun x hx hf =>
  I.ok.has x.1 (.inl (by show X.env.scope.names.lookup x.1 = _; rw [hsc]; exact S.fr x hx hf))
theorem fp_stk (I : Inv X pins σ H s) {b : Addr} (h1 : b ≠ X.env.locals) (h2 : b ∉ X.fs) : b ∉ frs X.stack := fun hb => by
  rcases List.mem_cons.mp (I.stkSub b hb) with e | e
  · exact h1 e
  · exact h2 e
theorem comp_ok (I : Inv X pins σ H s) (hsc : X.env.scope = sc) (S : CompSc sc X.N scope k N ix) (hf : ∀ b ∈ fp, FpOk X pins H b) (hlt : ∀ b ∈ fp, b < s.heap.objs.size) :
    (cxComp X N scope (cloOf scope X.env) s.heap.objs.size s H fp pins).Ok := by
  have hcl := comp_cells I hsc S
  refine ⟨I.ok.mod, S.kind, I.ok.glob, I.ok.blt, Nat.le_refl _, fun x y c h1 h2 => I.ok.inj x y c (clo_in hcl h1) (clo_in hcl h2), fun x hx => ?_, fun x c h => (by cases (show false = true from h)), I.ok.hd, I.ok.frames, .inl rfl, fun b hb => ⟨Nat.ne_of_lt (hlt b hb), fun x c e => ?_⟩,
    I.bs, Nat.le_trans I.ok.bsz I.sz, fun b o e hb => ?_, fun b hb => fp_stk I (hf b hb).2.1 (hf b hb).2.2.1, I.stack, I.stkFree, fun x c p h1 h2 => let z := I.ok.tabs x c p h1 h2; ⟨I.base.tabs p z.1, z.2⟩⟩
  · have hx' : (x, NameKind.free) ∈ scope.names := by
      rcases hx with hx | hx
      · exact relabel_mem S.nocell hx (.inl rfl)
      · exact relabel_mem S.nocell hx (.inr rfl)
    exact clo_has hx'
  · exact (hf b hb).2.2.2.2.1 x c (clo_in hcl e)
  · rcases (hf b hb).2.2.2.1 with z | z
    · exact I.ok.noex b o e z
    · exact absurd (Nat.lt_of_lt_of_le (Heap.lt_size (I.ok.bs b o e).1) z) (Nat.lt_irrefl _)
noncomputable def stComp (k : Nat) (ix : List Nat) (σ : St) : St := List.replicate k none ++ ix.map fun i => (σ[i]?).getD none
theorem comp_start (I : Inv X pins σ H s) (hsc : X.env.scope = sc) (S : CompSc sc X.N scope k N ix) (hf : ∀ b ∈ fp, FpOk X pins H b) (hlt : ∀ b ∈ fp, b < s.heap.objs.size) {h' : Heap} {t : Nat} {m : Str → Option Value}
    (hns : h'.Ns s.heap.objs.size m) (hk : ∀ b o, s.heap.get? b = some o → h'.get? b = some o) :
    Inv (cxComp X N scope (cloOf scope X.env) s.heap.objs.size s H fp pins) [] (stComp k ix σ) H { s with heap := h', toks := t } := by
  have hcl := comp_cells I hsc S
  have hkind : X.env.scope.kind = .function := by rw [hsc]; exact S.okind
  have cellK : ∀ c v, s.heap.IsCell c v → h'.IsCell c v := fun c v ⟨o, e, d⟩ => ⟨o, hk c o e, d⟩
  refine ⟨comp_ok I hsc S hf hlt, rfl, I.bare, Un.kept hk, ⟨m, hns, fun i x v e1 e2 e3 => ?_⟩, fun x c e => ?_, I.hok.fresh (Nat.le_refl _), fun x c e => (I.freeC x c (clo_in hcl e)).imp id fun z => ⟨rfl, z.2⟩, fun p hp => ?_, I.hok.kept hk, ?_⟩
  · unfold stComp at e2
    by_cases hi : i < k
    · rw [List.getElem?_append_left (by simpa using hi), List.getElem?_replicate, if_pos hi] at e2
      cases e2
    · have hj : k ≤ i := Nat.le_of_not_lt hi
      rw [List.getElem?_append_right (by simpa using hj), List.getElem?_map] at e2
      simp only [List.length_replicate] at e2
      cases hix : ix[i - k]? with
      | none => rw [hix] at e2; cases e2
      | some j =>
        rw [hix] at e2
        have e2' : (σ[j]?).getD none = some v := Option.some.inj e2
        have hσ : σ[j]? = some (some v) := by
          cases q : σ[j]? with
          | none => rw [q] at e2'; cases e2'
          | some w => rw [q] at e2'; exact congrArg some e2'
        have hd : (N.drop k)[i - k]? = some x := by
          rw [List.getElem?_drop]
          have : k + (i - k) = i := by omega
          rw [this]
          exact e1
        have hXN : X.N[j]? = some x := by
          have q := congrArg (fun l => l[i - k]?) S.sl
          simp only [List.getElem?_map, hix, hd, Option.map_some] at q
          exact Option.some.inj q
        have hfree := S.frl x (List.mem_of_getElem? hd)
        have hmem := PySem.mem_of_lookup hfree
        have hout : X.env.kindOf x = some .cell := by
          show X.env.scope.names.lookup x = _
          rw [hsc]
          exact S.fr _ hmem rfl
        refine L2.o_EA (I.loc) fun m0 hn0 hl0 => ?_
        refine L2.o_EA (hl0 j x v hXN hσ (.inr (.inl hout))) fun u r l => ?_
        refine ⟨u, r, .inr ⟨.inl (relabel_free hkind hout hfree), ?_⟩⟩
        rcases l with ⟨q, _⟩ | ⟨_, c, hc, z⟩
        · rw [hout] at q; cases q
        · refine L2.o_E (clo_has (env := X.env) hmem) fun c' hc' => ?_
          have e' := clo_in hcl hc'
          rw [hc] at e'
          cases e'
          exact ⟨c, hc', cellK c _ z⟩
  · refine L2.o_E (I.cell x c (clo_in hcl e)) fun v z => ?_
    exact ⟨v, cellK c v z⟩
  · have hp' : p ∈ X.pn ++ pins := by simpa [cxComp] using hp
    refine L2.o_AAAA (I.pin p hp') fun e n ne nf d => ?_
    exact ⟨hk _ _ e, n, Nat.ne_of_lt (Heap.lt_size e), fp_stk I ne nf, d⟩
  · unfold stComp
    show _ = N.length
    rw [S.len, List.length_append, List.length_replicate, List.length_map]
theorem Un.other {fs ex : List Addr} {H H' : Hp} {h h1 h2 : Heap} (u : Un fs ex H H' h h1) (e : ∀ b, b < h.objs.size → h2.get? b = h1.get? b) : Un fs ex H H' h h2 where
  keep := fun b o q n hb hx => (e b (Heap.lt_size q)).trans (u.keep b o q n hb hx)
  slot := fun b o q n hb hx => by obtain ⟨sl, z⟩ := u.slot b o q n hb hx; exact ⟨sl, (e b (Heap.lt_size q)).trans z⟩
  free := u.free
  there := fun b o q hx => by obtain ⟨o', z⟩ := u.there b o q hx; exact ⟨o', (e b (Heap.lt_size q)).trans z⟩
  tups := u.tups
  frzs := u.frzs
  tbls := u.tbls
  tabs := u.tabs
theorem comp_after {σ' : St} {H' : Hp} {s' : Shared} {h' : Heap} {scope : Scope} {cl : List (Str × Addr)} (I : Inv X pins σ H s) (hf : ∀ b ∈ fp, FpOk X pins H b)
    (J : Inv (cxComp X N scope cl s.heap.objs.size s H fp pins) [] σ' H' s') (hs : Heap.SameBut s.heap.objs.size s'.heap h') : Inv X pins σ H' { s' with heap := h' } := by
  have un : Un (frs X.stack) fp H H' s.heap s'.heap := J.base
  have fr : H' s.heap.objs.size = none := J.free
  refine I.call' (s' := { s' with heap := h' }) (ch := fp) J.os (un.other fun b hb => hs.2 b (Nat.ne_of_lt hb)) (fun b o e => ?_) J.bare fun b hb => ⟨(hf b hb).2.2.2.1, (hf b hb).2.1, (hf b hb).2.2.2.2.1, (hf b hb).2.2.2.2.2⟩
  refine (J.hok b o e).stay (fun c u hc q => (hs.2 c ?_).trans q) (fun _ q => q) fun _ _ q => q
  rcases hc with hc | hc
  · rw [hc]; exact ne_of_none e fr
  · exact ne_of_none hc fr
end
noncomputable def tTrue : TT := fun _ H Q => Q true H
noncomputable def PIf (X : Cx) (ifs : List Expr) (t : TT) : Prop :=
  ∀ (pins : List (Addr × Obj)) (s : Shared) (σ : St) (H : Hp) (Q : Bool → Hp → Prop), Inv X pins σ H s → t σ H Q →
    wpAny (model X.prog X.w) X.A (forIn ifs true fun c r => if r = true then do let ok ← isTrue c X.env (eval c X.env); pure (ForInStep.yield ok) else pure (ForInStep.yield r)) (TP X pins σ Q) X.xe s
theorem pif_nil {X : Cx} : PIf X [] tTrue := fun pins s σ H Q I h => wpAny_tests_nil ⟨H, I, h⟩
theorem comp_loop {prog : Program} {w : World} {A : Around} {R : Result → Shared → Prop} {s : Shared} {elt target iter : Expr} {ifs : List Expr} {scope : Scope} {pos : Pos} {it acc : Value} {env : Env} (J : Nat → Shared → Prop)
    (turn : ∀ n s, J n s → wpAny (model prog w) A (pyNext it) (fun r s1 => match r with
      | none => R (.ok .next) s1
      | some v => wpAny (model prog w) A (letOwnedTupleGo target it v) (fun _ s1' => wpAny (model prog w) A (assign target env v) (fun _ s2 =>
          wpAny (model prog w) A (forIn ifs true fun c r => if r = true then do let ok ← isTrue c env (eval c env); pure (ForInStep.yield ok) else pure (ForInStep.yield r)) (fun ok s3 =>
            if ok = true then wpAny (model prog w) A (eval elt env) (fun x s4 =>
              wpAny (model prog w) A (call (.builtin "list.append") [acc, x]) (fun _ s5 => ∃ m, m < n ∧ J m s5) (fun _ _ => False) s4) (fun _ _ => False) s3
            else ∃ m, m < n ∧ J m s3) (fun _ _ => False) s2) (fun _ _ => False) s1') (fun _ _ => False) s1) (fun _ _ => False) s)
    (n : Nat) (h : J n s) : codeAny (model prog w) A (.compLoop (.ListComp elt [⟨target, iter, ifs, 0⟩] scope pos) 0 it acc env) R s := by
  refine codeAny_loop rfl J (fun n s hJ => ?_) n h
  show wpAny _ A ((compTurn (.ListComp elt [⟨target, iter, ifs, 0⟩] scope pos) 0 it acc env).onRaise _) _ _ s
  refine wpAny_noted ?_
  rw [compTurn_list]
  refine wpAny_bind (wpAny_standAt (wpAny_bind (wpAny_mono (turn n s hJ) (fun r s1 h1 => ?_) fun _ _ z => False.elim z)))
  cases r with
  | none => exact wpAny_pure h1
  | some v =>
    refine wpAny_bind (wpAny_mono h1 (fun _ s1' h1' => wpAny_bind (wpAny_mono h1' (fun _ s2 h2 => wpAny_bind (wpAny_mono h2 (fun ok s3 h3 => ?_) fun _ _ z => False.elim z)) fun _ _ z => False.elim z)) fun _ _ z => False.elim z)
    cases ok with
    | false => exact wpAny_pure ⟨rfl, h3⟩
    | true =>
      refine wpAny_bind (wpAny_bind (wpAny_mono h3 (fun x s4 h4 => wpAny_bind (wpAny_mono h4 (fun _ s5 h5 => ?_) fun _ _ z => False.elim z)) fun _ _ z => False.elim z))
      exact wpAny_pure (wpAny_pure ⟨rfl, h5⟩)
noncomputable def tComp (wi : TI) (g : TG) (tc : TT) (te : TE) (st : St → St) : TE := fun σ H Q => wi σ H fun J H1 => ∀ D, H1 D = none → ∃ W : Nat → Nat → St → Hp → Prop, (∃ m, W 0 m (st σ) (upd H1 D (.lst []))) ∧ ∀ i m τ H2, W i m τ H2 →
  (J.stop i H2 ∧ Q (.ref D) H2) ∨ (J.go i H2 ∧ ∃ N : St → Hp → Prop, (∀ τ' H', N τ' H' → ∃ m', m' < m ∧ W (i + 1) m' τ' H') ∧ ∀ x H3, J.yld i H2 x H3 → g x τ H3 fun τ2 H4 => tc τ2 H4 fun b H5 =>
    if b = true then te τ2 H5 fun y H6 => ∃ ys, H6 D = some (.lst ys) ∧ ys.length < sizeLine ∧ N τ2 (upd H6 D (.lst (ys ++ [y]))) else N τ2 H5)
theorem comp_gen {X : Cx} {elt tg iter : Expr} {ifs : List Expr} {scope : Scope} {pos cpos : Pos} {wi : TI} {g : TG} {tc : TT} {te : TE} {k : Nat} {N : List Str} {ix : List Nat} (sc : Scope) (hsc : X.env.scope = sc) (S : CompSc sc X.N scope k N ix)
    (hx : X.xe = fun _ _ => False) (hc : X.calm = true) (hi : PI X tg iter wi)
    (hg : ∀ cl C s3 H3 fp pins, PG (cxComp X N scope cl C s3 H3 fp pins) tg g) (ht : ∀ cl C s3 H3 fp pins, PIf (cxComp X N scope cl C s3 H3 fp pins) ifs tc) (he : ∀ cl C s3 H3 fp pins, PE (cxComp X N scope cl C s3 H3 fp pins) elt te)
    {use : Option (Value → Sem Unit)} {QQ : Value → Shared → Prop} (pins : List (Addr × Obj)) (s : Shared) (σ : St) (H : Hp) (Q : VK) (I : Inv X pins σ H s) (h : tComp wi g tc te (stComp k ix) σ H Q)
    (hend : ∀ (D C : Addr) (H5 : Hp) (s6 : Shared), (∀ h', Heap.SameBut C s6.heap h' → Inv X pins σ H5 { s6 with heap := h' }) → (∃ m6, s6.heap.Ns C m6) → FpOk X pins H5 C → Q (.ref D) H5 → compPost (model X.prog X.w) X.A X.xe use QQ (.ref D) C (.ok .next) s6)
    (hs : ∀ x, foldedSetIterable iter X.env x = pure x := by intro _; rfl) : wpAny (model X.prog X.w) X.A (comprehension (.ListComp elt [⟨tg, iter, ifs, 0⟩] scope pos) scope X.env cpos (newList []) false (eval iter X.env) use) QQ X.xe s := by
  refine wpAny_comprehension_free (use := use) rfl hs (closure_is (comp_cells I hsc S)) S.kind S.loc (thn (hi pins s σ H _ I h) fun v s1 h1 => thn h1 fun itv s2 h2 => ?_)
  refine L2.o_EEEEEAAAAA (h2) fun it fp tn J H2 e I2 T st2 f2 q2 => ?_
  subst e
  refine wpAny_newObj_type ?_ (by show 0 ≤ sizeLine; exact Nat.zero_le _)
  have hDn : H2 s2.heap.objs.size = none := I2.hok.fresh (Nat.le_refl _)
  obtain ⟨W, ⟨m0, w0⟩, turn⟩ := q2 s2.heap.objs.size hDn
  have kp3 : ∀ b o, s2.heap.get? b = some o → (s2.heap.push { cls := .type "list", data := .seq ([] : List Value).toArray }).get? b = some o := fun b o q => Heap.get?_push_of_some _ q
  have I3 : Inv X pins σ (upd H2 s2.heap.objs.size (.lst [])) { s2 with heap := s2.heap.push { cls := .type "list", data := .seq ([] : List Value).toArray } } :=
    I2.laid (t' := s2.toks) kp3 (Nat.le_refl _) ⟨Nat.zero_le _, [], 0, .nil, Heap.get?_push_size _ rfl⟩
  have hlt2 : ∀ b ∈ fp, b < s2.heap.objs.size := fun b hb => by obtain ⟨o, q, _⟩ := T.obj _ _ st2 b hb; exact Heap.lt_size q
  have f3 : ∀ b ∈ fp, FpOk X pins (upd H2 s2.heap.objs.size (.lst [])) b := fun b hb => ⟨by rw [upd_ne (Nat.ne_of_lt (hlt2 b hb))]; exact (f2 b hb).1, (f2 b hb).2⟩
  generalize hs3 : ({ s2 with heap := s2.heap.push { cls := .type "list", data := .seq ([] : List Value).toArray } } : Shared) = s3 at I3
  have st3 : tn 0 s3.heap := by rw [← hs3]; exact T.keep _ _ _ st2 fun b hb o q => kp3 b o q
  have hlt3 : ∀ b ∈ fp, b < s3.heap.objs.size := fun b hb => by obtain ⟨o, q, _⟩ := T.obj _ _ st3 b hb; exact Heap.lt_size q
  generalize s2.heap.objs.size = D at w0 turn I3 f3 hDn
  generalize upd H2 D (.lst []) = H3 at w0 I3 f3
  refine wpAny_newFunctionEnv S.nocell (by intro y hy; cases hy) (fun h4 hns hsb => ?_) S.kind
  have kp4 : ∀ b o, s3.heap.get? b = some o → h4.get? b = some o := fun b o q => hsb.extBut b o (Nat.ne_of_lt (Heap.lt_size q)) (Heap.get?_push_of_some _ q)
  have I4 := comp_start (t := s3.toks + ([] : List (Str × Value)).length) I3 hsc S f3 hlt3 hns kp4
  have st4 : tn 0 h4 := T.keep _ _ _ st3 fun b hb o q => kp4 b o q
  have loop : ∀ s4 : Shared, s4 = { s3 with heap := h4, toks := s3.toks + ([] : List (Str × Value)).length } →
      codeAny (model X.prog X.w) X.A (.compLoop (.ListComp elt [⟨tg, iter, ifs, 0⟩] scope pos) 0 (.ref it) (.ref D) (compEnvC scope (cloOf scope X.env) s3.heap.objs.size X.env))
        (compPost (model X.prog X.w) X.A X.xe use QQ (.ref D) s3.heap.objs.size) s4 := by
    rintro s4 rfl
    have fok : ∀ {H' : Hp}, (∀ b ∈ fp, H' b = none) → ∀ b ∈ fp, FpOk (cxComp X N scope (cloOf scope X.env) s3.heap.objs.size s3 H3 fp pins) [] H' b := fun {H'} hn b hb =>
      ⟨hn b hb, Nat.ne_of_lt (hlt3 b hb), fp_stk I3 (f3 b hb).2.1 (f3 b hb).2.2.1, .inl hb, fun x c e => (f3 b hb).2.2.2.2.1 x c (clo_in (comp_cells I3 hsc S) e), fun p hp => (f3 b hb).2.2.2.2.2 p (by simpa [cxComp] using hp)⟩
    have hxe : (cxComp X N scope (cloOf scope X.env) s3.heap.objs.size s3 H3 fp pins).xe = fun _ _ => False := hx
    refine comp_loop (fun n s' => ∃ i τ H', Inv (cxComp X N scope (cloOf scope X.env) s3.heap.objs.size s3 H3 fp pins) [] τ H' s' ∧ tn i s'.heap ∧ (∀ b ∈ fp, H' b = none) ∧ W i n τ H') ?_ m0
      ⟨0, _, _, I4, st4, fun b hb => (f3 b hb).1, w0⟩
    rintro n s5 ⟨i, τ, H5, I5, st5, fr5, w5⟩
    rcases turn i n τ H5 w5 with ⟨stop, qn⟩ | ⟨go, NX, hN, step⟩
    · refine thn (T.done (cxComp X N scope (cloOf scope X.env) s3.heap.objs.size s3 H3 fp pins) rfl rfl rfl hc i [] s5 τ H5 _ I5 (fok fr5) st5 stop) fun r s6 zpat => ?_
      refine L2.o_A (zpat) fun hr I6 => ?_
      subst hr
      refine L2.o_EA (I6.loc) fun m6 hn6 _ => ?_
      exact hend D _ H5 s6 (fun h' hs' => comp_after I3 f3 I6 hs') ⟨m6, hn6⟩ (I3.fpOk (Nat.le_refl _) I6.free) qn
    · refine thn (T.item (cxComp X N scope (cloOf scope X.env) s3.heap.objs.size s3 H3 fp pins) rfl rfl rfl hc i [] s5 τ H5 _ I5 (fok fr5) st5 go) fun r s6 zpat => ?_
      refine L2.o_EA (zpat) fun u hr h6 => ?_
      subst hr
      refine thn h6 fun _ s7 zpat => ?_
      refine L2.o_EEAAAA (zpat) fun x H7 I7 r7 y7 st7 fr7 => ?_
      have I7' := I7.pinned (fok fr7) (T.obj _ _ st7)
      have again : ∀ {τ9 : St} {H9 : Hp} {s9 : Shared}, Inv (cxComp X N scope (cloOf scope X.env) s3.heap.objs.size s3 H3 fp pins) ([] ++ pinsAt fp s7.heap) τ9 H9 s9 → NX τ9 H9 →
          ∃ m, m < n ∧ ∃ i τ H', Inv (cxComp X N scope (cloOf scope X.env) s3.heap.objs.size s3 H3 fp pins) [] τ H' s9 ∧ tn i s9.heap ∧ (∀ b ∈ fp, H' b = none) ∧ W i m τ H' := fun {τ9 H9 s9} I9 n9 => by
        refine L2.o_EA (hN τ9 H9 n9) fun m' hm w9 => ?_
        refine L2.i_EAEEEAAA (m') (hm) (i + 1) (τ9) (H9) (I9.unpinned) (T.keep _ _ _ st7 fun b hb o q => (I9.pin (b, o) (List.mem_append_right _ (List.mem_append_right _ (mem_pinsAt hb q)))).1) (fun b hb => ?_) (w9)
        refine L2.o_EA (T.obj _ _ st7 b hb) fun o q _ => ?_
        exact (I9.pin (b, o) (List.mem_append_right _ (List.mem_append_right _ (mem_pinsAt hb q)))).2.1
      have G := hg (cloOf scope X.env) s3.heap.objs.size s3 H3 fp pins _ s7 τ H7 x u _ I7' r7 (step x H7 y7)
      rw [hxe] at G
      refine thn G fun _ s8 zpat => ?_
      refine L2.o_EEA (zpat) fun τ8 H8 I8 q8 => ?_
      have Tt := ht (cloOf scope X.env) s3.heap.objs.size s3 H3 fp pins _ s8 τ8 H8 _ I8 q8
      rw [hxe] at Tt
      refine thn Tt fun b s9 zpat => ?_
      obtain ⟨H9, I9, q9⟩ := zpat
      cases b with
      | false =>
        rw [if_neg Bool.false_ne_true] at q9 ⊢
        exact again I9 q9
      | true =>
        rw [if_pos rfl] at q9 ⊢
        have Te := he (cloOf scope X.env) s3.heap.objs.size s3 H3 fp pins _ s9 τ8 H9 _ I9 q9
        rw [hxe] at Te
        refine thn Te fun xv s10 zpat => ?_
        obtain ⟨y, H10, I10, r10, ys, hy, hz, n10⟩ := zpat
        have Ap := mt_append (X := cxComp X N scope (cloOf scope X.env) s3.heap.objs.size s3 H3 fp pins) _ s10 τ8 H10 (.ref D) [y] (.ref D) [xv] (fun _ H' => NX τ8 H') I10 rfl (.cons r10 .nil) ⟨D, ys, y, rfl, rfl, hy, hz, n10⟩
        rw [hxe] at Ap
        exact thn Ap fun _ s11 ⟨_, H11, I11, _, n11⟩ => again I11 n11
  subst hs3
  exact codeAny_compStart_list (loop _ rfl) (T.self _ 0 _ _ _ st4 (loop _ rfl))
theorem pe_comp {X : Cx} {elt tg iter : Expr} {ifs : List Expr} {scope : Scope} {pos : Pos} {wi : TI} {g : TG} {tc : TT} {te : TE} {k : Nat} {N : List Str} {ix : List Nat} (sc : Scope) (hsc : X.env.scope = sc) (S : CompSc sc X.N scope k N ix)
    (hx : X.xe = fun _ _ => False) (hc : X.calm = true) (hi : PI X tg iter wi)
    (hg : ∀ cl C s3 H3 fp pins, PG (cxComp X N scope cl C s3 H3 fp pins) tg g) (ht : ∀ cl C s3 H3 fp pins, PIf (cxComp X N scope cl C s3 H3 fp pins) ifs tc) (he : ∀ cl C s3 H3 fp pins, PE (cxComp X N scope cl C s3 H3 fp pins) elt te)
    (hs : ∀ x, foldedSetIterable iter X.env x = pure x := by intro _; rfl) : PE X (.ListComp elt [⟨tg, iter, ifs, 0⟩] scope pos) (tComp wi g tc te (stComp k ix)) := by
  intro pins s σ H Q I h
  rw [eval_ListComp]
  show wpAny _ X.A (comprehension (.ListComp elt [⟨tg, iter, ifs, 0⟩] scope pos) scope X.env _ (newList []) false (eval iter X.env) none) _ _ s
  refine comp_gen sc hsc S hx hc hi hg ht he (use := none) (QQ := EP X pins σ Q) pins s σ H Q I h (fun D C H5 s6 hI hm hf q => ?_) hs
  refine L2.o_E (hm) fun m6 hn6 => ?_
  exact ⟨m6, hn6, fun h' hs' => ⟨.ref D, H5, hI h' hs', rfl, q⟩⟩
end L2
namespace L2
open PySem PySem.Spec PyProof.Rows
theorem Same.tup {K : PySem.W.Frag} {H H' : Hp} {a : Addr} {xs : List V} (e : Same H H') (h : SqT K H a xs) : SqT K H' a xs := by
  rcases h with (h | ⟨o, h⟩) | h
  · exact .inl (.inl (e _ _ h))
  · exact .inl (.inr ⟨o, e _ _ h⟩)
  · exact .inr h
noncomputable def rCatS (K : PySem.W.Frag) : R2 := fun x y H Q => ∃ l b xs zs, x = .ref l ∧ y = .ref b ∧ SqL K H l xs ∧ SqL K H b zs ∧ xs.length + zs.length ≤ sizeLine ∧ ∀ p, H p = none → Q (.ref p) (upd H p (.lst (xs ++ zs)))
theorem op_catS {X : Cx} : OpR X (binaryOp .Add) (rCatS X.K) := by
  intro pins s σ H x y v u Q I rx ry h
  revert h
  refine fun zqq => L2.o_EEEEAAAAA zqq fun l b xs zs zq4 zq5 hH hB hz q => ?_
  clear zqq
  subst zq4
  subst zq5
  cases rx
  cases ry
  refine L2.o_EAA (I.list hH) fun its r pl hz1 => ?_
  refine L2.o_EAA (I.list hB) fun its2 r2 pl2 hz2 => ?_
  have l1 := r.length
  have l2 := r2.length
  obtain ⟨⟨cls, dd, data, sl⟩, ho, hc, n, hd⟩ := pl.isList
  obtain ⟨⟨cls2, dd2, data2, sl2⟩, ho2, hc2, n2, hd2⟩ := pl2.isList
  simp only at hc hd hc2 hd2
  subst hc hd hc2 hd2
  have ea : its.toArray ++ its2.toArray = (its ++ its2).toArray := by simp
  refine concat_meets ⟨_, ho, rfl⟩ ⟨_, ho2, rfl⟩ noFill_list_add seq_list_add PySem.F.slot_list_add PySem.F.entry_list_add (PySem.F.args_list_add_2 _ _) (list_addW l b its.toArray its2.toArray n n2 dd dd2 sl sl2 (by simp only [List.size_toArray]; omega)) ⟨ho, ho2, ?_⟩
  rw [ea]
  exact ⟨.ref _, _, I.lnew (t' := s.toks) (r.append r2) (by rw [List.length_append]; exact hz), rfl, q _ I.fresh⟩
noncomputable def big : Nat := 2 ^ 1000
theorem bits_of_big {a : Int} (h : a.natAbs < big) : Builtin.Int.intBits a ≤ 2 ^ 20 := by
  unfold Builtin.Int.intBits
  by_cases h0 : a = 0
  · subst h0; simp
  · have h1 : a.natAbs ≠ 0 := by omega
    have h2 : a.natAbs.log2 < 1000 := (Nat.log2_lt h1).mpr h
    have h3 : (a == 0) = false := by simpa using h0
    rw [h3]
    simp only [Bool.false_eq_true, if_false]
    have : (2 : Nat) ^ 20 = 1048576 := by decide
    omega
theorem log_of_big {a : Int} (h : a.natAbs < big) : a.natAbs.log2 < 9000 := by
  by_cases h0 : a.natAbs = 0
  · rw [h0]; decide +kernel
  · have h2 : a.natAbs.log2 < 1000 := (Nat.log2_lt h0).mpr h
    omega
noncomputable def CMulB (i j : Int) : Prop := (i.natAbs < big ∧ j.natAbs < big) ∨ CMul i j
noncomputable def CDivB (_ j : Int) : Prop := j ≠ 0 ∧ j.natAbs < big
theorem op_mulB {X : Cx} : OpR X (binaryOp .Mult) (rI CMulB fun i j => .int (i * j)) := opI fun _ _ _ _ _ _ _ hc q => mul_int q (hc.elim (fun z => .of_bits (bits_of_big z.1) (bits_of_big z.2)) CMul.ok)
theorem op_fdivB {X : Cx} : OpR X (binaryOp .FloorDiv) (rI CDivB fun i j => .int (i.fdiv j)) := opI fun _ _ _ _ _ _ _ hc q => floordiv_int hc.1 q (.inl (PyProof.noPylong_of_log2 (log_of_big hc.2)))
structure Lam where
  qual : Str
  params : Arguments
  body : Expr
  scope : Scope
  ps : List Str
  free : List Str
class Reg where
  reg : Str → Option Lam
variable [Reg]
noncomputable def fz (a : Addr) (o : Obj) : HO := .frz o (.ext fun h => h.get? a = some o)
noncomputable def LamAt (H : Hp) (g : Addr) (L : Lam) (cv : List V) : Prop :=
  ∃ (clos : List (Str × Addr)) (pm : Value) (c' : Addr) (ctv : Value) (oc : Obj) (vs : Array Value) (q : Str) (t : Tok) (φ : HO), H g = some (fz g (PySem.W.kla_obj "<lambda>" L.qual L.params L.body L.scope clos pm c' ctv)) ∧ H c' = some (.frz oc φ) ∧ oc.data = .fields vs ∧ vs[1]? = some (.str q t) ∧ cv.length = clos.length ∧
    clos.map (fun z => z.1) = L.free ∧ (clos.map (fun z => z.2)).Nodup ∧ ∀ (i : Nat) (z : Str × Addr) (v : V), clos[i]? = some z → cv[i]? = some v → ∃ u o, H z.2 = some (fz z.2 o) ∧ o.data = .cell (some u) ∧ RelV v u
noncomputable def FnV (K : PySem.W.Frag) (H : Hp) (g : Addr) (tag : Str) (cv : List V) : Prop :=
  (Reg.reg tag = none ∧ cv = [] ∧ PySem.W.nsIn K mainGlobals tag = some (some (.ref g))) ∨ ∃ L, Reg.reg tag = some L ∧ LamAt H g L cv
theorem LamAt.mono {H H' : Hp} {g : Addr} {L : Lam} {cv : List V} (e : Same H H') (h : LamAt H g L cv) : LamAt H' g L cv := by
  refine L2.o_EEEEEEEEEAAAAAAA (h) fun clos pm c' ctv oc vs q t φ h1 h2 h3 h4 h5 h6 h7 h8 => ?_
  exact L2.i_EEEEEEEEEAAAAAAA (clos) (pm) (c') (ctv) (oc) (vs) (q) (t) (φ) (e _ _ h1) (e _ _ h2) (h3) (h4) (h5) (h6) (h7) (fun i q v a b => let ⟨u, o, x, y⟩ := h8 i q v a b; ⟨u, o, e _ _ x, y⟩)
theorem FnV.mono {K : PySem.W.Frag} {H H' : Hp} {g : Addr} {tag : Str} {cv : List V} (e : Same H H') (h : FnV K H g tag cv) : FnV K H' g tag cv := by
  rcases h with h | ⟨L, h1, h2⟩
  · exact .inl h
  · exact .inr ⟨L, h1, h2.mono e⟩
noncomputable def ExcV (K : PySem.W.Frag) (H : Hp) (e : Addr) (cls : Str) (fv : List (Str × V)) : Prop :=
  ∃ (oe : Obj) (C : Addr) (vs : Array Value), H e = some (fz e oe) ∧ oe.cls = .ref C ∧ oe.data = .fields vs ∧ PySem.W.nsIn K mainGlobals cls = some (some (.ref C)) ∧ ((fv = [] ∧ oe.dict = none) ∨ ∃ dx, oe.dict = some dx ∧ H dx = some (.xd fv))
theorem ExcV.mono {K : PySem.W.Frag} {H H' : Hp} {e : Addr} {cls : Str} {fv : List (Str × V)} (s : Same H H') (h : ExcV K H e cls fv) : ExcV K H' e cls fv := by
  refine L2.o_EEEAAAA (h) fun oe C vs h1 h2 h3 h4 h5 => ?_
  refine L2.i_EEEAAAA (oe) (C) (vs) (s _ _ h1) (h2) (h3) (h4) ?_
  rcases h5 with h5 | ⟨dx, h5, h6⟩
  · exact .inl h5
  · exact .inr ⟨dx, h5, s _ _ h6⟩
noncomputable def excD (cls : Str) (fd : List PyData) : PyData := .dict [(.bool true, .str cls), (.none, .tuple fd)]
noncomputable def nmD (fv : List (Str × V)) : List PyData := fv.map fun p => .str p.1
noncomputable def InsV (K : PySem.W.Frag) (H : Hp) (a : Addr) (cls : Str) (fs : List (Str × V)) : Prop := ∃ C dx, H a = some (.ins C dx fs) ∧ PySem.W.nsIn K mainGlobals cls = some (some (.ref C))
theorem InsV.mono {K : PySem.W.Frag} {H H' : Hp} {a : Addr} {cls : Str} {fs : List (Str × V)} (s : Same H H') (h : InsV K H a cls fs) : InsV K H' a cls fs := by
  refine L2.o_EEA (h) fun C dx h1 h2 => ?_
  exact L2.i_EEA (C) (dx) (s _ _ h1) (h2)
mutual
inductive Den (K : PySem.W.Frag) (H : Hp) : V → PyData → Prop
  | non : Den K H .non .none
  | bl (b : Bool) : Den K H (.bl b) (.bool b)
  | int (i : Int) : Den K H (.int i) (.int i)
  | str (x : Str) : Den K H (.str x) (.str x)
  | tup {a : Addr} {vs : List V} {ds : List PyData} : SqT K H a vs → DenL K H vs ds → Den K H (.ref a) (.tuple ds)
  | lst {a : Addr} {vs : List V} {ds : List PyData} : SqL K H a vs → DenL K H vs ds → Den K H (.ref a) (.list ds)
  | fn {g : Addr} {tag : Str} {cv : List V} {caps : List PyData} : FnV K H g tag cv → DenL K H cv caps → Den K H (.ref g) (.dict [(.none, .str tag), (.none, .tuple caps)])
  | exc {e : Addr} {cls : Str} {fv : List (Str × V)} {fd : List PyData} : ExcV K H e cls fv → DenL K H (fv.map (·.2)) fd → Den K H (.ref e) (.dict [(.bool true, .str cls), (.none, .tuple (nmD fv ++ fd))])
  | obj {a : Addr} {cls : Str} {fs : List (Str × V)} {fd : List PyData} : InsV K H a cls fs → DenL K H (fs.map (·.2)) fd → Den K H (.ref a) (.dict [(.bool false, .str cls), (.none, .tuple ((fs.map (·.1)).map .str)), (.none, .tuple fd)])
inductive DenL (K : PySem.W.Frag) (H : Hp) : List V → List PyData → Prop
  | nil : DenL K H [] []
  | cons {v : V} {d : PyData} {vs : List V} {ds : List PyData} : Den K H v d → DenL K H vs ds → DenL K H (v :: vs) (d :: ds)
end
section
variable {K : PySem.W.Frag} {H H' : Hp}
theorem Den.mono (e : Same H H') {v : V} {d : PyData} (h : Den K H v d) : Den K H' v d :=
  Den.rec (motive_1 := fun v d _ => Den K H' v d) (motive_2 := fun vs ds _ => DenL K H' vs ds) .non .bl .int .str (fun h _ r => .tup (e.tup h) r) (fun h _ r => .lst (e.seq h) r) (fun h _ r => .fn (h.mono e) r) (fun h _ r => .exc (h.mono e) r) (fun h _ r => .obj (h.mono e) r) .nil (fun _ _ a b => .cons a b) h
theorem DenL.mono (e : Same H H') {vs : List V} {ds : List PyData} (h : DenL K H vs ds) : DenL K H' vs ds :=
  DenL.rec (motive_1 := fun v d _ => Den K H' v d) (motive_2 := fun vs ds _ => DenL K H' vs ds) .non .bl .int .str (fun h _ r => .tup (e.tup h) r) (fun h _ r => .lst (e.seq h) r) (fun h _ r => .fn (h.mono e) r) (fun h _ r => .exc (h.mono e) r) (fun h _ r => .obj (h.mono e) r) .nil (fun _ _ a b => .cons a b) h
theorem DenL.ind {M : List V → List PyData → Prop} (n : M [] []) (c : ∀ {v d vs ds}, Den K H v d → DenL K H vs ds → M vs ds → M (v :: vs) (d :: ds)) {vs : List V} {ds : List PyData} (h : DenL K H vs ds) : M vs ds :=
  DenL.rec (motive_1 := fun _ _ _ => True) (motive_2 := fun vs ds _ => M vs ds) trivial (fun _ => trivial) (fun _ => trivial) (fun _ => trivial) (fun _ _ _ => trivial) (fun _ _ _ => trivial) (fun _ _ _ => trivial) (fun _ _ _ => trivial) (fun _ _ _ => trivial) n (fun h r _ ih => c h r ih) h
theorem DenL.length {vs : List V} {ds : List PyData} (h : DenL K H vs ds) : vs.length = ds.length := h.ind (M := fun vs ds => vs.length = ds.length) rfl fun _ _ ih => congrArg (· + 1) ih
theorem DenL.get {vs : List V} {ds : List PyData} {i : Nat} {d : PyData} (h : DenL K H vs ds) : ds[i]? = some d → ∃ v, vs[i]? = some v ∧ Den K H v d :=
  h.ind (M := fun vs ds => ∀ i, ds[i]? = some d → ∃ v, vs[i]? = some v ∧ Den K H v d) (fun _ e => by rw [List.getElem?_nil] at e; cases e) (fun h _ ih i => by
    cases i with
    | zero => intro e; cases e; exact ⟨_, rfl, h⟩
    | succ i => exact ih i) i
theorem DenL.append {vs ws : List V} {ds es : List PyData} (h : DenL K H vs ds) (s : DenL K H ws es) : DenL K H (vs ++ ws) (ds ++ es) := h.ind (M := fun vs ds => DenL K H (vs ++ ws) (ds ++ es)) s fun h _ ih => .cons h ih
theorem DenL.ints : ∀ ns : List Int, DenL K H (ns.map V.int) (ns.map PyData.int)
  | [] => .nil
  | n :: r => .cons (.int n) (DenL.ints r)
theorem DenL.atI {vs : List V} {ds : List PyData} {i : Int} {d : PyData} (r : DenL K H vs ds) (h : atI ds i = some d) : ∃ v, L2.atI vs i = some v ∧ Den K H v d := by
  unfold L2.atI at h ⊢
  rw [← r.length] at h
  cases e : ixN vs.length i with
  | none => rw [e] at h; cases h
  | some j =>
    rw [e] at h
    refine L2.o_EA (r.get h) fun v h1 h2 => ?_
    exact ⟨v, h1, h2⟩
inductive Sc : V → PyData → Prop
  | non : Sc .non .none
  | bl (b : Bool) : Sc (.bl b) (.bool b)
  | int (i : Int) : Sc (.int i) (.int i)
  | str (x : Str) : Sc (.str x) (.str x)
theorem Sc.den {v : V} {d : PyData} (h : Sc v d) : Den K H v d := by
  cases h with
  | non => exact .non
  | bl b => exact .bl b
  | int i => exact .int i
  | str x => exact .str x
theorem den_int {v : V} {i : Int} (h : Den K H v (.int i)) : v = .int i := by cases h; rfl
theorem den_bl {v : V} {b : Bool} (h : Den K H v (.bool b)) : v = .bl b := by cases h; rfl
inductive DLst (K : PySem.W.Frag) (H : Hp) (v : V) (ds : List PyData) : Prop
  | mk (a : Addr) (vs : List V) (e : v = .ref a) (q : SqL K H a vs) (r : DenL K H vs ds) : DLst K H v ds
inductive DTup (K : PySem.W.Frag) (H : Hp) (v : V) (ds : List PyData) : Prop
  | mk (a : Addr) (vs : List V) (e : v = .ref a) (q : SqT K H a vs) (r : DenL K H vs ds) : DTup K H v ds
theorem den_lst {v : V} {ds : List PyData} (h : Den K H v (.list ds)) : DLst K H v ds := by cases h with | lst q r => exact ⟨_, _, rfl, q, r⟩
theorem den_tup {v : V} {ds : List PyData} (h : Den K H v (.tuple ds)) : DTup K H v ds := by cases h with | tup q r => exact ⟨_, _, rfl, q, r⟩
theorem denl_cons {vs : List V} {d : PyData} {ds : List PyData} (h : DenL K H vs (d :: ds)) : ∃ v ws, vs = v :: ws ∧ Den K H v d ∧ DenL K H ws ds := by cases h with | cons q r => exact ⟨_, _, rfl, q, r⟩
theorem denl_nil {vs : List V} (h : DenL K H vs []) : vs = [] := by cases h; rfl
noncomputable def lf : PyData → Bool
  | .list _ => false
  | .dict _ => false
  | .tuple ds => go ds
  | _ => true
where go : List PyData → Bool
  | [] => true
  | d :: r => lf d && go r
end
section
variable {X : Cx} {pins : List (Addr × Obj)} {σ : St} {H : Hp} {s : Shared}
theorem Den.reads (I : Inv X pins σ H s) {v : V} {d : PyData} {u : Value} (h : Den X.K H v d) (z : d.canLay0 = true) (r : RelV v u) : ∃ as, Reads s.heap u d as := by
  refine Den.rec (motive_1 := fun v d _ => d.canLay0 = true → ∀ u, RelV v u → ∃ as, Reads s.heap u d as) (motive_2 := fun vs ds _ => PyData.canLayAll0 ds = true → ∀ us, Vals vs us → ∃ as, ReadsAll s.heap us ds as) ?_ ?_ ?_ ?_ ?_ ?_ (fun _ _ _ z => by simp [PyData.canLay0] at z) (fun _ _ _ z => by simp [PyData.canLay0] at z) (fun _ _ _ z => by simp [PyData.canLay0] at z) ?_ ?_ h z u r
  · intro _ u r; cases r; exact ⟨_, Reads.none⟩
  · intro b _ u r; cases r; exact ⟨_, Reads.bool b⟩
  · intro i _ u r; obtain ⟨t, rfl⟩ := r; exact ⟨_, Reads.int i t⟩
  · intro x _ u r; obtain ⟨t, rfl⟩ := r; exact ⟨_, Reads.str x t⟩
  · intro _ _ _ h _ ih z u r
    cases r
    obtain ⟨its, rv, ⟨o, e, c, n, d⟩, _⟩ := I.tuple h
    refine L2.o_E (ih (by simpa [PyData.canLay0] using z) its rv) fun as z => ?_
    exact ⟨as, reads_tuple_at e c d (by simpa using z)⟩
  · intro _ _ _ h _ ih z u r
    cases r
    obtain ⟨its, rv, ⟨o, n, e, c, _, d⟩, _⟩ := I.list h
    refine L2.o_E (ih (by simpa [PyData.canLay0] using z) its rv) fun as z => ?_
    exact ⟨_, reads_list_at e c d (by simpa using z)⟩
  · intro _ us r; cases r; exact ⟨_, ReadsAll.nil⟩
  · intro _ _ _ _ _ _ ih1 ih2 z us r
    rw [PyData.canLayAll0, Bool.and_eq_true] at z
    cases r with
    | cons r1 r2 =>
      refine L2.o_E (ih1 z.1 _ r1) fun as z1 => ?_
      refine L2.o_E (ih2 z.2 _ r2) fun bs y => ?_
      exact ⟨_, ReadsAll.cons z1 y⟩
noncomputable def rEqD (K : PySem.W.Frag) : R2 := fun x y H Q => ∃ da db, Den K H x da ∧ Den K H y db ∧ SeqAt.shaped da = true ∧ SeqAt.shaped db = true ∧ Q (.bl (PyData.eqv da db)) H
noncomputable def rNeD (K : PySem.W.Frag) : R2 := fun x y H Q => ∃ da db, Den K H x da ∧ Den K H y db ∧ SeqAt.shaped da = true ∧ SeqAt.shaped db = true ∧ Q (.bl (!PyData.eqv da db)) H
theorem op_eqD (hu : X.A.units + 64 < cLine) : OpR X (compareOp .Eq) (rEqD X.K) := by
  intro pins s σ H x y v u Q I rx ry h
  refine L2.o_EEAAAA (h) fun da db ha hb sa sb q => ?_
  refine L2.o_E (ha.reads I (SeqAt.canLay_of_shaped sa) rx) fun as ra => ?_
  refine L2.o_E (hb.reads I (SeqAt.canLay_of_shaped sb) ry) fun bs rb => ?_
  exact eq_dataH ra rb sa sb hu (fin_bl I q rfl)
theorem op_neD (hu : X.A.units + 64 < cLine) : OpR X (compareOp .NotEq) (rNeD X.K) := by
  intro pins s σ H x y v u Q I rx ry h
  refine L2.o_EEAAAA (h) fun da db ha hb sa sb q => ?_
  refine L2.o_E (ha.reads I (SeqAt.canLay_of_shaped sa) rx) fun as ra => ?_
  refine L2.o_E (hb.reads I (SeqAt.canLay_of_shaped sb) ry) fun bs rb => ?_
  exact ne_dataH ra rb sa sb hu (fin_bl I q rfl)
end
open Classical in
noncomputable def del (H : Hp) (P : Addr → Prop) : Hp := fun b => if P b then none else H b
noncomputable def uni (hid : Addr → Prop) (ow : List Addr) : Addr → Prop := fun b => hid b ∨ b ∈ ow
theorem del_in {H : Hp} {P : Addr → Prop} {b : Addr} (h : P b) : del H P b = none := by unfold del; rw [if_pos h]
theorem del_out {H : Hp} {P : Addr → Prop} {b : Addr} (h : ¬ P b) : del H P b = H b := by unfold del; rw [if_neg h]
theorem del_same (H : Hp) (P : Addr → Prop) : Same (del H P) H := fun b o e => by
  by_cases h : P b
  · rw [del_in h] at e; cases e
  · rw [del_out h] at e; exact e
theorem del_mono {H H' : Hp} (e : Same H H') (P : Addr → Prop) : Same (del H P) (del H' P) := fun b o q => by
  by_cases h : P b
  · rw [del_in h] at q; cases q
  · rw [del_out h] at q ⊢; exact e b o q
theorem del_sub {H : Hp} {P Q : Addr → Prop} (h : ∀ b, P b → Q b) : Same (del H Q) (del H P) := fun b o q => by
  by_cases hq : Q b
  · rw [del_in hq] at q; cases q
  · rw [del_out hq] at q
    rw [del_out fun z => hq (h b z)]
    exact q
theorem del_false (H : Hp) : del H (fun _ => False) = H := by funext b; exact del_out (fun z => z)
theorem uni_nil (hid : Addr → Prop) : uni hid [] = hid := by
  funext b
  unfold uni
  simp
theorem uni_in {hid : Addr → Prop} {ow : List Addr} {b : Addr} (h : b ∈ ow) : uni hid ow b := .inr h
theorem del_uni (H : Hp) (hid : Addr → Prop) (ow : List Addr) : Same (del H (uni hid ow)) (del H hid) := del_sub fun _ z => .inl z
theorem del_upd {H : Hp} {l : Addr} {P : Addr → Prop} {o : HO} (h : P l) : del (upd H l o) P = del H P := by
  funext b
  by_cases hb : P b
  · rw [del_in hb, del_in hb]
  · rw [del_out hb, del_out hb, upd_ne]
    rintro rfl
    exact hb h
theorem same_new {H : Hp} {p : Addr} {o : HO} (h : H p = none) : Same H (upd H p o) := fun b u e => by rw [upd_ne (ne_of_none e h)]; exact e
theorem del_new {H H' : Hp} {p : Addr} {P Q : Addr → Prop} (s : Same H H') (h : H p = none) (hq : ∀ b, Q b → P b ∨ b = p) : Same (del H P) (del H' Q) := fun b u e => by
  by_cases hb : P b
  · rw [del_in hb] at e; cases e
  · rw [del_out hb] at e
    have hne : b ≠ p := ne_of_none e h
    rw [del_out fun z => (hq b z).elim hb hne]
    exact s b u e
section
variable {K : PySem.W.Frag} {H : Hp} {hid : Addr → Prop} {ow : List Addr}
theorem del_lst (hi : ∀ l ∈ ow, ∃ vs, H l = some (.lst vs)) {a : Addr} {o : HO} (e : del H hid a = some o) (n : ∀ vs, o ≠ .lst vs) : del H (uni hid ow) a = some o := by
  have e' := del_same _ _ a o e
  have nh : ¬ hid a := fun z => by rw [del_in z] at e; cases e
  rw [del_out]
  · exact e'
  · rintro (z | z)
    · exact nh z
    · refine L2.o_E (hi a z) fun vs e2 => ?_
      rw [e'] at e2
      exact n vs (Option.some.inj e2)
theorem SqT.clean (hi : ∀ l ∈ ow, ∃ vs, H l = some (.lst vs)) {a : Addr} {vs : List V} (q : SqT K (del H hid) a vs) : SqT K (del H (uni hid ow)) a vs := by
  rcases q with (q | ⟨o, q⟩) | q
  · exact .inl (.inl (del_lst hi q fun _ z => by cases z))
  · exact .inl (.inr ⟨o, del_lst hi q fun _ z => by cases z⟩)
  · exact .inr q
theorem Den.clean (hi : ∀ l ∈ ow, ∃ vs, H l = some (.lst vs)) {v : V} {d : PyData} (z : Den K (del H hid) v d) : lf d = true → Den K (del H (uni hid ow)) v d :=
  Den.rec (motive_1 := fun v d _ => lf d = true → Den K (del H (uni hid ow)) v d) (motive_2 := fun vs ds _ => lf.go ds = true → DenL K (del H (uni hid ow)) vs ds) (fun _ => .non) (fun b _ => .bl b) (fun i _ => .int i) (fun x _ => .str x) (fun q _ r h => .tup (q.clean hi) (r h)) (fun _ _ _ h => by cases h) (fun _ _ _ h => by cases h) (fun _ _ _ h => by cases h) (fun _ _ _ h => by cases h) (fun _ => .nil) (fun _ _ a b h => by rw [lf.go, Bool.and_eq_true] at h; exact .cons (a h.1) (b h.2)) z
end
noncomputable abbrev Rho := List (Option PyData)
inductive Ty where
  | cl : Ty
  | lst : Ty → Ty
  | tup : List Ty → Ty
  | io : Addr → Ty
mutual
inductive DenO (K : PySem.W.Frag) (H C : Hp) : Ty → V → PyData → List Addr → Prop
  | cl {v : V} {d : PyData} : Den K C v d → DenO K H C .cl v d []
  | non {t : Ty} : DenO K H C t .non .none []
  | lst {t : Ty} {a : Addr} {vs : List V} {ds : List PyData} {as : List Addr} : H a = some (.lst vs) → DenOs K H C t vs ds as → a ∉ as → DenO K H C (.lst t) (.ref a) (.list ds) (a :: as)
  | tup {ts : List Ty} {a : Addr} {vs : List V} {ds : List PyData} {as : List Addr} : SqT K C a vs → DenOp K H C ts vs ds as → DenO K H C (.tup ts) (.ref a) (.tuple ds) as
  | io {l : Addr} {vs : List V} {ds : List PyData} : H l = some (.lst vs) → DenL K C vs ds → DenO K H C (.io l) (.ref l) (.list ds) [l]
inductive DenOs (K : PySem.W.Frag) (H C : Hp) : Ty → List V → List PyData → List Addr → Prop
  | nil {t : Ty} : DenOs K H C t [] [] []
  | cons {t : Ty} {v : V} {d : PyData} {vs : List V} {ds : List PyData} {as bs : List Addr} : DenO K H C t v d as → DenOs K H C t vs ds bs → (∀ p ∈ as, p ∉ bs) → DenOs K H C t (v :: vs) (d :: ds) (as ++ bs)
inductive DenOp (K : PySem.W.Frag) (H C : Hp) : List Ty → List V → List PyData → List Addr → Prop
  | nil : DenOp K H C [] [] [] []
  | cons {t : Ty} {ts : List Ty} {v : V} {d : PyData} {vs : List V} {ds : List PyData} {as bs : List Addr} : DenO K H C t v d as → DenOp K H C ts vs ds bs → (∀ p ∈ as, p ∉ bs) → DenOp K H C (t :: ts) (v :: vs) (d :: ds) (as ++ bs)
end
section
variable {K : PySem.W.Frag} {H H' C C' G : Hp}
theorem DenO.mono (c : Same C C') {t : Ty} {v : V} {d : PyData} {as : List Addr} (h : DenO K H C t v d as) : (∀ p ∈ as, ∀ o, H p = some o → H' p = some o) → DenO K H' C' t v d as :=
  DenO.rec (motive_1 := fun t v d as _ => (∀ p ∈ as, ∀ o, H p = some o → H' p = some o) → DenO K H' C' t v d as) (motive_2 := fun t v d as _ => (∀ p ∈ as, ∀ o, H p = some o → H' p = some o) → DenOs K H' C' t v d as) (motive_3 := fun t v d as _ => (∀ p ∈ as, ∀ o, H p = some o → H' p = some o) → DenOp K H' C' t v d as) (fun h _ => .cl (h.mono c)) (fun _ => .non) (fun h _ n r k => .lst (k _ List.mem_cons_self _ h) (r fun p hp => k p (List.mem_cons_of_mem _ hp)) n) (fun h _ r k => .tup (c.tup h) (r k)) (fun h q k => .io (k _ (List.mem_singleton.mpr rfl) _ h) (q.mono c)) (fun _ => .nil) (fun _ _ n h r k => .cons (h fun p hp => k p (List.mem_append_left _ hp)) (r fun p hp => k p (List.mem_append_right _ hp)) n) (fun _ => .nil) (fun _ _ n h r k => .cons (h fun p hp => k p (List.mem_append_left _ hp)) (r fun p hp => k p (List.mem_append_right _ hp)) n) h
theorem DenO.raw (c : Same C G) {t : Ty} {v : V} {d : PyData} {as : List Addr} (h : DenO K H C t v d as) : (∀ p ∈ as, ∀ o, H p = some o → G p = some o) → Den K G v d :=
  DenO.rec (motive_1 := fun t v d as _ => (∀ p ∈ as, ∀ o, H p = some o → G p = some o) → Den K G v d) (motive_2 := fun t v d as _ => (∀ p ∈ as, ∀ o, H p = some o → G p = some o) → DenL K G v d) (motive_3 := fun t v d as _ => (∀ p ∈ as, ∀ o, H p = some o → G p = some o) → DenL K G v d) (fun h _ => h.mono c) (fun _ => .non) (fun h _ n r k => .lst (SqL.of (k _ List.mem_cons_self _ h)) (r fun p hp => k p (List.mem_cons_of_mem _ hp))) (fun h _ r k => .tup (c.tup h) (r k)) (fun h q k => .lst (SqL.of (k _ (List.mem_singleton.mpr rfl) _ h)) (q.mono c)) (fun _ => .nil) (fun _ _ n h r k => .cons (h fun p hp => k p (List.mem_append_left _ hp)) (r fun p hp => k p (List.mem_append_right _ hp))) (fun _ => .nil) (fun _ _ n h r k => .cons (h fun p hp => k p (List.mem_append_left _ hp)) (r fun p hp => k p (List.mem_append_right _ hp))) h
theorem DenO.lists {t : Ty} {v : V} {d : PyData} {as : List Addr} (h : DenO K H C t v d as) : ∀ p ∈ as, ∃ vs, H p = some (.lst vs) :=
  DenO.rec (motive_1 := fun t v d as _ => ∀ p ∈ as, ∃ vs, H p = some (.lst vs)) (motive_2 := fun t v d as _ => ∀ p ∈ as, ∃ vs, H p = some (.lst vs)) (motive_3 := fun t v d as _ => ∀ p ∈ as, ∃ vs, H p = some (.lst vs)) (fun _ p hp => absurd hp List.not_mem_nil) (fun p hp => absurd hp List.not_mem_nil) (fun h _ n r p hp => (List.mem_cons.mp hp).elim (fun z => ⟨_, z ▸ h⟩) (r p)) (fun _ _ r p hp => r p hp) (fun h _ p hp => ⟨_, (List.mem_singleton.mp hp) ▸ h⟩) (fun p hp => absurd hp List.not_mem_nil) (fun _ _ n h r p hp => (List.mem_append.mp hp).elim (h p) (r p)) (fun p hp => absurd hp List.not_mem_nil) (fun _ _ n h r p hp => (List.mem_append.mp hp).elim (h p) (r p)) h
theorem DenL.os : ∀ {vs : List V} {ds : List PyData}, DenL K C vs ds → DenOs K H C .cl vs ds []
  | _, _, .nil => .nil
  | _, _, .cons h r => .cons (as := []) (.cl h) (DenL.os r) (fun p hp => by cases hp)
theorem DenOs.dl {vs : List V} {ds : List PyData} {as : List Addr} (h : DenOs K H C .cl vs ds as) : DenL K C vs ds ∧ as = [] :=
  DenOs.rec (motive_1 := fun t v d as _ => t = .cl → Den K C v d ∧ as = []) (motive_2 := fun t vs ds as _ => t = .cl → DenL K C vs ds ∧ as = []) (motive_3 := fun _ _ _ _ _ => True) (fun h _ => ⟨h, rfl⟩) (fun _ => ⟨.non, rfl⟩) (fun _ _ _ _ e => Ty.noConfusion e) (fun _ _ _ e => Ty.noConfusion e) (fun _ _ e => Ty.noConfusion e) (fun _ => ⟨.nil, rfl⟩) (fun _ _ n h r e => ⟨.cons (h e).1 (r e).1, by rw [(h e).2, (r e).2]; rfl⟩) trivial (fun _ _ _ _ _ => trivial) h rfl
theorem DenO.den {v : V} {d : PyData} {as : List Addr} (h : DenO K H C .cl v d as) : Den K C v d := by
  cases h with
  | cl h => exact h
  | non => exact .non
noncomputable def getP : PyData → List Int → Option (List PyData)
  | .list ds, [] => some ds
  | .list ds, k :: r => (ixN ds.length k).bind fun j => (ds[j]?).bind fun d => getP d r
  | .tuple ds, k :: r => (ixN ds.length k).bind fun j => (ds[j]?).bind fun d => getP d r
  | _, _ => none
noncomputable def setP : PyData → List Int → List PyData → PyData
  | .list _, [], es => .list es
  | .list ds, k :: r, es => match ixN ds.length k with
    | some j => .list (ds.set j (setP (ds.getD j .none) r es))
    | none => .list ds
  | .tuple ds, k :: r, es => match ixN ds.length k with
    | some j => .tuple (ds.set j (setP (ds.getD j .none) r es))
    | none => .tuple ds
  | d, _, _ => d
noncomputable def tyP : Ty → PyData → List Int → Bool
  | .lst .cl, .list _, [] => true
  | .io _, .list _, [] => true
  | .lst t, .list ds, k :: r => match ixN ds.length k with
    | some j => tyP t (ds.getD j .none) r
    | none => false
  | .tup ts, .tuple ds, k :: r => match ixN ds.length k with
    | some j => tyP (ts.getD j .cl) (ds.getD j .none) r
    | none => false
  | _, _, _ => false
inductive AtP (K : PySem.W.Frag) (H C : Hp) : V → List Int → Addr → Prop
  | here {l : Addr} : AtP K H C (.ref l) [] l
  | inL {a : Addr} {vs : List V} {k : Int} {r : List Int} {w : V} {l : Addr} : H a = some (.lst vs) → atI vs k = some w → AtP K H C w r l → AtP K H C (.ref a) (k :: r) l
  | inT {a : Addr} {vs : List V} {k : Int} {r : List Int} {w : V} {l : Addr} : SqT K C a vs → atI vs k = some w → AtP K H C w r l → AtP K H C (.ref a) (k :: r) l
theorem getD_some {ds : List PyData} {j : Nat} {d : PyData} (h : ds[j]? = some d) : ds.getD j .none = d := by
  rw [List.getD_eq_getElem?_getD, h]; rfl
end
structure Ow where
  s : List (Nat × Ty)
  r : Ty := .cl
noncomputable def OwnA (K : PySem.W.Frag) (O : Ow) (hid : Addr → Prop) (σ : St) (H : Hp) (ρ : Rho) (ow : List Addr) (A : Nat → List Addr) : Prop :=
  (∀ i t d, O.s.lookup i = some t → ρ[i]? = some (some d) → ∃ v, σ[i]? = some (some v) ∧ DenO K H (del H (uni hid ow)) t v d (A i)) ∧ (∀ i j p, i ≠ j → p ∈ A i → p ∉ A j) ∧ (∀ i p, p ∈ A i → p ∈ ow)
structure EnvOk (K : PySem.W.Frag) (O : Ow) (hid : Addr → Prop) (H0 : Hp) (σ : St) (H : Hp) (ρ : Rho) (ow : List Addr) : Prop where
  len : ρ.length = σ.length
  base : Same H0 (del H fun b => b ∈ ow)
  val : ∀ i d, O.s.lookup i = none → ρ[i]? = some (some d) → ∃ v, σ[i]? = some (some v) ∧ Den K (del H (uni hid ow)) v d
  own : ∃ A, OwnA K O hid σ H ρ ow A
  isl : ∀ l ∈ ow, (∃ vs, H l = some (.lst vs)) ∧ ¬ hid l
  ishL : ∀ b, hid b → ∃ vs, H b = some (.lst vs)
  emp : O.s = [] → ow = []
section
variable {K : PySem.W.Frag} {O : Ow} {hid : Addr → Prop} {H0 H H' : Hp} {σ : St} {ρ : Rho} {ow : List Addr} {A : Nat → List Addr}
theorem OwnA.mono (a : OwnA K O hid σ H ρ ow A) (h : Same H H') : OwnA K O hid σ H' ρ ow A :=
  ⟨fun i t d hi hd => let ⟨v, q, r⟩ := a.1 i t d hi hd; ⟨v, q, r.mono (del_mono h _) fun p _ o e => h p o e⟩, a.2⟩
theorem EnvOk.mono (e : EnvOk K O hid H0 σ H ρ ow) (h : Same H H') : EnvOk K O hid H0 σ H' ρ ow :=
  ⟨e.len, e.base.trans (del_mono h _), fun i d hi hd => let ⟨v, a, b⟩ := e.val i d hi hd; ⟨v, a, b.mono (del_mono h _)⟩,
    let ⟨A, a⟩ := e.own; ⟨A, a.mono h⟩, fun l hl => let ⟨⟨vs, q⟩, n⟩ := e.isl l hl; ⟨⟨vs, h _ _ q⟩, n⟩,
    fun b hb => let ⟨vs, q⟩ := e.ishL b hb; ⟨vs, h _ _ q⟩, e.emp⟩
theorem EnvOk.ish (e : EnvOk K O hid H0 σ H ρ ow) : ∀ b, hid b → H b ≠ none := fun b hb z => by
  refine L2.o_E (e.ishL b hb) fun vs q => ?_
  rw [z] at q; cases q
theorem EnvOk.uniL (e : EnvOk K O hid H0 σ H ρ ow) : ∀ b, uni hid ow b → ∃ vs, H b = some (.lst vs) := fun b hb => by
  rcases hb with hb | hb
  · exact e.ishL b hb
  · exact (e.isl b hb).1
theorem EnvOk.fresh (e : EnvOk K O hid H0 σ H ρ ow) {p : Addr} (h : H p = none) : ¬ uni hid ow p := by
  rintro (z | z)
  · exact e.ish p z h
  · obtain ⟨⟨vs, q⟩, _⟩ := e.isl p z
    rw [h] at q; cases q
theorem EnvOk.lists (e : EnvOk K O hid H0 σ H ρ ow) : ∀ l ∈ ow, ∃ vs, H l = some (.lst vs) := fun l h => (e.isl l h).1
theorem EnvOk.raw (e : EnvOk K O hid H0 σ H ρ ow) {i : Nat} {d : PyData} (h : ρ[i]? = some (some d)) : ∃ v, σ[i]? = some (some v) ∧ Den K (del H hid) v d := by
  cases hi : O.s.lookup i with
  | some t =>
    refine L2.o_EAA (e.own) fun A a1 a2 a3 => ?_
    refine L2.o_EA (a1 i t d hi h) fun v q r => ?_
    exact ⟨v, q, r.raw (del_uni _ _ _) fun p hp o q => by rw [del_out (e.isl p (a3 i p hp)).2]; exact q⟩
  | none =>
    refine L2.o_EA (e.val i d hi h) fun v a b => ?_
    exact ⟨v, a, b.mono (del_uni _ _ _)⟩
theorem EnvOk.newAt (e : EnvOk K O hid H0 σ H ρ ow) {p : Addr} {o : HO} (h : H p = none) : del (upd H p o) (uni hid ow) p = some o := by rw [del_out (e.fresh h), upd_same]
theorem EnvOk.newAtR (e : EnvOk K O hid H0 σ H ρ ow) {p : Addr} {o : HO} (h : H p = none) : del (upd H p o) hid p = some o := by rw [del_out fun z => e.fresh h (.inl z), upd_same]
theorem set_two {ρ : Rho} {i j : Nat} {d : PyData} {x : Option PyData} (q : (ρ.set i (some d))[j]? = some x) : (j = i ∧ x = some d ∧ i < ρ.length) ∨ (j ≠ i ∧ ρ[j]? = some x) := by
  by_cases hj : j = i
  · subst hj
    have hl : j < ρ.length := by have := (List.getElem?_eq_some_iff.mp q).1; simpa using this
    rw [List.getElem?_set_self hl] at q
    exact .inl ⟨rfl, (Option.some.inj q).symm, hl⟩
  · rw [List.getElem?_set_ne (Ne.symm hj)] at q
    exact .inr ⟨hj, q⟩
theorem EnvOk.set (e : EnvOk K O hid H0 σ H ρ ow) {i : Nat} {v : V} {d : PyData} (hi : O.s.lookup i = none) (h : Den K (del H (uni hid ow)) v d) : EnvOk K O hid H0 (σ.set i (some v)) H (ρ.set i (some d)) ow := by
  refine ⟨by simpa using e.len, e.base, fun j x hj q => ?_, ?_, e.isl, e.ishL, e.emp⟩
  · rcases set_two q with ⟨rfl, z, hl⟩ | ⟨hne, z⟩
    · cases z
      exact ⟨v, List.getElem?_set_self (by rw [← e.len]; exact hl), h⟩
    · refine L2.o_EA (e.val j x hj z) fun w a b => ?_
      exact ⟨w, by rw [List.getElem?_set_ne (Ne.symm hne)]; exact a, b⟩
  · refine L2.o_EAA (e.own) fun A a1 a2 a3 => ?_
    refine ⟨A, fun j t x hj q => ?_, a2, a3⟩
    have hne : j ≠ i := fun z => by rw [z, hi] at hj; cases hj
    rw [List.getElem?_set_ne (Ne.symm hne)] at q
    refine L2.o_EA (a1 j t x hj q) fun w a b => ?_
    exact ⟨w, by rw [List.getElem?_set_ne (Ne.symm hne)]; exact a, b⟩
theorem EnvOk.setT (e : EnvOk K O hid H0 σ H ρ ow) (s : Same H H') {i : Nat} {t : Ty} {v : V} {d : PyData} {as : List Addr} (hi : O.s.lookup i = some t) (hl : ∀ p ∈ as, H p = none) (h : DenO K H' (del H' (uni hid (as ++ ow))) t v d as) :
    EnvOk K O hid H0 (σ.set i (some v)) H' (ρ.set i (some d)) (as ++ ow) := by
  have nl : ∀ p ∈ as, ¬ uni hid ow p := fun p hp => e.fresh (hl p hp)
  have gen : ∀ P Q : Addr → Prop, (∀ b, Q b → P b ∨ b ∈ as) → Same (del H P) (del H' Q) := fun P Q hq b u z => by
    by_cases hb : P b
    · rw [del_in hb] at z; cases z
    · rw [del_out hb] at z
      rw [del_out fun y => ?_]
      · exact s b u z
      · rcases hq b y with y | y
        · exact hb y
        · rw [hl b y] at z; cases z
  have sub : Same (del H (uni hid ow)) (del H' (uni hid (as ++ ow))) := gen _ _ fun b z => by
    rcases z with z | z
    · exact .inl (.inl z)
    · rcases List.mem_append.mp z with z | z
      · exact .inr z
      · exact .inl (.inr z)
  have subO : Same (del H fun b => b ∈ ow) (del H' fun b => b ∈ as ++ ow) := gen _ _ fun b z => by
    rcases List.mem_append.mp z with z | z
    · exact .inr z
    · exact .inl z
  refine ⟨by simpa using e.len, e.base.trans subO, fun j x hj q => ?_, ?_, fun l2 h2 => ?_, fun b hb => let ⟨vs, q⟩ := e.ishL b hb; ⟨vs, s _ _ q⟩, fun z => by rw [z] at hi; cases hi⟩
  · have hne : j ≠ i := fun z => by rw [z, hi] at hj; cases hj
    rw [List.getElem?_set_ne (Ne.symm hne)] at q
    refine L2.o_EA (e.val j x hj q) fun w a b => ?_
    exact ⟨w, by rw [List.getElem?_set_ne (Ne.symm hne)]; exact a, b.mono sub⟩
  · refine L2.o_EAA (e.own) fun A a1 a2 a3 => ?_
    refine ⟨fun j => if j = i then as else A j, fun j t' x hj q => ?_, fun j k p hjk hp hk => ?_, fun j p hp => ?_⟩
    · rcases set_two q with ⟨rfl, z, hz⟩ | ⟨hne, z⟩
      · cases z
        rw [hi] at hj
        cases hj
        exact ⟨v, List.getElem?_set_self (by rw [← e.len]; exact hz), by dsimp only; rw [if_pos rfl]; exact h⟩
      · refine L2.o_EA (a1 j t' x hj z) fun w a b => ?_
        refine ⟨w, by rw [List.getElem?_set_ne (Ne.symm hne)]; exact a, ?_⟩
        dsimp only
        rw [if_neg hne]
        exact b.mono sub fun p _ o q => s p o q
    · dsimp only at hp hk
      split at hp
      · split at hk
        · subst_vars; exact hjk rfl
        · exact nl p hp (.inr (a3 k p hk))
      · split at hk
        · exact nl p hk (.inr (a3 j p hp))
        · exact a2 j k p hjk hp hk
    · dsimp only at hp
      split at hp
      · exact List.mem_append_left _ hp
      · exact List.mem_append_right _ (a3 j p hp)
  · rcases List.mem_append.mp h2 with h2 | h2
    · exact ⟨h.lists l2 h2, fun z => nl l2 h2 (.inl z)⟩
    · obtain ⟨⟨ws, q⟩, n⟩ := e.isl l2 h2
      exact ⟨⟨ws, s _ _ q⟩, n⟩
theorem EnvOk.at0 (e : EnvOk K O hid H0 σ H ρ ow) {i : Nat} {ds : List PyData} (hi : O.s.lookup i = some (.lst .cl)) (hρ : ρ[i]? = some (some (.list ds))) :
    ∃ l vs, σ[i]? = some (some (.ref l)) ∧ H l = some (.lst vs) ∧ DenL K (del H (uni hid ow)) vs ds ∧ l ∈ ow ∧
      ∀ H', Same H H' → ∀ ws es, DenL K (del H' (uni hid ow)) ws es → EnvOk K O hid H0 σ (upd H' l (.lst ws)) (ρ.set i (some (.list es))) ow := by
  refine L2.o_EAA (e.own) fun A a1 a2 a3 => ?_
  refine L2.o_EA (a1 i _ _ hi hρ) fun v hv D => ?_
  generalize hA : A i = Ai at D
  cases D with
  | @lst _ l vs _ as q r n =>
    refine L2.o_A (r.dl) fun dl zq1 => ?_
    subst zq1
    have hA' : l ∈ A i := by rw [hA]; exact List.mem_singleton.mpr rfl
    have hl := a3 i l hA'
    refine L2.i_EEAAAA (l) (vs) (hv) (q) (dl) (hl) (fun H' s ws es he => ?_)
    have e' := e.mono s
    have ed : del (upd H' l (.lst ws)) (uni hid ow) = del H' (uni hid ow) := del_upd (uni_in hl)
    have eo : del (upd H' l (.lst ws)) (fun b => b ∈ ow) = del H' (fun b => b ∈ ow) := del_upd hl
    refine ⟨by simpa using e.len, by rw [eo]; exact e'.base, fun j x hj q => ?_, ⟨A, fun j t' x hj q => ?_, a2, a3⟩, fun l2 h2 => ?_, fun b hb => ?_, e.emp⟩
    · have hne : j ≠ i := fun z => by rw [z, hi] at hj; cases hj
      rw [List.getElem?_set_ne (Ne.symm hne)] at q
      rw [ed]
      exact e'.val j x hj q
    · rw [ed]
      rcases set_two q with ⟨rfl, z, hz⟩ | ⟨hne, z⟩
      · cases z
        rw [hi] at hj
        cases hj
        refine ⟨.ref l, hv, ?_⟩
        rw [hA]
        exact .lst upd_same he.os (by simp)
      · refine L2.o_EA (a1 j t' x hj z) fun w a b => ?_
        exact ⟨w, a, b.mono (del_mono s _) fun p hp o q => by rw [upd_ne (show p ≠ l from fun y => a2 j i p hne hp (by rw [y]; exact hA'))]; exact s _ _ q⟩
    · obtain ⟨⟨vs2, q⟩, n⟩ := e'.isl l2 h2
      refine ⟨?_, n⟩
      by_cases hne : l2 = l
      · subst hne; exact ⟨ws, upd_same⟩
      · exact ⟨vs2, by rw [upd_ne hne]; exact q⟩
    · have hne : b ≠ l := fun z2 => (e.isl l hl).2 (z2 ▸ hb)
      rw [upd_ne hne]
      exact e'.ishL b hb
theorem getP_nil {d : PyData} {ds : List PyData} (h : getP d [] = some ds) : d = .list ds := by
  cases d <;> first | (cases h; rfl) | cases h
end
end L2
namespace L2
open PySem PySem.Spec PyProof.Rows
variable [Reg]
inductive At5 {α : Type} (K : PySem.W.Frag) (O : Ow) (f : Rho → Option α) (σ : St) (H : Hp) (R : (Addr → Prop) → Hp → Rho → List Addr → α → Prop) : Prop
  | mk (hid : Addr → Prop) (H0 : Hp) (ρ : Rho) (ow : List Addr) (d : α) (E : EnvOk K O hid H0 σ H ρ ow) (hf : f ρ = some d) (k : R hid H0 ρ ow d) : At5 K O f σ H R
section
variable (K : PySem.W.Frag) (O : Ow)
noncomputable def tR (f : Rho → Option PyData) : TE := fun σ H Q => At5 K O f σ H fun hid H0 ρ ow d => ∀ v H', Same H H' → Den K (del H' hid) v d → Q v H'
noncomputable def tV (f : Rho → Option PyData) : TE := fun σ H Q => At5 K O f σ H fun hid H0 ρ ow d => ∀ v H', Same H H' → Den K (del H' (uni hid ow)) v d → Q v H'
noncomputable def tFr (f : Rho → Option (List PyData)) : TE := fun σ H Q => At5 K O f σ H fun hid H0 ρ ow ds => ∀ l vs H', Same H H' → H l = none → H' l = some (.lst vs) → DenL K (del H' (uni hid [l])) vs ds → Q (.ref l) H'
noncomputable def tFc (f : Rho → Option (List PyData)) : TE := fun σ H Q => At5 K O f σ H fun hid H0 ρ ow ds => ∀ l vs H', Same H H' → H l = none → H' l = some (.lst vs) → DenL K (del H' (uni hid (l :: ow))) vs ds → Q (.ref l) H'
noncomputable def tT (f : Rho → Option Bool) : TT := fun σ H Q => At5 K O f σ H fun hid H0 ρ ow b => ∀ H', Same H H' → Q b H'
noncomputable def tAR (f : Rho → Option (List PyData)) : TA := fun σ H Q => At5 K O f σ H fun hid H0 ρ ow ds => ∀ vs H', Same H H' → DenL K (del H' hid) vs ds → Q vs H'
noncomputable def tAV (f : Rho → Option (List PyData)) : TA := fun σ H Q => At5 K O f σ H fun hid H0 ρ ow ds => ∀ vs H', Same H H' → DenL K (del H' (uni hid ow)) vs ds → Q vs H'
end
noncomputable abbrev PR (X : Cx) (O : Ow) (e : Expr) (f : Rho → Option PyData) : Prop := PE X e (tR X.K O f)
noncomputable abbrev PV (X : Cx) (O : Ow) (e : Expr) (f : Rho → Option PyData) : Prop := PE X e (tV X.K O f)
noncomputable abbrev PFr (X : Cx) (O : Ow) (e : Expr) (f : Rho → Option (List PyData)) : Prop := PE X e (tFr X.K O f)
noncomputable abbrev PFc (X : Cx) (O : Ow) (e : Expr) (f : Rho → Option (List PyData)) : Prop := PE X e (tFc X.K O f)
noncomputable abbrev PTv (X : Cx) (O : Ow) (e : Expr) (f : Rho → Option Bool) : Prop := PT X e (tT X.K O f)
noncomputable abbrev PWv (X : Cx) (O : Ow) (e : Expr) (f : Rho → Option Bool) : Prop := PW X e (tT X.K O f)
noncomputable abbrev PAr (X : Cx) (O : Ow) (es : List Expr) (f : Rho → Option (List PyData)) : Prop := PA X es (tAR X.K O f)
noncomputable abbrev PAv (X : Cx) (O : Ow) (es : List Expr) (f : Rho → Option (List PyData)) : Prop := PA X es (tAV X.K O f)
theorem PE.imp {X : Cx} {e : Expr} {t t' : TE} (h : PE X e t) (hi : ∀ σ H Q, t' σ H Q → t σ H Q) : PE X e t' := fun pins s σ H Q I q => h pins s σ H Q I (hi σ H Q q)
theorem PT.imp {X : Cx} {e : Expr} {t t' : TT} (h : PT X e t) (hi : ∀ σ H Q, t' σ H Q → t σ H Q) : PT X e t' := fun pins s σ H Q I q => h pins s σ H Q I (hi σ H Q q)
theorem PW.imp {X : Cx} {e : Expr} {t t' : TT} (h : PW X e t) (hi : ∀ σ H Q, t' σ H Q → t σ H Q) : PW X e t' := fun wh pins s σ H Q I q => h wh pins s σ H Q I (hi σ H Q q)
theorem PA.imp {X : Cx} {es : List Expr} {t t' : TA} (h : PA X es t) (hi : ∀ σ H Q, t' σ H Q → t σ H Q) : PA X es t' := fun pos pins s σ H Q I q => h pos pins s σ H Q I (hi σ H Q q)
theorem PS.imp {X : Cx} {st : Stmt} {t t' : TS} (h : PS X st t) (hi : ∀ D σ H, t' D σ H → t D σ H) : PS X st t' := fun pins s σ H D I q => h pins s σ H D I (hi D σ H q)
theorem PSs.imp {X : Cx} {st : List Stmt} {t t' : TS} (h : PSs X st t) (hi : ∀ D σ H, t' D σ H → t D σ H) : PSs X st t' := fun pins s σ H D I q => h pins s σ H D I (hi D σ H q)
theorem PG.imp {X : Cx} {tg : Expr} {t t' : TG} (h : PG X tg t) (hi : ∀ v σ H Q, t' v σ H Q → t v σ H Q) : PG X tg t' := fun pins s σ H v u Q I r q => h pins s σ H v u Q I r (hi v σ H Q q)
theorem PGs.imp {X : Cx} {tg : List Expr} {t t' : TGs} (h : PGs X tg t) (hi : ∀ v σ H Q, t' v σ H Q → t v σ H Q) : PGs X tg t' := fun pins s σ H v u Q I r q => h pins s σ H v u Q I r (hi v σ H Q q)
theorem PI.imp {X : Cx} {tg iter : Expr} {t t' : TI} (h : PI X tg iter t) (hi : ∀ σ H R, t' σ H R → t σ H R) : PI X tg iter t' := fun pins s σ H R I q => h pins s σ H R I (hi σ H R q)
noncomputable def boolD : PyData → Option Bool
  | .bool b => some b
  | _ => none
noncomputable def listD : PyData → Option (List PyData)
  | .list ds => some ds
  | _ => none
noncomputable def tupD : PyData → Option (List PyData)
  | .tuple ds => some ds
  | _ => none
noncomputable def bind2 (a b : Option PyData) (g : PyData → PyData → Option PyData) : Option PyData := a.bind fun x => b.bind fun y => g x y
inductive Bnd2 (a b : Option PyData) (g : PyData → PyData → Option PyData) (r : PyData) : Prop
  | mk (x y : PyData) (h1 : a = some x) (h2 : b = some y) (h3 : g x y = some r) : Bnd2 a b g r
inductive Bnd {α β : Type} (a : Option α) (g : α → Option β) (r : β) : Prop
  | mk (x : α) (h1 : a = some x) (h2 : g x = some r) : Bnd a g r
inductive Mpd {α β : Type} (a : Option α) (g : α → β) (r : β) : Prop
  | mk (x : α) (h1 : a = some x) (h2 : g x = r) : Mpd a g r
theorem bind2_some {a b : Option PyData} {g : PyData → PyData → Option PyData} {r : PyData} (h : bind2 a b g = some r) : Bnd2 a b g r := by
  unfold bind2 at h
  cases a with
  | none => cases h
  | some x =>
    cases b with
    | none => cases h
    | some y => exact ⟨x, y, rfl, rfl, h⟩
noncomputable def consD (x : Option PyData) (r : Option (List PyData)) : Option (List PyData) := x.bind fun d => r.map (d :: ·)
noncomputable def testD (x : Option PyData) : Option Bool := x.bind boolD
noncomputable def condO {α : Type} (c : Option Bool) (a b : Option α) : Option α := c.bind fun k => if k = true then a else b
noncomputable def andB (x y : Option Bool) : Option Bool := x.bind fun c => if c = true then y else some false
noncomputable def orB (x y : Option Bool) : Option Bool := x.bind fun c => if c = true then some true else y
noncomputable def andV (x y : Option PyData) : Option PyData := (x.bind boolD).bind fun c => if c = true then y else some (.bool false)
noncomputable def orV (x y : Option PyData) : Option PyData := (x.bind boolD).bind fun c => if c = true then some (.bool true) else y
noncomputable def notV (x : Option PyData) : Option PyData := (x.bind boolD).map fun c => .bool (!c)
theorem bind_some {α β : Type} {a : Option α} {g : α → Option β} {r : β} (h : a.bind g = some r) : Bnd a g r := by
  cases a with
  | none => cases h
  | some x => exact ⟨x, rfl, h⟩
theorem map_some {α β : Type} {a : Option α} {g : α → β} {r : β} (h : a.map g = some r) : Mpd a g r := by
  cases a with
  | none => cases h
  | some x => exact ⟨x, rfl, Option.some.inj h⟩
section
variable {X : Cx} {O : Ow} {e a b c : Expr} {f fa fb fc : Rho → Option PyData} {pos : Pos}
theorem PV.r (h : PV X O e f) : PR X O e f := h.imp fun σ H Q ⟨hid, H0, ρ, ow, d, E, hf, k⟩ => ⟨hid, H0, ρ, ow, d, E, hf, fun v H' s D => k v H' s (D.mono (del_uni _ _ _))⟩
theorem PR.cl0 (h : PR X O e f) (h0 : O.s = [] := by rfl) : PV X O e f := h.imp fun σ H Q ⟨hid, H0, ρ, ow, d, E, hf, k⟩ => ⟨hid, H0, ρ, ow, d, E, hf, fun v H' s D => k v H' s (by rw [E.emp h0, uni_nil]; exact D)⟩
theorem PR.clf (h : PR X O e f) : PV X O e (fun ρ => (f ρ).filter lf) := h.imp fun σ H Q zpat => by
  obtain ⟨hid, H0, ρ, ow, d, E, hf, k⟩ := zpat
  refine L2.o_A (Option.filter_eq_some_iff.mp hf) fun h1 h2 => ?_
  exact ⟨hid, H0, ρ, ow, d, E, h1, fun v H' s D => k v H' s (D.clean (E.mono s).lists h2)⟩
theorem PFr.r {f : Rho → Option (List PyData)} (h : PFr X O e f) : PR X O e (fun ρ => (f ρ).map .list) := h.imp fun σ H Q zpat => by
  obtain ⟨hid, H0, ρ, ow, d, E, hf, k⟩ := zpat
  obtain ⟨ds, h1, rfl⟩ := map_some hf
  exact ⟨hid, H0, ρ, ow, ds, E, h1, fun l vs H' s n q D => k (.ref l) H' s (.lst (SqL.of (by rw [del_out fun z => E.fresh n (.inl z)]; exact q)) (D.mono (del_uni _ _ _)))⟩
theorem PFc.v {f : Rho → Option (List PyData)} (h : PFc X O e f) : PV X O e (fun ρ => (f ρ).map .list) := h.imp fun σ H Q zpat => by
  obtain ⟨hid, H0, ρ, ow, d, E, hf, k⟩ := zpat
  obtain ⟨ds, h1, rfl⟩ := map_some hf
  refine ⟨hid, H0, ρ, ow, ds, E, h1, fun l vs H' s n q D => k (.ref l) H' s (.lst (SqL.of ?_) (D.mono (del_sub fun b z => by rcases z with z | z; exact .inl z; exact .inr (List.mem_cons_of_mem _ z))))⟩
  rw [del_out (E.fresh n)]
  exact q
theorem PFr.cz {f : Rho → Option (List PyData)} (h : PFr X O e f) (h0 : O.s = [] := by rfl) : PFc X O e f := h.imp fun σ H Q ⟨hid, H0, ρ, ow, d, E, hf, k⟩ => ⟨hid, H0, ρ, ow, d, E, hf, fun l vs H' s n q D => k l vs H' s n q (by rw [E.emp h0]; exact D)⟩
theorem join_some {ρ : Rho} {i : Nat} {d : PyData} (h : (ρ[i]?).join = some d) : ρ[i]? = some (some d) := by
  cases q : ρ[i]? with
  | none => rw [q] at h; cases h
  | some x => rw [q] at h; exact congrArg some h
theorem pr_name {i : Nat} (h : PE X e (tVar i)) : PR X O e (fun ρ => (ρ[i]?).join) := h.imp fun σ H Q zpat => by
  obtain ⟨hid, H0, ρ, ow, d, E, hf, k⟩ := zpat
  refine L2.o_EA (E.raw (join_some hf)) fun v h1 h2 => ?_
  exact ⟨v, h1, k v H (Same.refl H) h2⟩
theorem pv_name {i : Nat} (h : PE X e (tVar i)) (hi : O.s.lookup i = none := by rfl) : PV X O e (fun ρ => (ρ[i]?).join) := h.imp fun σ H Q zpat => by
  obtain ⟨hid, H0, ρ, ow, d, E, hf, k⟩ := zpat
  refine L2.o_EA (E.val i d hi (join_some hf)) fun v h1 h2 => ?_
  exact ⟨v, h1, k v H (Same.refl H) h2⟩
theorem pv_c {v : V} {d : PyData} (h : PE X e (tC v)) (s : Sc v d) : PV X O e (fun _ => some d) := h.imp fun σ H Q zpat => by
  obtain ⟨hid, H0, ρ, ow, d', E, hf, k⟩ := zpat
  cases hf
  exact k v H (Same.refl H) s.den
theorem pv_int {i : Int} {j : Nat} : PV X O (.Constant (.int i) j pos) (fun _ => some (.int i)) := pv_c pe_int (.int i)
theorem pv_bl {i : Bool} {j : Nat} : PV X O (.Constant (.bool i) j pos) (fun _ => some (.bool i)) := pv_c pe_bl (.bl i)
theorem pv_non {j : Nat} : PV X O (.Constant .none j pos) (fun _ => some .none) := pv_c pe_non .non
theorem pv_str {x : Str} {j : Nat} : PV X O (.Constant (.str x) j pos) (fun _ => some (.str x)) := pv_c pe_str (.str x)
noncomputable def SpecOp (K : PySem.W.Frag) (rd : R2) (g : PyData → PyData → Option PyData) : Prop := ∀ x y H d e r Q, Den K H x d → Den K H y e → g d e = some r → (∀ v, Sc v r → Q v H) → rd x y H Q
noncomputable def SpecOpR (K : PySem.W.Frag) (rd : R2) (g : PyData → PyData → Option PyData) : Prop := ∀ x y H G d e r Q, Same G H → Den K G x d → Den K G y e → g d e = some r → (∀ v, Den K G v r → Q v H) → rd x y H Q
theorem tOp_imp {K : PySem.W.Frag} {rd : R2} {g : PyData → PyData → Option PyData} (hg : SpecOp K rd g) : ∀ σ H Q, tV K O (fun ρ => bind2 (fa ρ) (fb ρ) g) σ H Q → tOp rd (tR K O fa) (tR K O fb) σ H Q := fun σ H Q zpat => by
  obtain ⟨hid, H0, ρ, ow, r, E, hf, k⟩ := zpat
  obtain ⟨d, e, h1, h2, h3⟩ := bind2_some hf
  exact ⟨hid, H0, ρ, ow, d, E, h1, fun x H1 s1 D1 => ⟨hid, H0, ρ, ow, e, E.mono s1, h2, fun y H2 s2 D2 => hg x y H2 d e r Q ((D1.mono (del_mono s2 _)).mono (del_same _ _)) (D2.mono (del_same _ _)) h3 fun v S => k v H2 (s1.trans s2) S.den⟩⟩
theorem tOp_impR {K : PySem.W.Frag} {rd : R2} {g : PyData → PyData → Option PyData} (hg : SpecOpR K rd g) : ∀ σ H Q, tR K O (fun ρ => bind2 (fa ρ) (fb ρ) g) σ H Q → tOp rd (tR K O fa) (tR K O fb) σ H Q := fun σ H Q zpat => by
  obtain ⟨hid, H0, ρ, ow, r, E, hf, k⟩ := zpat
  obtain ⟨d, e, h1, h2, h3⟩ := bind2_some hf
  exact ⟨hid, H0, ρ, ow, d, E, h1, fun x H1 s1 D1 => ⟨hid, H0, ρ, ow, e, E.mono s1, h2, fun y H2 s2 D2 => hg x y H2 _ d e r Q (del_same _ hid) (D1.mono (del_mono s2 _)) D2 h3 fun v S => k v H2 (s1.trans s2) S⟩⟩
noncomputable def int2 (h : Int → Int → PyData) : PyData → PyData → Option PyData
  | .int i, .int j => some (h i j)
  | _, _ => none
noncomputable def int2C (c : Int → Int → Bool) (h : Int → Int → PyData) : PyData → PyData → Option PyData
  | .int i, .int j => if c i j = true then some (h i j) else none
  | _, _ => none
theorem int2_some {h : Int → Int → PyData} {d e r : PyData} (q : int2 h d e = some r) : ∃ i j, d = .int i ∧ e = .int j ∧ r = h i j := by
  unfold int2 at q
  split at q
  · exact L2.i_EEAA (_) (_) (rfl) (rfl) ((Option.some.inj q).symm)
  · cases q
theorem int2C_some {c : Int → Int → Bool} {h : Int → Int → PyData} {d e r : PyData} (q : int2C c h d e = some r) : ∃ i j, d = .int i ∧ e = .int j ∧ c i j = true ∧ r = h i j := by
  unfold int2C at q
  split at q
  · rename_i i j
    by_cases hc : c i j = true
    · rw [if_pos hc] at q
      exact L2.i_EEAAA (i) (j) (rfl) (rfl) (hc) ((Option.some.inj q).symm)
    · rw [if_neg hc] at q; cases q
  · cases q
theorem spI0 {K : PySem.W.Frag} {g : Int → Int → V} {h : Int → Int → PyData} (hs : ∀ i j, Sc (g i j) (h i j)) : SpecOp K (rI0 g) (int2 h) := fun x y H d e r Q D1 D2 q k => by
  refine L2.o_EEAA (int2_some q) fun i j zq2 zq3 zq4 => ?_
  subst zq2
  subst zq3
  subst zq4
  exact L2.i_EEAA (i) (j) (den_int D1) (den_int D2) (k _ (hs i j))
theorem spI {K : PySem.W.Frag} {C : Int → Int → Prop} {c : Int → Int → Bool} {g : Int → Int → V} {h : Int → Int → PyData} (hs : ∀ i j, Sc (g i j) (h i j)) (hc : ∀ i j, c i j = true → C i j) : SpecOp K (rI C g) (int2C c h) := fun x y H d e r Q D1 D2 q k => by
  refine L2.o_EEAAA (int2C_some q) fun i j zq2 zq3 hcc zq5 => ?_
  subst zq2
  subst zq3
  subst zq5
  exact L2.i_EEAAA (i) (j) (den_int D1) (den_int D2) (hc i j hcc) (k _ (hs i j))
noncomputable def isBig (i : Int) : Bool := decide (i.natAbs < big)
noncomputable def addD := int2 fun i j => .int (i + j)
noncomputable def subD := int2 fun i j => .int (i - j)
noncomputable def isS (i : Int) : Bool := decide (i.natAbs < 2 ^ 63)
noncomputable def mulD := int2C (fun i j => (isBig i && isBig j) || (isS i || isS j)) fun i j => .int (i * j)
noncomputable def fdivD := int2C (fun _ j => decide (j ≠ 0) && isBig j) fun i j => .int (i.fdiv j)
noncomputable def modD := int2C (fun _ j => decide (j ≠ 0)) fun i j => .int (i.fmod j)
noncomputable def powD := int2C (fun i j => decide (0 ≤ j) && decide (j ≤ 1000000) && decide (i.natAbs < 2 ^ 64)) fun i j => .int (i ^ j.toNat)
noncomputable def ltD := int2 fun i j => .bool (decide (i < j))
noncomputable def leD := int2 fun i j => .bool (decide (i ≤ j))
noncomputable def gtD := int2 fun i j => .bool (decide (j < i))
noncomputable def geD := int2 fun i j => .bool (decide (j ≤ i))
noncomputable def eqD (d e : PyData) : Option PyData := if (SeqAt.shaped d && SeqAt.shaped e) = true then some (.bool (PyData.eqv d e)) else none
noncomputable def neD (d e : PyData) : Option PyData := if (SeqAt.shaped d && SeqAt.shaped e) = true then some (.bool (!PyData.eqv d e)) else none
theorem sp_eq {K : PySem.W.Frag} : SpecOp K (rEqD K) eqD := fun x y H d e r Q D1 D2 q k => by
  unfold eqD at q
  split at q
  · rename_i h
    rw [Bool.and_eq_true] at h
    cases q
    exact L2.i_EEAAAA (d) (e) (D1) (D2) (h.1) (h.2) (k _ (.bl _))
  · cases q
theorem sp_ne {K : PySem.W.Frag} : SpecOp K (rNeD K) neD := fun x y H d e r Q D1 D2 q k => by
  unfold neD at q
  split at q
  · rename_i h
    rw [Bool.and_eq_true] at h
    cases q
    exact L2.i_EEAAAA (d) (e) (D1) (D2) (h.1) (h.2) (k _ (.bl _))
  · cases q
theorem v_add (ha : PR X O a fa) (hb : PR X O b fb) : PV X O (.BinOp a .Add b pos) (fun ρ => bind2 (fa ρ) (fb ρ) addD) := (pe_op op_add ha hb).imp (tOp_imp (spI0 fun _ _ => .int _))
theorem v_sub (ha : PR X O a fa) (hb : PR X O b fb) : PV X O (.BinOp a .Sub b pos) (fun ρ => bind2 (fa ρ) (fb ρ) subD) := (pe_op op_sub ha hb).imp (tOp_imp (spI0 fun _ _ => .int _))
theorem v_mul (ha : PR X O a fa) (hb : PR X O b fb) : PV X O (.BinOp a .Mult b pos) (fun ρ => bind2 (fa ρ) (fb ρ) mulD) := (pe_op op_mulB ha hb).imp (tOp_imp (spI (fun _ _ => .int _) fun i j h => by
  rw [Bool.or_eq_true, Bool.or_eq_true, Bool.and_eq_true] at h
  rcases h with h | h | h
  · exact .inl ⟨of_decide_eq_true h.1, of_decide_eq_true h.2⟩
  · have := of_decide_eq_true h
    exact .inr (.inl (by omega))
  · have := of_decide_eq_true h
    exact .inr (.inr (by omega))))
theorem v_fdiv (ha : PR X O a fa) (hb : PR X O b fb) : PV X O (.BinOp a .FloorDiv b pos) (fun ρ => bind2 (fa ρ) (fb ρ) fdivD) := (pe_op op_fdivB ha hb).imp (tOp_imp (spI (fun _ _ => .int _) fun i j h => by
  rw [Bool.and_eq_true] at h; exact ⟨of_decide_eq_true h.1, of_decide_eq_true h.2⟩))
theorem v_mod (ha : PR X O a fa) (hb : PR X O b fb) : PV X O (.BinOp a .Mod b pos) (fun ρ => bind2 (fa ρ) (fb ρ) modD) := (pe_op op_modN ha hb).imp (tOp_imp (spI (fun _ _ => .int _) fun i j h => of_decide_eq_true h))
theorem v_pow (ha : PR X O a fa) (hb : PR X O b fb) : PV X O (.BinOp a .Pow b pos) (fun ρ => bind2 (fa ρ) (fb ρ) powD) := (pe_op op_pow ha hb).imp (tOp_imp (spI (fun _ _ => .int _) fun i j h => by
  rw [Bool.and_eq_true, Bool.and_eq_true] at h; exact ⟨of_decide_eq_true h.1.1, of_decide_eq_true h.1.2, of_decide_eq_true h.2⟩))
structure CmpD (X : Cx) (op : CmpOp) (g : PyData → PyData → Option PyData) : Prop where
  ex : ∃ rd, OpR X (compareOp op) rd ∧ SpecOp X.K rd g
theorem c_lt : CmpD X .Lt ltD := ⟨_, op_lt, spI0 fun _ _ => .bl _⟩
theorem c_gt : CmpD X .Gt gtD := ⟨_, op_gt, spI0 fun _ _ => .bl _⟩
theorem c_ge : CmpD X .GtE geD := ⟨_, op_ge, spI0 fun _ _ => .bl _⟩
theorem c_eq (hu : X.A.units + 64 < cLine) : CmpD X .Eq eqD := ⟨_, op_eqD hu, sp_eq⟩
theorem c_ne (hu : X.A.units + 64 < cLine) : CmpD X .NotEq neD := ⟨_, op_neD hu, sp_ne⟩
theorem v_cmp {op : CmpOp} {g : PyData → PyData → Option PyData} (C : CmpD X op g) (ha : PR X O a fa) (hb : PR X O b fb) (h1 : op ≠ .In := by decide) (h2 : op ≠ .NotIn := by decide) : PV X O (.Compare a [op] [b] pos) (fun ρ => bind2 (fa ρ) (fb ρ) g) := by
  refine L2.o_EA (C.ex) fun rd ho hs => ?_
  exact (pe_cmpR ho ha hb (nomark b h1 h2)).imp (tOp_imp hs)
theorem boolD_some {d : PyData} {b : Bool} (h : boolD d = some b) : d = .bool b := by
  unfold boolD at h
  split at h
  · cases h; rfl
  · cases h
theorem t_cmp {op : CmpOp} {g : PyData → PyData → Option PyData} (C : CmpD X op g) (ha : PR X O a fa) (hb : PR X O b fb) (h1 : op ≠ .In := by decide) (h2 : op ≠ .NotIn := by decide) : PTv X O (.Compare a [op] [b] pos) (fun ρ => testD (bind2 (fa ρ) (fb ρ) g)) := by
  refine L2.o_EA (C.ex) fun rd ho hs => ?_
  refine (pt_cmpR ho ha hb (nomark b h1 h2)).imp fun σ H Q zpat => ?_
  obtain ⟨hid, H0, ρ, ow, k, E, hf, q⟩ := zpat
  obtain ⟨d, h3, h4⟩ := bind_some hf
  refine tOp_imp hs σ H _ ⟨hid, H0, ρ, ow, d, E, h3, fun v H' s D => ?_⟩
  rw [boolD_some h4] at D
  exact ⟨k, den_bl D, q H' s⟩
theorem t_val (h : PR X O e f) (he : ∀ whole, isTrue e X.env whole = (do let v ← whole; standAt e.pos; holding [v] (truthy v)) := by intro _; rfl) : PTv X O e (fun ρ => testD (f ρ)) :=
  (pt_val h he).imp fun σ H Q zpat => by
    obtain ⟨hid, H0, ρ, ow, k, E, hf, q⟩ := zpat
    obtain ⟨d, h3, h4⟩ := bind_some hf
    refine ⟨hid, H0, ρ, ow, d, E, h3, fun v H' s D => ?_⟩
    rw [boolD_some h4] at D
    exact ⟨k, den_bl D, q H' s⟩
variable {ga gb : Rho → Option Bool} {rest : List Expr}
theorem w_and1 (ha : PTv X O a ga) : PWv X O (.BoolOp .And [a] pos) ga := pw_and1 ha
theorem w_or1 (ha : PTv X O a ga) : PWv X O (.BoolOp .Or [a] pos) ga := pw_or1 ha
theorem w_and (ha : PTv X O a ga) (hb : PWv X O (.BoolOp .And (b :: rest) pos) gb) : PWv X O (.BoolOp .And (a :: b :: rest) pos) (fun ρ => andB (ga ρ) (gb ρ)) :=
  (pw_and ha hb).imp fun σ H Q zpat => by
    obtain ⟨hid, H0, ρ, ow, k, E, hf, q⟩ := zpat
    obtain ⟨c, h1, h2⟩ := bind_some hf
    refine ⟨hid, H0, ρ, ow, c, E, h1, fun H1 s1 => ?_⟩
    cases c with
    | true => rw [if_pos rfl] at h2 ⊢; exact ⟨hid, H0, ρ, ow, k, E.mono s1, h2, fun H2 s2 => q H2 (s1.trans s2)⟩
    | false => rw [if_neg Bool.false_ne_true] at h2 ⊢; cases h2; exact q H1 s1
theorem w_or (ha : PTv X O a ga) (hb : PWv X O (.BoolOp .Or (b :: rest) pos) gb) : PWv X O (.BoolOp .Or (a :: b :: rest) pos) (fun ρ => orB (ga ρ) (gb ρ)) :=
  (pw_or ha hb).imp fun σ H Q zpat => by
    obtain ⟨hid, H0, ρ, ow, k, E, hf, q⟩ := zpat
    obtain ⟨c, h1, h2⟩ := bind_some hf
    refine ⟨hid, H0, ρ, ow, c, E, h1, fun H1 s1 => ?_⟩
    cases c with
    | true => rw [if_pos rfl] at h2 ⊢; cases h2; exact q H1 s1
    | false => rw [if_neg Bool.false_ne_true] at h2 ⊢; exact ⟨hid, H0, ρ, ow, k, E.mono s1, h2, fun H2 s2 => q H2 (s1.trans s2)⟩
theorem t_w (h : PWv X O e ga) : PTv X O e ga := h.pt
theorem t_not (ha : PTv X O a ga) : PTv X O (.UnaryOp .Not a pos) (fun ρ => (ga ρ).map not) := (pt_not ha).imp fun σ H Q zpat => by
  obtain ⟨hid, H0, ρ, ow, k, E, hf, q⟩ := zpat
  obtain ⟨c, h1, h2⟩ := map_some hf
  subst h2
  exact ⟨hid, H0, ρ, ow, c, E, h1, fun H1 s1 => q H1 s1⟩
noncomputable def negD : PyData → Option PyData
  | .int i => some (.int (-i))
  | _ => none
theorem v_neg (ha : PR X O a fa) : PV X O (.UnaryOp .USub a pos) (fun ρ => (fa ρ).bind negD) := (pe_un un_neg ha).imp fun σ H Q zpat => by
  obtain ⟨hid, H0, ρ, ow, k, E, hf, q⟩ := zpat
  obtain ⟨d, h1, h2⟩ := bind_some hf
  unfold negD at h2
  split at h2
  · cases h2
    exact ⟨hid, H0, ρ, ow, _, E, h1, fun v H1 s1 D => ⟨_, den_int D, q _ H1 s1 (.int _)⟩⟩
  · cases h2
noncomputable def ixD : PyData → PyData → Option PyData
  | .list ds, .int i => atI ds i
  | .tuple ds, .int i => atI ds i
  | _, _ => none
theorem sp_ix {K : PySem.W.Frag} : SpecOpR K (fun x y H Q => rIxL K x y H Q ∨ rIxT K x y H Q) ixD := fun x y H G d e r Q s D1 D2 q k => by
  unfold ixD at q
  split at q
  · obtain ⟨p, vs, rfl, h1, h2⟩ := den_lst D1
    refine L2.o_EA (h2.atI q) fun v h3 h4 => ?_
    exact .inl ⟨p, vs, _, v, rfl, den_int D2, s.seq h1, h3, k v h4⟩
  · obtain ⟨p, vs, rfl, h1, h2⟩ := den_tup D1
    refine L2.o_EA (h2.atI q) fun v h3 h4 => ?_
    exact .inr ⟨p, vs, _, v, rfl, den_int D2, s.tup h1, h3, k v h4⟩
  · cases q
theorem r_ix (ha : PR X O a fa) (hb : PR X O b fb) (hs : PlainIx b := by intro _ _; rfl) : PR X O (.Subscript a b pos) (fun ρ => bind2 (fa ρ) (fb ρ) ixD) := (pe_ix (ix_list.or ix_tup) ha hb hs).imp (tOp_impR sp_ix)
variable {es : List Expr} {fs : Rho → Option (List PyData)}
theorem a_nil : PAr X O [] (fun _ => some []) := pa_nil.imp fun σ H Q ⟨hid, H0, ρ, ow, ds, E, hf, k⟩ => by cases hf; exact k [] H (Same.refl H) .nil
theorem a_cons (ha : PR X O a fa) (hr : PAr X O es fs) (hs : starEach (a :: es) X.env = (false, eval a X.env) :: starEach es X.env := by rfl) : PAr X O (a :: es) (fun ρ => consD (fa ρ) (fs ρ)) :=
  (pa_cons ha hr hs).imp fun σ H Q zpat => by
    obtain ⟨hid, H0, ρ, ow, ds, E, hf, k⟩ := zpat
    obtain ⟨d, h1, hf⟩ := bind_some hf
    obtain ⟨r, h2, rfl⟩ := map_some hf
    exact ⟨hid, H0, ρ, ow, d, E, h1, fun x H1 s1 D1 => ⟨hid, H0, ρ, ow, r, E.mono s1, h2, fun xs H2 s2 D2 => k (x :: xs) H2 (s1.trans s2) (.cons (D1.mono (del_mono s2 _)) D2)⟩⟩
theorem ac_nil : PAv X O [] (fun _ => some []) := pa_nil.imp fun σ H Q ⟨hid, H0, ρ, ow, ds, E, hf, k⟩ => by cases hf; exact k [] H (Same.refl H) .nil
theorem ac_cons (ha : PV X O a fa) (hr : PAv X O es fs) (hs : starEach (a :: es) X.env = (false, eval a X.env) :: starEach es X.env := by rfl) : PAv X O (a :: es) (fun ρ => consD (fa ρ) (fs ρ)) :=
  (pa_cons ha hr hs).imp fun σ H Q zpat => by
    obtain ⟨hid, H0, ρ, ow, ds, E, hf, k⟩ := zpat
    obtain ⟨d, h1, hf⟩ := bind_some hf
    obtain ⟨r, h2, rfl⟩ := map_some hf
    exact ⟨hid, H0, ρ, ow, d, E, h1, fun x H1 s1 D1 => ⟨hid, H0, ρ, ow, r, E.mono s1, h2, fun xs H2 s2 D2 => k (x :: xs) H2 (s1.trans s2) (.cons (D1.mono (del_mono s2 _)) D2)⟩⟩
theorem len_line {n : Nat} (h : decide (n ≤ 1000) = true) : n ≤ sizeLine := Nat.le_trans (of_decide_eq_true h) (by decide)
noncomputable def shortD (f : List PyData → PyData) (o : Option (List PyData)) : Option PyData := o.bind fun ds => if decide (ds.length ≤ 1000) = true then some (f ds) else none
theorem shortD_some {f : List PyData → PyData} {o : Option (List PyData)} {r : PyData} (h : shortD f o = some r) : ∃ ds, o = some ds ∧ ds.length ≤ sizeLine ∧ r = f ds := by
  obtain ⟨ds, h1, h2⟩ := bind_some h
  split at h2
  · rename_i hc
    exact ⟨ds, h1, len_line hc, (Option.some.inj h2).symm⟩
  · cases h2
theorem v_tup {x1} (h : PAv X O es fs) : PV X O (.Tuple es x1 pos) (fun ρ => shortD .tuple (fs ρ)) := (pe_tup h).imp fun σ H Q zpat => by
  obtain ⟨hid, H0, ρ, ow, r, E, hf, k⟩ := zpat
  refine L2.o_EAA (shortD_some hf) fun ds h1 h2 zq3 => ?_
  subst zq3
  refine ⟨hid, H0, ρ, ow, ds, E, h1, fun vs H1 s1 D1 => ⟨by rw [D1.length]; exact h2, fun p hp => ?_⟩⟩
  refine k _ _ (s1.trans (same_new hp)) (.tup (SqT.of ((E.mono s1).newAt hp)) (D1.mono (del_mono (same_new hp) _)))
theorem r_tup {x1} (h : PAr X O es fs) : PR X O (.Tuple es x1 pos) (fun ρ => shortD .tuple (fs ρ)) := (pe_tup h).imp fun σ H Q zpat => by
  obtain ⟨hid, H0, ρ, ow, r, E, hf, k⟩ := zpat
  refine L2.o_EAA (shortD_some hf) fun ds h1 h2 zq3 => ?_
  subst zq3
  refine ⟨hid, H0, ρ, ow, ds, E, h1, fun vs H1 s1 D1 => ⟨by rw [D1.length]; exact h2, fun p hp => ?_⟩⟩
  exact k _ _ (s1.trans (same_new hp)) (.tup (SqT.of ((E.mono s1).newAtR hp)) (D1.mono (del_mono (same_new hp) _)))
noncomputable def shortL (o : Option (List PyData)) : Option (List PyData) := o.bind fun ds => if decide (ds.length ≤ 1000) = true then some ds else none
theorem shortL_some {o : Option (List PyData)} {r : List PyData} (h : shortL o = some r) : o = some r ∧ r.length ≤ sizeLine := by
  obtain ⟨ds, h1, h2⟩ := bind_some h
  split at h2
  · rename_i hc
    cases h2
    exact ⟨h1, len_line hc⟩
  · cases h2
theorem fc_lst (h : PAv X O es fs) : PFc X O (.List es pos) (fun ρ => shortL (fs ρ)) := (pe_lst h).imp fun σ H Q zpat => by
  obtain ⟨hid, H0, ρ, ow, r, E, hf, k⟩ := zpat
  refine L2.o_A (shortL_some hf) fun h1 h2 => ?_
  refine ⟨hid, H0, ρ, ow, r, E, h1, fun vs H1 s1 D1 => ⟨by rw [D1.length]; exact h2, fun p hp => ?_⟩⟩
  exact k _ vs _ (s1.trans (same_new hp)) (s1.free hp) upd_same (D1.mono (del_new (same_new hp) hp fun b z => by rcases z with z | z; exact .inl (.inl z); rcases List.mem_cons.mp z with z | z; exact .inr z; exact .inl (.inr z)))
theorem fr_lst (h : PAr X O es fs) : PFr X O (.List es pos) (fun ρ => shortL (fs ρ)) := (pe_lst h).imp fun σ H Q zpat => by
  obtain ⟨hid, H0, ρ, ow, r, E, hf, k⟩ := zpat
  refine L2.o_A (shortL_some hf) fun h1 h2 => ?_
  refine ⟨hid, H0, ρ, ow, r, E, h1, fun vs H1 s1 D1 => ⟨by rw [D1.length]; exact h2, fun p hp => ?_⟩⟩
  exact k _ vs _ (s1.trans (same_new hp)) (s1.free hp) upd_same (D1.mono (del_new (same_new hp) hp fun b z => by rcases z with z | z; exact .inl z; exact .inr (by simpa using z)))
noncomputable def catL (x y : Option PyData) : Option (List PyData) := (x.bind listD).bind fun ds => (y.bind listD).bind fun es => if decide ((ds ++ es).length ≤ 1000) = true then some (ds ++ es) else none
theorem listD_some {d : PyData} {ds : List PyData} (h : listD d = some ds) : d = .list ds := by
  unfold listD at h
  split at h
  · cases h; rfl
  · cases h
theorem catL_some {x y : Option PyData} {r : List PyData} (h : catL x y = some r) : ∃ ds es, x = some (.list ds) ∧ y = some (.list es) ∧ r = ds ++ es ∧ ds.length + es.length ≤ sizeLine := by
  obtain ⟨ds, h1, h⟩ := bind_some h
  obtain ⟨es, h2, h⟩ := bind_some h
  obtain ⟨d, h3, h4⟩ := bind_some h1
  obtain ⟨e, h5, h6⟩ := bind_some h2
  rw [listD_some h4] at h3
  rw [listD_some h6] at h5
  split at h
  · rename_i hc
    cases h
    exact L2.i_EEAAA (ds) (es) (h3) (h5) (rfl) (by rw [← List.length_append]; exact len_line hc)
  · cases h
theorem fr_cat (ha : PR X O a fa) (hb : PR X O b fb) : PFr X O (.BinOp a .Add b pos) (fun ρ => catL (fa ρ) (fb ρ)) := (pe_op op_catS ha hb).imp fun σ H Q zpat => by
  obtain ⟨hid, H0, ρ, ow, r, E, hf, k⟩ := zpat
  refine L2.o_EEAAA (catL_some hf) fun ds es h1 h2 zq4 hl => ?_
  subst zq4
  refine ⟨hid, H0, ρ, ow, _, E, h1, fun x H1 s1 D1 => ⟨hid, H0, ρ, ow, _, E.mono s1, h2, fun y H2 s2 D2 => ?_⟩⟩
  obtain ⟨l, xs, rfl, q1, r1⟩ := den_lst D1
  obtain ⟨m, ys, rfl, q2, r2⟩ := den_lst D2
  refine L2.i_EEEEAAAAA (l) (m) (xs) (ys) (rfl) (rfl) (s2.seq ((del_same _ _).seq q1)) ((del_same _ _).seq q2) (by rw [r1.length, r2.length]; exact hl) (fun p hp => ?_)
  exact k _ _ _ ((s1.trans s2).trans (same_new hp)) ((s1.trans s2).free hp) upd_same (((r1.mono (del_mono s2 _)).append r2).mono (del_new (same_new hp) hp fun b z => by rcases z with z | z; exact .inl z; exact .inr (by simpa using z)))
noncomputable def spR (K : PySem.W.Frag) (T : Ty) (F : List PyData → Option PyData) : Sp := fun vs H Q _ => ∃ (hid : Addr → Prop) (ds : List PyData) (r : PyData), (∀ b, hid b → ∃ vs, H b = some (.lst vs)) ∧ DenL K (del H hid) vs ds ∧ F ds = some r ∧ ∀ v as H', Same H H' → (∀ p ∈ as, H p = none) → DenO K H' (del H' (uni hid as)) T v r as → Q v H'
noncomputable def tFt (K : PySem.W.Frag) (O : Ow) (T : Ty) (f : Rho → Option PyData) : TE := fun σ H Q => At5 K O f σ H fun hid H0 ρ ow d => ∀ v as H', Same H H' → (∀ p ∈ as, H p = none) → DenO K H' (del H' (uni hid (as ++ ow))) T v d as → Q v H'
noncomputable abbrev PFt (X : Cx) (O : Ow) (T : Ty) (e : Expr) (f : Rho → Option PyData) : Prop := PE X e (tFt X.K O T f)
theorem PFc.ft {f : Rho → Option (List PyData)} (h : PFc X O e f) : PFt X O (.lst .cl) e (fun ρ => (f ρ).map .list) := h.imp fun σ H Q zpat => by
  obtain ⟨hid, H0, ρ, ow, d, E, hf, k⟩ := zpat
  obtain ⟨ds, h1, rfl⟩ := map_some hf
  refine ⟨hid, H0, ρ, ow, ds, E, h1, fun l vs H' s n q D => k (.ref l) [l] H' s (fun p hp => by rw [List.mem_singleton.mp hp]; exact n) (.lst q D.os (by simp))⟩
theorem r_call {k : Nat} {g : Addr} {fd : FuncData} {ps : List Str} {x : Str} {p : Pos} {T : Ty} {F : List PyData → Option PyData} (G : FnOk X.prog X.w X.K X.mg X.base CX0 k g fd ps (spR X.K T F)) (hr : Room k X.A) (hg : Gl X x) (hm : X.mg x = some (.ref g)) (hk : PySem.W.keepIn X.K (.ref g) = true) (hb : Binds X.K fd ps [])
    (ha : PAr X O (a :: es) fs) (hdb : (x == ("__debug__" : Str)) = false := by decide) (he : starEach (a :: es) X.env = (false, eval a X.env) :: starEach es X.env := by rfl) (hpl : (backTo pos (starEach es X.env)).any (·.1) = false := by rfl) :
    PR X O (.Call (.Name x p) (a :: es) [] pos) (fun ρ => (fs ρ).bind F) :=
  (pe_call G hr hg hm hk hb .nil pass0 ha hdb he hpl).imp fun σ H Q zpat => by
    obtain ⟨hid, H0, ρ, ow, r, E, hf, q⟩ := zpat
    obtain ⟨ds, h1, h2⟩ := bind_some hf
    refine ⟨hid, H0, ρ, ow, ds, E, h1, fun vs H1 s1 D1 => ⟨hid, ds, r, (E.mono s1).ishL, by rw [List.append_nil]; exact D1, h2, fun v as H2 s2 n2 D2 => q v H2 (s1.trans s2) ?_⟩⟩
    exact D2.raw (del_uni _ _ _) fun p hp o e => by rw [del_out fun z => (E.mono s1).ish p z (n2 p hp)]; exact e
theorem v_call {k : Nat} {g : Addr} {fd : FuncData} {ps : List Str} {x : Str} {p : Pos} {T : Ty} {F : List PyData → Option PyData} (G : FnOk X.prog X.w X.K X.mg X.base CX0 k g fd ps (spR X.K T F)) (hr : Room k X.A) (hg : Gl X x) (hm : X.mg x = some (.ref g)) (hk : PySem.W.keepIn X.K (.ref g) = true) (hb : Binds X.K fd ps [])
    (ha : PAv X O (a :: es) fs) (hdb : (x == ("__debug__" : Str)) = false := by decide) (he : starEach (a :: es) X.env = (false, eval a X.env) :: starEach es X.env := by rfl) (hpl : (backTo pos (starEach es X.env)).any (·.1) = false := by rfl) :
    PV X O (.Call (.Name x p) (a :: es) [] pos) (fun ρ => (fs ρ).bind F) :=
  (pe_call G hr hg hm hk hb .nil pass0 ha hdb he hpl).imp fun σ H Q zpat => by
    obtain ⟨hid, H0, ρ, ow, r, E, hf, q⟩ := zpat
    obtain ⟨ds, h1, h2⟩ := bind_some hf
    refine ⟨hid, H0, ρ, ow, ds, E, h1, fun vs H1 s1 D1 => ⟨uni hid ow, ds, r, (E.mono s1).uniL, by rw [List.append_nil]; exact D1, h2, fun v as H2 s2 n2 D2 => q v H2 (s1.trans s2) ?_⟩⟩
    exact D2.raw (del_uni _ _ _) fun p hp o e => by rw [del_out fun z => (E.mono s1).fresh (n2 p hp) z]; exact e
noncomputable def tRt (K : PySem.W.Frag) (O : Ow) (U : List Nat) (T : Ty) (f : Rho → Option PyData) : TE := fun σ H Q => ∃ hid H0 ρ ow d A, EnvOk K O hid H0 σ H ρ ow ∧ OwnA K O hid σ H ρ ow A ∧ f ρ = some d ∧ ∀ v as H', Same H H' → (∀ p ∈ as, H p = none ∨ ∃ i ∈ U, p ∈ A i) → DenO K H' (del H' (uni hid (as ++ ow))) T v d as → Q v H'
noncomputable def tRa (K : PySem.W.Frag) (O : Ow) (U : List Nat) (Ts : List Ty) (f : Rho → Option (List PyData)) : TA := fun σ H Q => ∃ hid H0 ρ ow ds A, EnvOk K O hid H0 σ H ρ ow ∧ OwnA K O hid σ H ρ ow A ∧ f ρ = some ds ∧ ∀ vs as H', Same H H' → (∀ p ∈ as, H p = none ∨ ∃ i ∈ U, p ∈ A i) → DenOp K H' (del H' (uni hid (as ++ ow))) Ts vs ds as → Q vs H'
noncomputable abbrev PRt (X : Cx) (O : Ow) (U : List Nat) (T : Ty) (e : Expr) (f : Rho → Option PyData) : Prop := PE X e (tRt X.K O U T f)
noncomputable abbrev PRa (X : Cx) (O : Ow) (U : List Nat) (Ts : List Ty) (es : List Expr) (f : Rho → Option (List PyData)) : Prop := PA X es (tRa X.K O U Ts f)
variable {T : Ty} {Ts : List Ty} {U U' : List Nat}
noncomputable def SpecCall (K : PySem.W.Frag) (r : List V → Hp → VK → Prop) (g : List PyData → Option PyData) : Prop := ∀ xs H ds d Q, DenL K H xs ds → g ds = some d → (∀ v, Sc v d → Q v H) → r xs H Q
structure CallD (X : Cx) (u : Value) (g : List PyData → Option PyData) : Prop where
  ex : ∃ r, CallR X u r ∧ SpecCall X.K r g
theorem v_callB {x : Str} {p : Pos} {id : String} {g : List PyData → Option PyData} (C : CallD X (.builtin id) g) (hg : Gl X x) (hm : X.mg x = none) (hv : bootBuiltins x = some (.builtin id)) (ha : PAr X O (a :: es) fs) (hn : x ≠ "__name__" := by decide) (hdb : (x == ("__debug__" : Str)) = false := by decide)
    (he : starEach (a :: es) X.env = (false, eval a X.env) :: starEach es X.env := by rfl) (hpl : (backTo pos (starEach es X.env)).any (·.1) = false := by rfl) : PV X O (.Call (.Name x p) (a :: es) [] pos) (fun ρ => (fs ρ).bind g) := by
  refine L2.o_EA (C.ex) fun r hc hs => ?_
  refine (pe_callB hc hg hm hv ha hn hdb he hpl).imp fun σ H Q zpat => ?_
  obtain ⟨hid, H0, ρ, ow, d, E, hf, q⟩ := zpat
  obtain ⟨ds, h1, h2⟩ := bind_some hf
  exact ⟨hid, H0, ρ, ow, ds, E, h1, fun vs H1 s1 D1 => hs vs H1 ds d Q (D1.mono (del_same _ _)) h2 fun v S => q v H1 s1 S.den⟩
theorem v_callT {x : Str} {p : Pos} {T : String} {g : List PyData → Option PyData} (C : CallD X (.type T) g) (hg : Gl X x) (hm : X.mg x = none) (hv : bootBuiltins x = some (.type T)) (ha : PAr X O (a :: es) fs) (hn : x ≠ "__name__" := by decide) (hdb : (x == ("__debug__" : Str)) = false := by decide)
    (he : starEach (a :: es) X.env = (false, eval a X.env) :: starEach es X.env := by rfl) (hpl : (backTo pos (starEach es X.env)).any (·.1) = false := by rfl) : PV X O (.Call (.Name x p) (a :: es) [] pos) (fun ρ => (fs ρ).bind g) := by
  refine L2.o_EA (C.ex) fun r hc hs => ?_
  refine (pe_callTy hc hg hm hv ha hn hdb he hpl).imp fun σ H Q zpat => ?_
  obtain ⟨hid, H0, ρ, ow, d, E, hf, q⟩ := zpat
  obtain ⟨ds, h1, h2⟩ := bind_some hf
  exact ⟨hid, H0, ρ, ow, ds, E, h1, fun vs H1 s1 D1 => hs vs H1 ds d Q (D1.mono (del_same _ _)) h2 fun v S => q v H1 s1 S.den⟩
noncomputable def absD : List PyData → Option PyData
  | [.int i] => some (.int (if i < 0 then -i else i))
  | _ => none
noncomputable def lenD : List PyData → Option PyData
  | [.list ds] => some (.int ds.length)
  | [.tuple ds] => some (.int ds.length)
  | _ => none
noncomputable def maxD : List PyData → Option PyData
  | [.int i, .int j] => some (.int (if j > i then j else i))
  | _ => none
noncomputable def minD : List PyData → Option PyData
  | [.int i, .int j] => some (.int (if j < i then j else i))
  | _ => none
noncomputable def intD : List PyData → Option PyData
  | [.int i] => some (.int i)
  | [.bool b] => some (.int (if b then 1 else 0))
  | _ => none
theorem one_den {K : PySem.W.Frag} {H : Hp} {vs : List V} {d : PyData} (h : DenL K H vs [d]) : ∃ v, vs = [v] ∧ Den K H v d := by
  refine L2.o_EEAA (denl_cons h) fun v ws zq2 h1 h2 => ?_
  subst zq2
  rw [denl_nil h2]
  exact ⟨v, rfl, h1⟩
theorem two_den {K : PySem.W.Frag} {H : Hp} {vs : List V} {d e : PyData} (h : DenL K H vs [d, e]) : ∃ v w, vs = [v, w] ∧ Den K H v d ∧ Den K H w e := by
  refine L2.o_EEAA (denl_cons h) fun v ws zq2 h1 h2 => ?_
  subst zq2
  refine L2.o_EA (one_den h2) fun w zq1 h3 => ?_
  subst zq1
  exact L2.i_EEAA (v) (w) (rfl) (h1) (h3)
theorem b_abs : CallD X (.builtin "abs") absD := ⟨_, call_abs, fun xs H ds d Q D h k => by
  unfold absD at h
  split at h
  · refine L2.o_EA (one_den D) fun v zq1 D1 => ?_
    subst zq1
    cases h
    exact ⟨_, by rw [den_int D1], k _ (.int _)⟩
  · cases h⟩
theorem b_len : CallD X (.builtin "len") lenD := ⟨_, call_len_seq, fun xs H ds d Q D h k => by
  unfold lenD at h
  split at h
  · refine L2.o_EA (one_den D) fun v zq1 D1 => ?_
    subst zq1
    obtain ⟨p, vs, rfl, q, r⟩ := den_lst D1
    cases h
    exact L2.i_EEAA (p) (vs) (rfl) (.inl q) (by rw [r.length]; exact k _ (.int _))
  · refine L2.o_EA (one_den D) fun v zq1 D1 => ?_
    subst zq1
    obtain ⟨p, vs, rfl, q, r⟩ := den_tup D1
    cases h
    exact L2.i_EEAA (p) (vs) (rfl) (.inr q) (by rw [r.length]; exact k _ (.int _))
  · cases h⟩
theorem b_max (hc : X.calm = true) : CallD X (.builtin "max") maxD := ⟨_, call_max2 hc, fun xs H ds d Q D h k => by
  unfold maxD at h
  split at h
  · refine L2.o_EEAA (two_den D) fun v w zq2 D1 D2 => ?_
    subst zq2
    cases h
    exact L2.i_EEA (_) (_) (by rw [den_int D1, den_int D2]) (k _ (.int _))
  · cases h⟩
theorem b_min (hc : X.calm = true) : CallD X (.builtin "min") minD := ⟨_, call_min2 hc, fun xs H ds d Q D h k => by
  unfold minD at h
  split at h
  · refine L2.o_EEAA (two_den D) fun v w zq2 D1 D2 => ?_
    subst zq2
    cases h
    exact L2.i_EEA (_) (_) (by rw [den_int D1, den_int D2]) (k _ (.int _))
  · cases h⟩
theorem b_int : CallD X (.type "int") intD := ⟨_, call_int1, fun xs H ds d Q D h k => by
  unfold intD at h
  split at h
  · refine L2.o_EA (one_den D) fun v zq1 D1 => ?_
    subst zq1
    cases h
    exact .inl ⟨_, by rw [den_int D1], k _ (.int _)⟩
  · refine L2.o_EA (one_den D) fun v zq1 D1 => ?_
    subst zq1
    cases h
    exact .inr ⟨_, by rw [den_bl D1], k _ (.int _)⟩
  · cases h⟩
noncomputable def seqD : PyData → Option (List PyData)
  | .list ds => some ds
  | .tuple ds => some ds
  | _ => none
end
end L2
namespace L2
open PySem PySem.Spec PyProof.Rows
variable [Reg]
inductive TGi (K : PySem.W.Frag) (O : Ow) (S : PyData → Rho → Option Rho) (v : V) (σ : St) (H : Hp) (Q : St → Hp → Prop) : Prop
  | mk (hid : Addr → Prop) (H0 : Hp) (ρ : Rho) (ow : List Addr) (d : PyData) (ρ' : Rho) (E : EnvOk K O hid H0 σ H ρ ow) (D : Den K (del H (uni hid ow)) v d) (hs : S d ρ = some ρ') (k : ∀ σ', EnvOk K O hid H0 σ' H ρ' ow → Q σ' H) : TGi K O S v σ H Q
noncomputable def tG (K : PySem.W.Frag) (O : Ow) (S : PyData → Rho → Option Rho) : TG := fun v σ H Q => TGi K O S v σ H Q
inductive TGsi (K : PySem.W.Frag) (O : Ow) (S : List PyData → Rho → Option Rho) (vs : List V) (σ : St) (H : Hp) (Q : St → Hp → Prop) : Prop
  | mk (hid : Addr → Prop) (H0 : Hp) (ρ : Rho) (ow : List Addr) (ds : List PyData) (ρ' : Rho) (E : EnvOk K O hid H0 σ H ρ ow) (D : DenL K (del H (uni hid ow)) vs ds) (hs : S ds ρ = some ρ') (k : ∀ σ', EnvOk K O hid H0 σ' H ρ' ow → Q σ' H) : TGsi K O S vs σ H Q
noncomputable def tGs (K : PySem.W.Frag) (O : Ow) (S : List PyData → Rho → Option Rho) : TGs := fun vs σ H Q => TGsi K O S vs σ H Q
noncomputable abbrev PGv (X : Cx) (O : Ow) (tg : Expr) (S : PyData → Rho → Option Rho) : Prop := PG X tg (tG X.K O S)
noncomputable abbrev PGsv (X : Cx) (O : Ow) (tg : List Expr) (S : List PyData → Rho → Option Rho) : Prop := PGs X tg (tGs X.K O S)
noncomputable def setS (i : Nat) (d : PyData) (ρ : Rho) : Option Rho := some (ρ.set i (some d))
noncomputable def consS (S : PyData → Rho → Option Rho) (T : List PyData → Rho → Option Rho) : List PyData → Rho → Option Rho
  | d :: r, ρ => (S d ρ).bind (T r)
  | [], _ => none
noncomputable def nilS : List PyData → Rho → Option Rho
  | [], ρ => some ρ
  | _ :: _, _ => none
noncomputable def tupS (n : Nat) (T : List PyData → Rho → Option Rho) : PyData → Rho → Option Rho
  | .tuple ds, ρ => if ds.length = n then T ds ρ else none
  | _, _ => none
section
variable {X : Cx} {O : Ow} {pos : Pos}
theorem g_name {i : Nat} {x : Str} (hN : X.N.Nodup) (hi : X.N[i]? = some x) (hx : Loc X.env.scope x) (hO : O.s.lookup i = none := by rfl) (hf : X.fn x = true ∨ X.env.scope.names.lookup x = some .local := by first | exact .inl rfl | exact .inr rfl | assumption) : PGv X O (.Name x pos) (setS i) :=
  (pg_name hN hi hx hf).imp fun v σ H Q zpat => by
    obtain ⟨hid, H0, ρ, ow, d, ρ', E, D, hS, k⟩ := zpat
    cases hS
    exact k _ (E.set hO D)
theorem gs_nil : PGsv X O [] nilS := pgs_nil.imp fun vs σ H Q zpat => by
  obtain ⟨hid, H0, ρ, ow, ds, ρ', E, D, hS, k⟩ := zpat
  cases ds with
  | nil => cases hS; exact ⟨denl_nil D, k _ E⟩
  | cons d r => cases hS
theorem gs_cons {e : Expr} {es : List Expr} {S : PyData → Rho → Option Rho} {T : List PyData → Rho → Option Rho} (h1 : PGv X O e S) (h2 : PGsv X O es T) (hs : (assignEach (e :: es) X.env).map (·.2) = assign e X.env :: (assignEach es X.env).map (·.2) := by rfl) : PGsv X O (e :: es) (consS S T) :=
  (pgs_cons h1 h2 hs).imp fun vs σ H Q zpat => by
    obtain ⟨hid, H0, ρ, ow, ds, ρ', E, D, hS, k⟩ := zpat
    cases ds with
    | nil => cases hS
    | cons d r =>
      refine L2.o_EEAA (denl_cons D) fun v ws zq2 D1 D2 => ?_
      subst zq2
      obtain ⟨ρ1, h3, h4⟩ := bind_some hS
      exact ⟨v, ws, rfl, hid, H0, ρ, ow, d, ρ1, E, D1, h3, fun σ1 E1 => ⟨hid, H0, ρ1, ow, r, ρ', E1, D2, h4, k⟩⟩
theorem g_tup {es : List Expr} {k : Nat} {n : Nat} {T : List PyData → Rho → Option Rho} (hc : X.calm = true) (h : PGsv X O es T) (hn : (assignEach es X.env).length = n := by rfl) (hst : (assignEach es X.env).findIdx? (·.1) = none := by rfl) : PGv X O (.Tuple es k pos) (tupS n T) :=
  (pg_tup hc h hn hst).imp fun v σ H Q zpat => by
    obtain ⟨hid, H0, ρ, ow, d, ρ', E, D, hS, k⟩ := zpat
    cases d with
    | tuple ds =>
      rw [tupS] at hS
      split at hS
      · rename_i hl
        obtain ⟨a, vs, rfl, q, r⟩ := den_tup D
        exact ⟨a, vs, rfl, (del_same _ _).tup q, by rw [r.length]; exact hl, hid, H0, ρ, ow, ds, ρ', E, r, hS, k⟩
      · cases hS
    | _ => cases hS
end
structure GoodIt (K : PySem.W.Frag) (J : It) (G : Hp) (ds : List PyData) : Prop where
  go : ∀ H2 i, Same G H2 → i < ds.length → J.go i H2
  yld : ∀ H2 i x H3 d, Same G H2 → ds[i]? = some d → J.yld i H2 x H3 → (H3 = H2 ∧ Den K G x d) ∨ ∃ p vs es, H2 p = none ∧ H3 = upd H2 p (.tup vs) ∧ x = .ref p ∧ d = .tuple es ∧ DenL K G vs es
  stop : ∀ H2, Same G H2 → J.stop ds.length H2
noncomputable def tIr (K : PySem.W.Frag) (O : Ow) (f : Rho → Option (List PyData)) : TI := fun σ H R => At5 K O f σ H fun hid H0 ρ ow ds => ∀ J H', Same H H' → GoodIt K J (del H' hid) ds → R J H'
noncomputable def tIv (K : PySem.W.Frag) (O : Ow) (f : Rho → Option (List PyData)) : TI := fun σ H R => At5 K O f σ H fun hid H0 ρ ow ds => ∀ J H', Same H H' → GoodIt K J (del H' (uni hid ow)) ds → R J H'
noncomputable abbrev PIr (X : Cx) (O : Ow) (tg iter : Expr) (f : Rho → Option (List PyData)) : Prop := PI X tg iter (tIr X.K O f)
noncomputable abbrev PIv (X : Cx) (O : Ow) (tg iter : Expr) (f : Rho → Option (List PyData)) : Prop := PI X tg iter (tIv X.K O f)
theorem good_list {K : PySem.W.Frag} {G : Hp} {a : Addr} {xs : List V} {ds : List PyData} (q : SqL K G a xs) (r : DenL K G xs ds) : GoodIt K (Itl K a) G ds where
  go := fun H2 i s h => by
    have hl : i < xs.length := by rw [r.length]; exact h
    exact L2.i_EEA (xs) (xs[i]) (s.seq q) (by simp [hl])
  yld := fun H2 i x H3 d s h y => by
    revert y
    refine fun zqq => L2.o_A zqq fun zq0 y => ?_
    clear zqq
    subst zq0
    refine L2.o_EA (r.get h) fun v h1 h2 => ?_
    have := y xs (s.seq q)
    rw [h1] at this
    cases this
    exact .inl ⟨rfl, h2⟩
  stop := fun H2 s => ⟨xs, s.seq q, by rw [r.length]; exact Nat.le_refl _⟩
noncomputable def rngL (lo : Int) (n : Nat) : List PyData := (List.range n).map fun i => .int (lo + (i : Nat))
theorem good_rng {K : PySem.W.Frag} {G : Hp} (lo : Int) (n : Nat) : GoodIt K (Itr lo n) G (rngL lo n) where
  go := fun H2 i s h => by
    have : i < n := by simpa [rngL] using h
    exact this
  yld := fun H2 i x H3 d s h y => by
    revert y
    refine fun zqq => L2.o_A zqq fun zq0 zq1 => ?_
    clear zqq
    subst zq0
    subst zq1
    have : i < n ∧ PyData.int (lo + i) = d := by
      unfold rngL at h
      rw [List.getElem?_map] at h
      cases e : (List.range n)[i]? with
      | none => rw [e] at h; cases h
      | some j =>
        rw [e] at h
        refine L2.o_E (List.getElem?_eq_some_iff.mp e) fun h1 h2 => ?_
        have h3 : i = j := by simpa using h2
        subst h3
        exact ⟨by simpa using h1, Option.some.inj h⟩
    rw [← this.2]
    exact .inl ⟨rfl, .int _⟩
  stop := fun H2 s => by
    show n ≤ (rngL lo n).length
    simp [rngL]
section
variable {X : Cx} {O : Ow} {pos p : Pos} {tg e : Expr} {f : Rho → Option PyData}
theorem ir_list (h : PR X O e f) : PIr X O tg e (fun ρ => (f ρ).bind listD) := (pi_list h).imp fun σ H R zpat => by
  obtain ⟨hid, H0, ρ, ow, ds, E, hf, k⟩ := zpat
  obtain ⟨d, h1, h2⟩ := bind_some hf
  rw [listD_some h2] at h1
  refine ⟨hid, H0, ρ, ow, _, E, h1, fun v H' s D => ?_⟩
  obtain ⟨a, xs, rfl, q, r⟩ := den_lst D
  exact ⟨a, rfl, ⟨xs, (del_same _ _).seq q⟩, k _ H' s (good_list q r)⟩
noncomputable def rng1D : List PyData → Option (List PyData)
  | [.int j] => if decide (j.natAbs < 2 ^ 61) = true then some (rngL 0 j.toNat) else none
  | _ => none
variable {a b : Expr} {fs : Rho → Option (List PyData)}
theorem rng1D_some {ds es : List PyData} (h : rng1D ds = some es) : ∃ j, ds = [.int j] ∧ -(2 ^ 62) ≤ j ∧ j < 2 ^ 62 ∧ es = rngL 0 j.toNat := by
  unfold rng1D at h
  split at h
  · rename_i j
    split at h
    · rename_i hc
      have hc' := of_decide_eq_true hc
      cases h
      exact ⟨j, rfl, by omega, by omega, rfl⟩
    · cases h
  · cases h
theorem iv_rng1 (hg : Gl X "range") (hm : X.mg "range" = none) (ha : PAr X O [a] fs) (hs : starEach [a] X.env = [(false, eval a X.env)] := by rfl) : PIv X O tg (.Call (.Name "range" p) [a] [] pos) (fun ρ => (fs ρ).bind rng1D) :=
  (pi_range1 hg hm ha hs).imp fun σ H R zpat => by
    obtain ⟨hid, H0, ρ, ow, ds, E, hf, k⟩ := zpat
    obtain ⟨es, h1, h2⟩ := bind_some hf
    refine L2.o_EAAA (rng1D_some h2) fun j zq1 h3 h4 zq4 => ?_
    subst zq1
    subst zq4
    refine ⟨hid, H0, ρ, ow, _, E, h1, fun vs H' s D => ?_⟩
    refine L2.o_EA (one_den D) fun v zq1 D1 => ?_
    subst zq1
    exact ⟨j, by rw [den_int D1], h3, h4, k _ H' s (good_rng 0 j.toNat)⟩
end
noncomputable abbrev O0 : Ow := ⟨[], .cl⟩
noncomputable def compD (S : PyData → Rho → Option Rho) (ft : Rho → Option Bool) (fe : Rho → Option PyData) : List PyData → Rho → Option (List PyData)
  | [], _ => some []
  | d :: r, ρ => (S d ρ).bind fun ρ1 => (ft ρ1).bind fun c => if c = true then (fe ρ1).bind fun y => (compD S ft fe r ρ1).map (y :: ·) else compD S ft fe r ρ1
noncomputable def compO (S : PyData → Rho → Option Rho) (ft : Rho → Option Bool) (fe : Rho → Option PyData) (x : Option (List PyData)) (ρ : Rho) : Option (List PyData) := x.bind fun ds => if decide (ds.length ≤ 1000) = true then compD S ft fe ds ρ else none
noncomputable abbrev PIfv (X : Cx) (ifs : List Expr) (ft : Rho → Option Bool) : Prop := PIf X ifs (tT X.K O0 ft)
theorem if_nil {X : Cx} : PIfv X [] (fun _ => some true) := fun pins s σ H Q I zpat => by
  obtain ⟨hid, H0, ρ, ow, b, E, hf, k⟩ := zpat
  cases hf
  exact pif_nil pins s σ H Q I (k H (Same.refl H))
noncomputable def frees (k : Nat) (ix : List Nat) (ρ : Rho) : Rho := List.replicate k none ++ ix.map fun i => (ρ[i]?).join
theorem frees_ok {K : PySem.W.Frag} {O : Ow} {hid hid' : Addr → Prop} {H0 H H' : Hp} {σ : St} {ρ : Rho} {ow : List Addr} (E : EnvOk K O hid H0 σ H ρ ow) (s : Same H H') (hs : Same (del H hid) (del H' hid')) (hh : ∀ b, hid' b → ∃ vs, H' b = some (.lst vs)) (k : Nat) (ix : List Nat) : EnvOk K O0 hid' H (stComp k ix σ) H' (frees k ix ρ) [] := by
  refine ⟨?_, fun b o e => (by rw [del_out (by simp)]; exact s b o e), fun i d _ h => ?_, ⟨fun _ => [], fun i t d h => (by cases h), fun i j p _ h => (by cases h), fun i p h => (by cases h)⟩, fun l h => (by cases h), hh, fun _ => rfl⟩
  · unfold frees stComp
    simp
  · rw [uni_nil]
    unfold frees at h
    unfold stComp
    by_cases hi : i < k
    · rw [List.getElem?_append_left (by simpa using hi), List.getElem?_replicate, if_pos hi] at h
      cases h
    · have hj : k ≤ i := Nat.le_of_not_lt hi
      rw [List.getElem?_append_right (by simpa using hj), List.getElem?_map] at h
      rw [List.getElem?_append_right (by simpa using hj), List.getElem?_map]
      simp only [List.length_replicate] at h ⊢
      cases q : ix[i - k]? with
      | none => rw [q] at h; cases h
      | some j =>
        rw [q] at h
        have h' : (ρ[j]?).join = some d := Option.some.inj h
        refine L2.o_EA (E.raw (join_some h')) fun v h1 h2 => ?_
        exact ⟨v, by simp [h1], h2.mono hs⟩
theorem EnvOk.updHid {K : PySem.W.Frag} {O : Ow} {hid : Addr → Prop} {H0 H : Hp} {σ : St} {ρ : Rho} {ow : List Addr} (E : EnvOk K O hid H0 σ H ρ ow) {l : Addr} {ws : List V} (hl : hid l) (h0 : H0 l = none) : EnvOk K O hid H0 σ (upd H l (.lst ws)) ρ ow := by
  have ed : del (upd H l (.lst ws)) (uni hid ow) = del H (uni hid ow) := del_upd (.inl hl)
  have nl : ∀ l' ∈ ow, l' ≠ l := fun l' h z => (E.isl l' h).2 (z ▸ hl)
  refine ⟨E.len, fun b u e => ?_, fun i d hi h => by rw [ed]; exact E.val i d hi h, ?_, fun l' h => ?_, fun b hb => ?_, E.emp⟩
  · have hne : b ≠ l := ne_of_none e h0
    have q := E.base b u e
    by_cases hb : b ∈ ow
    · rw [del_in hb] at q; cases q
    · rw [del_out hb] at q ⊢
      rw [upd_ne hne]
      exact q
  · refine L2.o_EAA (E.own) fun A a1 a2 a3 => ?_
    refine ⟨A, fun i t d hi h => ?_, a2, a3⟩
    refine L2.o_EA (a1 i t d hi h) fun v q r => ?_
    exact ⟨v, q, by rw [ed]; exact r.mono (Same.refl _) fun p hp o e => by rw [upd_ne (nl p (a3 i p hp))]; exact e⟩
  · obtain ⟨⟨vs, q⟩, n⟩ := E.isl l' h
    exact ⟨⟨vs, by rw [upd_ne (nl l' h)]; exact q⟩, n⟩
  · by_cases hne : b = l
    · subst hne; rw [upd_same]; exact ⟨_, rfl⟩
    · rw [upd_ne hne]; exact E.ishL b hb
theorem comp_imp {K : PySem.W.Frag} {O : Ow} {fi : Rho → Option (List PyData)} {S : PyData → Rho → Option Rho} {ft : Rho → Option Bool} {fe : Rho → Option PyData} {k : Nat} {ix : List Nat} : ∀ σ H Q, tFr K O (fun ρ => compO S ft fe (fi ρ) (frees k ix ρ)) σ H Q → tComp (tIr K O fi) (tG K O0 S) (tT K O0 ft) (tR K O0 fe) (stComp k ix) σ H Q := fun σ H Q zpat => by
  obtain ⟨hid, H0, ρ, ow, out, E, hf, q⟩ := zpat
  obtain ⟨ds, h1, h2⟩ := bind_some hf
  split at h2
  case isFalse => cases h2
  rename_i hlen
  have hz : ds.length ≤ 1000 := of_decide_eq_true hlen
  have hzl : 1000 < sizeLine := by decide
  refine ⟨hid, H0, ρ, ow, ds, E, h1, fun J H1 s1 G D hD => ?_⟩
  have hDH : H D = none := s1.free hD
  have hq : ∀ b, uni hid [D] b → hid b ∨ b = D := fun b z => by rcases z with z | z; exact .inl z; exact .inr (by simpa using z)
  have hDh : uni hid [D] D := .inr (by simp)
  refine ⟨fun i m τ H2 => m = ds.length - i ∧ i ≤ ds.length ∧ ∃ ρ2 ys done rest, EnvOk K O0 (uni hid [D]) H τ H2 ρ2 [] ∧ Same H1 H2 ∧ H2 D = some (.lst ys) ∧ DenL K (del H2 (uni hid [D])) ys done ∧ compD S ft fe (ds.drop i) ρ2 = some rest ∧ out = done ++ rest ∧ done.length ≤ i,
    ⟨ds.length, by simp, Nat.zero_le _, frees k ix ρ, [], [], out, ?_, same_new hD, upd_same, .nil, by simpa using h2, rfl, Nat.le_refl _⟩, ?_⟩
  · refine frees_ok E (s1.trans (same_new hD)) (del_new (s1.trans (same_new hD)) hDH hq) (fun b z => ?_) k ix
    rcases hq b z with z | z
    · refine L2.o_E (E.ishL b z) fun vs e => ?_
      exact ⟨vs, (s1.trans (same_new hD)) _ _ e⟩
    · rw [z, upd_same]
      exact ⟨_, rfl⟩
  · rintro i m τ H2 ⟨rfl, hi', ρ2, ys, done, rest, E2, s2, hy, hd, hr, ho, hdl⟩
    have keep : Same (del H1 hid) H2 := (del_same _ _).trans s2
    by_cases hlt : i < ds.length
    · have hdr : ds.drop i = ds[i] :: ds.drop (i + 1) := List.drop_eq_getElem_cons hlt
      rw [hdr, compD] at hr
      obtain ⟨ρ3, g1, hr⟩ := bind_some hr
      obtain ⟨c, g2, hr⟩ := bind_some hr
      refine .inr ⟨G.go H2 i keep hlt, fun τ' H' => ∃ ρ2 ys done rest, EnvOk K O0 (uni hid [D]) H τ' H' ρ2 [] ∧ Same H1 H' ∧ H' D = some (.lst ys) ∧ DenL K (del H' (uni hid [D])) ys done ∧ compD S ft fe (ds.drop (i + 1)) ρ2 = some rest ∧ out = done ++ rest ∧ done.length ≤ i + 1,
        fun τ' H' z => ⟨ds.length - (i + 1), by omega, rfl, hlt, z⟩, fun x H3 y => ?_⟩
      have step : ∃ s23 : Same H2 H3, Den K (del H3 (uni (uni hid [D]) [])) x ds[i] := by
        rw [uni_nil]
        rcases G.yld H2 i x H3 ds[i] keep (by simp [hlt]) y with ⟨rfl, Dx⟩ | ⟨p, vs, es, hp, rfl, rfl, hde, De⟩
        · exact ⟨Same.refl _, Dx.mono (del_new s2 hD hq)⟩
        · refine ⟨same_new hp, ?_⟩
          rw [hde]
          have np : ¬ uni hid [D] p := fun z => E2.fresh hp (.inl z)
          exact .tup (SqT.of (by rw [del_out np, upd_same])) ((De.mono (del_new s2 hD hq)).mono (del_mono (same_new hp) _))
      refine L2.o_E (step) fun s23 Dx => ?_
      refine ⟨uni hid [D], H, ρ2, [], ds[i], ρ3, E2.mono s23, Dx, g1, fun τ3 E3 => ⟨uni hid [D], H, ρ3, [], c, E3, g2, fun H5 s5 => ?_⟩⟩
      have sA : Same H2 H5 := s23.trans s5
      cases c with
      | false =>
        dsimp only
        rw [if_neg Bool.false_ne_true] at hr ⊢
        exact L2.i_EEEEAAAAAA (ρ3) (ys) (done) (rest) (E3.mono s5) (s2.trans sA) (sA _ _ hy) (hd.mono (del_mono sA _)) (hr) (ho) (Nat.le_succ_of_le hdl)
      | true =>
        dsimp only
        rw [if_pos rfl] at hr ⊢
        obtain ⟨yv, g3, hr⟩ := bind_some hr
        obtain ⟨rest2, g4, rfl⟩ := map_some hr
        refine ⟨uni hid [D], H, ρ3, [], yv, E3.mono s5, g3, fun y H6 s6 Dy => ?_⟩
        have sB : Same H2 H6 := sA.trans s6
        have hyl : ys.length = done.length := hd.length
        refine L2.i_EAAEEEEAAAAAA (ys) (sB _ _ hy) (by omega) (ρ3) (ys ++ [y]) (done ++ [yv]) (rest2) (((E3.mono s5).mono s6).updHid hDh hDH) (fun b o e => ?_) (upd_same) ?_ (g4) ?_ ?_
        · rw [upd_ne (ne_of_none e hD)]
          exact sB b o (s2 b o e)
        · rw [del_upd hDh]
          exact (hd.mono (del_mono sB _)).append (.cons Dy .nil)
        · rw [ho, List.append_assoc]; rfl
        · rw [List.length_append, List.length_singleton]; omega
    · have e : i = ds.length := by omega
      subst e
      rw [List.drop_length, compD] at hr
      cases hr
      rw [List.append_nil] at ho
      subst ho
      exact .inl ⟨G.stop H2 keep, q D ys H2 (s1.trans s2) hDH hy hd⟩
theorem fr_comp {X : Cx} {O : Ow} {elt tg iter : Expr} {ifs : List Expr} {scope : Scope} {pos : Pos} {fi : Rho → Option (List PyData)} {S : PyData → Rho → Option Rho} {ft : Rho → Option Bool} {fe : Rho → Option PyData} {k : Nat} {N : List Str} {ix : List Nat} (sc : Scope) (hsc : X.env.scope = sc) (C : CompSc sc X.N scope k N ix)
    (hx : X.xe = fun _ _ => False) (hc : X.calm = true) (hi : PIr X O tg iter fi)
    (hg : ∀ cl C s3 H3 fp pins, PGv (cxComp X N scope cl C s3 H3 fp pins) O0 tg S) (ht : ∀ cl C s3 H3 fp pins, PIfv (cxComp X N scope cl C s3 H3 fp pins) ifs ft) (he : ∀ cl C s3 H3 fp pins, PR (cxComp X N scope cl C s3 H3 fp pins) O0 elt fe)
    (hs : ∀ x, foldedSetIterable iter X.env x = pure x := by intro _; rfl) :
    PFr X O (.ListComp elt [⟨tg, iter, ifs, 0⟩] scope pos) (fun ρ => compO S ft fe (fi ρ) (frees k ix ρ)) := by
  exact (pe_comp (g := tG X.K O0 S) (tc := tT X.K O0 ft) (te := tR X.K O0 fe) sc hsc C hx hc hi hg ht he hs).imp comp_imp
inductive Out where
  | nx (ρ : Rho) | rt (d : PyData) | bk (ρ : Rho) | ct (ρ : Rho)
noncomputable def Then (K : PySem.W.Frag) (O : Ow) (hid : Addr → Prop) (H0 G : Hp) (D : Ends) : Out → Prop
  | .nx ρ' => ∀ σ' H' ow', Same G (del H' (uni hid ow')) → EnvOk K O hid H0 σ' H' ρ' ow' → D.nx σ' H'
  | .bk ρ' => ∀ σ' H' ow', Same G (del H' (uni hid ow')) → EnvOk K O hid H0 σ' H' ρ' ow' → D.bk σ' H'
  | .ct ρ' => ∀ σ' H' ow', Same G (del H' (uni hid ow')) → EnvOk K O hid H0 σ' H' ρ' ow' → D.ct σ' H'
  | .rt d => ∀ v as H', Same H0 H' → (∀ p ∈ as, H0 p = none) → DenO K H' (del H' (uni hid as)) O.r v d as → D.rt v H'
noncomputable def tP (K : PySem.W.Frag) (O : Ow) (F : Rho → Option Out) : TS := fun D σ H => At5 K O F σ H fun hid H0 ρ ow o => Then K O hid H0 (del H (uni hid ow)) D o
noncomputable abbrev PSv (X : Cx) (O : Ow) (st : Stmt) (F : Rho → Option Out) : Prop := PS X st (tP X.K O F)
noncomputable abbrev PSsv (X : Cx) (O : Ow) (st : List Stmt) (F : Rho → Option Out) : Prop := PSs X st (tP X.K O F)
theorem Then.weak {K : PySem.W.Frag} {O : Ow} {hid : Addr → Prop} {H0 G G' : Hp} {D : Ends} {o : Out} (s : Same G G') (h : Then K O hid H0 G D o) : Then K O hid H0 G' D o := by
  cases o with
  | nx ρ => exact fun σ' H' ow' s' E => h σ' H' ow' (s.trans s') E
  | bk ρ => exact fun σ' H' ow' s' E => h σ' H' ow' (s.trans s') E
  | ct ρ => exact fun σ' H' ow' s' E => h σ' H' ow' (s.trans s') E
  | rt d => exact h
theorem EnvOk.baseS {K : PySem.W.Frag} {O : Ow} {hid : Addr → Prop} {H0 H : Hp} {σ : St} {ρ : Rho} {ow : List Addr} (E : EnvOk K O hid H0 σ H ρ ow) : Same H0 H := E.base.trans (del_same _ _)
noncomputable def seqF (F G : Rho → Option Out) (ρ : Rho) : Option Out := (F ρ).bind fun o => match o with
  | .nx ρ' => G ρ'
  | .rt d => some (.rt d)
  | .bk ρ' => some (.bk ρ')
  | .ct ρ' => some (.ct ρ')
noncomputable def forD (S : PyData → Rho → Option Rho) (F : Rho → Option Out) : List PyData → Rho → Option Out
  | [], ρ => some (.nx ρ)
  | d :: r, ρ => (S d ρ).bind fun ρ1 => (F ρ1).bind fun o => match o with
    | .nx ρ2 => forD S F r ρ2
    | .ct ρ2 => forD S F r ρ2
    | .bk ρ2 => some (.nx ρ2)
    | .rt v => some (.rt v)
noncomputable def setO (i : Nat) (ρ : Rho) (x : Option PyData) : Option Out := x.map fun d => .nx (ρ.set i (some d))
noncomputable def setLO (i : Nat) (ρ : Rho) (x : Option (List PyData)) : Option Out := x.map fun ds => .nx (ρ.set i (some (.list ds)))
noncomputable def dropO (ρ : Rho) (x : Option PyData) : Option Out := x.map fun _ => .nx ρ
noncomputable def asgO (S : PyData → Rho → Option Rho) (ρ : Rho) (x : Option PyData) : Option Out := x.bind fun d => (S d ρ).map .nx
noncomputable def forO (S : PyData → Rho → Option Rho) (F : Rho → Option Out) (x : Option (List PyData)) (ρ : Rho) : Option Out := x.bind fun ds => forD S F ds ρ
noncomputable def whileD (t : Rho → Option Bool) (F : Rho → Option Out) : Nat → Rho → Option Out
  | 0, _ => none
  | n + 1, ρ => (t ρ).bind fun c => if c = true then (F ρ).bind fun o => match o with
    | .nx ρ2 => whileD t F n ρ2
    | .ct ρ2 => whileD t F n ρ2
    | .bk ρ2 => some (.nx ρ2)
    | .rt v => some (.rt v) else some (.nx ρ)
section
variable {X : Cx} {O : Ow} {st : Stmt} {rest : List Stmt} {F G : Rho → Option Out} {e : Expr} {f : Rho → Option PyData} {pos : Pos}
theorem ss_nil : PSsv X O [] (fun ρ => some (.nx ρ)) := pss_nil.imp fun D σ H zpat => by
  obtain ⟨hid, H0, ρ, ow, o, E, hf, k⟩ := zpat
  cases hf
  exact k σ H ow (Same.refl _) E
theorem ss_cons (h1 : PSv X O st F) (h2 : PSsv X O rest G) : PSsv X O (st :: rest) (seqF F G) := (pss_cons h1 h2).imp fun D σ H zpat => by
  obtain ⟨hid, H0, ρ, ow, o, E, hf, k⟩ := zpat
  obtain ⟨o1, g1, g2⟩ := bind_some hf
  refine ⟨hid, H0, ρ, ow, o1, E, g1, ?_⟩
  cases o1 with
  | nx ρ1 => exact fun σ' H' ow' s' E' => ⟨hid, H0, ρ1, ow', o, E', g2, by cases o <;> exact k.weak s'⟩
  | rt d => cases g2; exact k
  | bk ρ1 => cases g2; exact k
  | ct ρ1 => cases g2; exact k
theorem ss_one (h1 : PSv X O st F) : PSsv X O [st] F := pss_one h1
theorem ss_never {sts : List Stmt} : PSsv X O sts (fun _ => none) := pss_never.imp fun D σ H ⟨hid, H0, ρ, ow, o, E, hf, k⟩ => by cases hf
theorem s_ret (h : PR X O e f) (hr : O.r = .cl := by rfl) : PSv X O (.Return (some e) pos) (fun ρ => (f ρ).map .rt) := (ps_ret h).imp fun D σ H zpat => by
  obtain ⟨hid, H0, ρ, ow, o, E, hf, k⟩ := zpat
  obtain ⟨d, g1, rfl⟩ := map_some hf
  exact ⟨hid, H0, ρ, ow, d, E, g1, fun v H' s Dv => k v [] H' (E.baseS.trans s) (fun p hp => by cases hp) (by rw [hr, uni_nil]; exact .cl Dv)⟩
theorem s_if {c : Expr} {a b : List Stmt} {ft : Rho → Option Bool} (hc : PTv X O c ft) (ha : PSsv X O a F) (hb : PSsv X O b G) : PSv X O (.If c a b pos) (fun ρ => condO (ft ρ) (F ρ) (G ρ)) := (ps_if hc ha hb).imp fun D σ H zpat => by
  obtain ⟨hid, H0, ρ, ow, o, E, hf, k⟩ := zpat
  obtain ⟨c, g1, g2⟩ := bind_some hf
  refine ⟨hid, H0, ρ, ow, c, E, g1, fun H' s => ?_⟩
  cases c with
  | true => rw [if_pos rfl] at g2 ⊢; exact ⟨hid, H0, ρ, ow, o, E.mono s, g2, k.weak (del_mono s _)⟩
  | false => rw [if_neg Bool.false_ne_true] at g2 ⊢; exact ⟨hid, H0, ρ, ow, o, E.mono s, g2, k.weak (del_mono s _)⟩
theorem s_set {i : Nat} {x : Str} {pos' : Pos} (hN : X.N.Nodup) (hi : X.N[i]? = some x) (hx : Loc X.env.scope x) (he : PV X O e f) (hO : O.s.lookup i = none := by rfl) (hs : swapsWith e (some (.Name x pos')) pos.line X.env = pure false := by rfl) (hf : X.fn x = true ∨ X.env.scope.names.lookup x = some .local := by first | exact .inl rfl | exact .inr rfl | assumption) :
    PSv X O (.Assign [.Name x pos'] e pos) (fun ρ => setO i ρ (f ρ)) := (ps_set hN hi hx he hs hf).imp fun D σ H zpat => by
  obtain ⟨hid, H0, ρ, ow, o, E, hf, k⟩ := zpat
  obtain ⟨d, g1, rfl⟩ := map_some hf
  exact ⟨hid, H0, ρ, ow, d, E, g1, fun v H' s Dv => k _ H' ow (del_mono s _) ((E.mono s).set hO Dv)⟩
theorem s_setT {i : Nat} {x : Str} {pos' : Pos} {T : Ty} (hN : X.N.Nodup) (hi : X.N[i]? = some x) (hx : Loc X.env.scope x) (he : PFt X O T e f) (hO : O.s.lookup i = some T := by rfl) (hs : swapsWith e (some (.Name x pos')) pos.line X.env = pure false := by rfl) (hf : X.fn x = true ∨ X.env.scope.names.lookup x = some .local := by first | exact .inl rfl | exact .inr rfl | assumption) :
    PSv X O (.Assign [.Name x pos'] e pos) (fun ρ => setO i ρ (f ρ)) := (ps_set hN hi hx he hs hf).imp fun D σ H zpat => by
  obtain ⟨hid, H0, ρ, ow, o, E, hf, k⟩ := zpat
  obtain ⟨d, g1, rfl⟩ := map_some hf
  refine ⟨hid, H0, ρ, ow, d, E, g1, fun v as H' s n Dv => k _ H' (as ++ ow) ?_ (E.setT s hO n Dv)⟩
  intro b u z
  by_cases hb : uni hid ow b
  · rw [del_in hb] at z; cases z
  · rw [del_out hb] at z
    rw [del_out fun y => ?_]
    · exact s b u z
    · rcases y with y | y
      · exact hb (.inl y)
      · rcases List.mem_append.mp y with y | y
        · rw [n b y] at z; cases z
        · exact hb (.inr y)
theorem s_setO {i : Nat} {x : Str} {pos' : Pos} {f : Rho → Option (List PyData)} (hN : X.N.Nodup) (hi : X.N[i]? = some x) (hx : Loc X.env.scope x) (he : PFc X O e f) (hO : O.s.lookup i = some (.lst .cl) := by rfl) (hs : swapsWith e (some (.Name x pos')) pos.line X.env = pure false := by rfl) (hf : X.fn x = true ∨ X.env.scope.names.lookup x = some .local := by first | exact .inl rfl | exact .inr rfl | assumption) :
    PSv X O (.Assign [.Name x pos'] e pos) (fun ρ => setLO i ρ (f ρ)) := (s_setT hN hi hx he.ft hO hs hf).imp fun D σ H zpat => by
  obtain ⟨hid, H0, ρ, ow, o, E, hf, k⟩ := zpat
  refine ⟨hid, H0, ρ, ow, o, E, ?_, k⟩
  obtain ⟨d, g1, rfl⟩ := map_some hf
  show setO i ρ ((f ρ).map .list) = _
  rw [g1]
  rfl
noncomputable def pairS (i j : Nat) (ρ : Rho) : List PyData → Option Out
  | [d, e] => some (.nx ((ρ.set i (some d)).set j (some e)))
  | _ => none
theorem s_par {i j : Nat} {x y : Str} {a b : Expr} {fs : Rho → Option (List PyData)} {px py pt : Pos} {kt k2 pt2} (hc : X.calm = true) (hN : X.N.Nodup) (hi : X.N[i]? = some x) (hj : X.N[j]? = some y) (hij : i ≠ j)
    (hx : X.env.scope.names.lookup x = some .local) (hy : X.env.scope.names.lookup y = some .local) (ha : PAv X O [a, b] fs)
    (hw : swappedStores [.Tuple [.Name x px, .Name y py] kt pt] (.Tuple [a, b] k2 pt2) X.env = pure (some [x, y])) (hO : O.s.lookup i = none := by rfl) (hO2 : O.s.lookup j = none := by rfl)
    (hs : swapsWithSole [.Tuple [.Name x px, .Name y py] kt pt] (.Tuple [a, b] k2 pt2) pos.line X.env = pure false := by rfl) :
    PSv X O (.Assign [.Tuple [.Name x px, .Name y py] kt pt] (.Tuple [a, b] k2 pt2) pos) (fun ρ => (fs ρ).bind (pairS i j ρ)) := (ps_par hc hN hi hj hij hx hy ha hw hs).imp fun D σ H zpat => by
  obtain ⟨hid, H0, ρ, ow, o, E, hf, k⟩ := zpat
  obtain ⟨ds, g1, g2⟩ := bind_some hf
  refine ⟨hid, H0, ρ, ow, ds, E, g1, fun vs H' s Dv => ?_⟩
  unfold pairS at g2
  split at g2
  · cases g2
    refine L2.o_EEAA (two_den Dv) fun v w zq2 D1 D2 => ?_
    subst zq2
    exact L2.i_EEA (v) (w) (rfl) (k _ H' ow (del_mono s _) (((E.mono s).set hO D1).set hO2 D2))
  · cases g2
theorem s_for {tg iter : Expr} {body : List Stmt} {fi : Rho → Option (List PyData)} {S : PyData → Rho → Option Rho} (hc : X.calm = true) (hi : PIv X O tg iter fi) (hg : PGv X O tg S) (hb : PSsv X O body F) (hp : PassesOwn (model X.prog X.w) X.A X.env X.xe)
    (hs : ∀ x, foldedSetIterable iter X.env x = pure x := by intro _; rfl) : PSv X O (.For tg iter body [] pos) (fun ρ => forO S F (fi ρ) ρ) := (ps_for hp hc hi hg hb hs).imp fun D σ H zpat => by
  obtain ⟨hid, H0, ρ, ow, out, E, hf, k⟩ := zpat
  obtain ⟨ds, g1, g2⟩ := bind_some hf
  refine ⟨hid, H0, ρ, ow, ds, E, g1, fun J H1 s1 Gd => ?_⟩
  have k1 := k.weak (del_mono s1 (uni hid ow))
  refine ⟨fun i m τ H2 => m = ds.length - i ∧ i ≤ ds.length ∧ ∃ ρ2 ow2, EnvOk X.K O hid H0 τ H2 ρ2 ow2 ∧ Same (del H1 (uni hid ow)) (del H2 (uni hid ow2)) ∧ forD S F (ds.drop i) ρ2 = some out, ⟨ds.length, by simp, Nat.zero_le _, ρ, ow, E.mono s1, Same.refl _, by simpa using g2⟩, ?_⟩
  rintro i m τ H2 ⟨rfl, hi', ρ2, ow2, E2, s2, hr⟩
  have keep : Same (del H1 (uni hid ow)) H2 := s2.trans (del_same _ _)
  by_cases hlt : i < ds.length
  · have hdr : ds.drop i = ds[i] :: ds.drop (i + 1) := List.drop_eq_getElem_cons hlt
    rw [hdr, forD] at hr
    obtain ⟨ρ3, g3, hr⟩ := bind_some hr
    obtain ⟨o3, g4, hr⟩ := bind_some hr
    refine .inr ⟨Gd.go H2 i keep hlt, fun τ' H' => ∃ ρ2 ow2, EnvOk X.K O hid H0 τ' H' ρ2 ow2 ∧ Same (del H1 (uni hid ow)) (del H' (uni hid ow2)) ∧ forD S F (ds.drop (i + 1)) ρ2 = some out, fun τ' H' z => ⟨ds.length - (i + 1), by omega, rfl, hlt, z⟩, fun x H3 y => ?_⟩
    have step : ∃ s23 : Same H2 H3, Den X.K (del H3 (uni hid ow2)) x ds[i] := by
      rcases Gd.yld H2 i x H3 ds[i] keep (by simp [hlt]) y with ⟨rfl, Dx⟩ | ⟨p, vs, es, hp, rfl, rfl, hde, De⟩
      · exact ⟨Same.refl _, Dx.mono s2⟩
      · refine ⟨same_new hp, ?_⟩
        rw [hde]
        exact .tup (SqT.of (E2.newAt hp)) ((De.mono s2).mono (del_mono (same_new hp) _))
    refine L2.o_E (step) fun s23 Dx => ?_
    refine ⟨hid, H0, ρ2, ow2, ds[i], ρ3, E2.mono s23, Dx, g3, fun τ3 E3 => ⟨hid, H0, ρ3, ow2, o3, E3, g4, ?_⟩⟩
    have s13 : Same (del H1 (uni hid ow)) (del H3 (uni hid ow2)) := s2.trans (del_mono s23 _)
    cases o3 with
    | nx ρ4 => exact fun σ' H' ow' s' E' => ⟨ρ4, ow', E', s13.trans s', hr⟩
    | ct ρ4 => exact fun σ' H' ow' s' E' => ⟨ρ4, ow', E', s13.trans s', hr⟩
    | bk ρ4 =>
      cases hr
      exact fun σ' H' ow' s' E' => k1 σ' H' ow' (s13.trans s') E'
    | rt d =>
      cases hr
      exact k1
  · have e : i = ds.length := by omega
    subst e
    rw [List.drop_length, forD] at hr
    cases hr
    exact .inl ⟨Gd.stop H2 keep, k1 τ H2 ow2 s2 E2⟩
theorem s_while {c : Expr} {body : List Stmt} {ft : Rho → Option Bool} (μ : Rho → Nat) (hc : PTv X O c ft) (hb : PSsv X O body F) (hp : PassesOwn (model X.prog X.w) X.A X.env X.xe) : PSv X O (.While c body [] pos) (fun ρ => whileD ft F (μ ρ) ρ) := (ps_while hp hc hb).imp fun D σ H zpat => by
  obtain ⟨hid, H0, ρ, ow, out, E, hf, k⟩ := zpat
  refine ⟨fun m τ H2 => ∃ ρ2 ow2, EnvOk X.K O hid H0 τ H2 ρ2 ow2 ∧ Same (del H (uni hid ow)) (del H2 (uni hid ow2)) ∧ whileD ft F m ρ2 = some out, ⟨_, ρ, ow, E, Same.refl _, hf⟩, ?_⟩
  rintro m τ H2 ⟨ρ2, ow2, E2, s2, hr⟩
  cases m with
  | zero => cases hr
  | succ m =>
    rw [whileD] at hr
    obtain ⟨b, g1, hr⟩ := bind_some hr
    refine ⟨hid, H0, ρ2, ow2, b, E2, g1, fun H3 s3 => ?_⟩
    have s13 : Same (del H (uni hid ow)) (del H3 (uni hid ow2)) := s2.trans (del_mono s3 _)
    cases b with
    | false =>
      dsimp only
      rw [if_neg Bool.false_ne_true] at hr ⊢
      cases hr
      exact k τ H3 ow2 s13 (E2.mono s3)
    | true =>
      dsimp only
      rw [if_pos rfl] at hr ⊢
      obtain ⟨o3, g4, hr⟩ := bind_some hr
      refine ⟨fun τ' H' => ∃ ρ2 ow2, EnvOk X.K O hid H0 τ' H' ρ2 ow2 ∧ Same (del H (uni hid ow)) (del H' (uni hid ow2)) ∧ whileD ft F m ρ2 = some out, fun τ' H' z => ⟨m, Nat.lt_succ_self m, z⟩, hid, H0, ρ2, ow2, o3, E2.mono s3, g4, ?_⟩
      cases o3 with
      | nx ρ4 => exact fun σ' H' ow' s' E' => ⟨ρ4, ow', E', s13.trans s', hr⟩
      | ct ρ4 => exact fun σ' H' ow' s' E' => ⟨ρ4, ow', E', s13.trans s', hr⟩
      | bk ρ4 =>
        cases hr
        exact fun σ' H' ow' s' E' => k σ' H' ow' (s13.trans s') E'
      | rt d =>
        cases hr
        exact k
noncomputable def tAt (K : PySem.W.Frag) (O : Ow) (i : Nat) (T : Ty) (fp : Rho → Option (List Int)) : TE := fun σ H Q => ∃ hid H0 ρ ow d path ds, EnvOk K O hid H0 σ H ρ ow ∧ ρ[i]? = some (some d) ∧ fp ρ = some path ∧ tyP T d path = true ∧ getP d path = some ds ∧
  ∀ H1 l vs, Same H H1 → H1 l = some (.lst vs) → DenL K (del H1 (uni hid ow)) vs ds → l ∈ ow →
    (∀ H2, Same H1 H2 → ∀ ws es, DenL K (del H2 (uni hid ow)) ws es → EnvOk K O hid H0 σ (upd H2 l (.lst ws)) (ρ.set i (some (setP d path es))) ow) → Q (.ref l) H1
noncomputable abbrev PAt (X : Cx) (O : Ow) (i : Nat) (T : Ty) (e : Expr) (fp : Rho → Option (List Int)) : Prop := PE X e (tAt X.K O i T fp)
theorem at_name {i : Nat} (h : PE X e (tVar i)) (hi : O.s.lookup i = some (.lst .cl) := by rfl) : PAt X O i (.lst .cl) e (fun _ => some []) := h.imp fun σ H Q zpat => by
  refine L2.o_EEEEEEEAAAAA (zpat) fun hid H0 ρ ow d path ds E hρ hp ht hg k => ?_
  cases hp
  obtain rfl := getP_nil hg
  refine L2.o_EEAAAA (E.at0 hi hρ) fun l vs h1 h3 h4 h5 h6 => ?_
  exact ⟨.ref l, h1, k H l vs (Same.refl H) h3 h4 h5 h6⟩
noncomputable def appP (i : Nat) (T : Ty) (ρ : Rho) (path : Option (List Int)) (d : PyData) : Option Out := path.bind fun p => ((ρ[i]?).join).bind fun t => if tyP T t p = true then (getP t p).bind fun ds => if decide (ds.length < 1000) = true then some (.nx (ρ.set i (some (setP t p (ds ++ [d]))))) else none else none
theorem s_appendP {i : Nat} {T : Ty} {x : Expr} {fp : Rho → Option (List Int)} {apos cpos : Pos} (hx : PAt X O i T x fp) (he : PV X O e f)
    (hbase : attributeBase x "append" X.env (eval x X.env) = eval x X.env := by rfl)
    (hfew : ((backTo cpos (starEach [e] X.env)).all (fun x => !x.1) && (backToKw cpos (keywordEach [] X.env)).all (fun x => x.1.isSome) && decide ([e].length + ([] : List Keyword).length + (if ([] : List Keyword).isEmpty then 0 else 1) < 30)) = true := by rfl)
    (hline : (apos.endLine == cpos.line) = true := by rfl) (hst : starEach [e] X.env = (false, eval e X.env) :: starEach [] X.env := by rfl) (hplain : (backTo cpos (starEach [] X.env)).any (·.1) = false := by rfl)
    (hs : swapsWith (.Call (.Attribute x "append" apos) [e] [] cpos) none pos.line X.env = pure false := by rfl) :
    PSv X O (.Expr (.Call (.Attribute x "append" apos) [e] [] cpos) pos) (fun ρ => (f ρ).bind (appP i T ρ (fp ρ))) :=
  (ps_expr (pe_bm PySem.F.plainAttrs_list PySem.F.slot_list_append PySem.F.type_list_append mt_append hx (pa_cons he pa_nil hst) hbase hfew hline hst hplain) hs).imp fun D σ H zpat => by
    obtain ⟨hid, H0, ρ, ow, o, E, hf, k⟩ := zpat
    obtain ⟨d, g1, g2⟩ := bind_some hf
    obtain ⟨path, g3, g4⟩ := bind_some g2
    obtain ⟨t, g5, g6⟩ := bind_some g4
    split at g6
    case isFalse => cases g6
    rename_i hty
    obtain ⟨ds, g7, g8⟩ := bind_some g6
    split at g8
    case isFalse => cases g8
    rename_i hlt
    cases g8
    refine L2.i_EEEEEEEAAAAA (hid) (H0) (ρ) (ow) (t) (path) (ds) (E) (join_some g5) (g3) (hty) (g7) (fun H1 l vs s1 hH hD hl hE => ⟨.inl ⟨rfl, vs, SqL.of hH⟩, hid, H0, ρ, ow, d, E.mono s1, g1, fun v H2 s2 Dv => ?_⟩)
    have hz : 1000 < sizeLine := by decide
    have hlt' := of_decide_eq_true hlt
    refine L2.i_EEEAAAA (l) (vs) (v) (rfl) (rfl) (s2 _ _ hH) (by rw [hD.length]; omega) (k _ _ ow ?_ (hE H2 s2 _ _ ((hD.mono (del_mono s2 _)).append (.cons Dv .nil))))
    rw [del_upd (uni_in hl)]
    exact (del_mono s1 _).trans (del_mono s2 _)
noncomputable def appD (i : Nat) (ρ : Rho) (d : PyData) : Option Out := ((ρ[i]?).join.bind listD).bind fun ds => if decide (ds.length < 1000) = true then some (.nx (ρ.set i (some (.list (ds ++ [d]))))) else none
theorem s_append {i : Nat} {x : Str} {p apos cpos : Pos} (hx : PE X (.Name x p) (tVar i)) (he : PV X O e f) (hO : O.s.lookup i = some (.lst .cl) := by rfl)
    (hbase : attributeBase (.Name x p) "append" X.env (eval (.Name x p) X.env) = eval (.Name x p) X.env := by rfl)
    (hfew : ((backTo cpos (starEach [e] X.env)).all (fun x => !x.1) && (backToKw cpos (keywordEach [] X.env)).all (fun x => x.1.isSome) && decide ([e].length + ([] : List Keyword).length + (if ([] : List Keyword).isEmpty then 0 else 1) < 30)) = true := by rfl)
    (hline : (apos.endLine == cpos.line) = true := by rfl) (hst : starEach [e] X.env = (false, eval e X.env) :: starEach [] X.env := by rfl) (hplain : (backTo cpos (starEach [] X.env)).any (·.1) = false := by rfl)
    (hs : swapsWith (.Call (.Attribute (.Name x p) "append" apos) [e] [] cpos) none pos.line X.env = pure false := by rfl) :
    PSv X O (.Expr (.Call (.Attribute (.Name x p) "append" apos) [e] [] cpos) pos) (fun ρ => (f ρ).bind (appD i ρ)) :=
  (s_appendP (at_name hx hO) he hbase hfew hline hst hplain hs).imp fun D σ H zpat => by
    obtain ⟨hid, H0, ρ, ow, o, E, hf, k⟩ := zpat
    refine ⟨hid, H0, ρ, ow, o, E, ?_, k⟩
    obtain ⟨d, g1, g2⟩ := bind_some hf
    obtain ⟨ds, g3, g4⟩ := bind_some g2
    obtain ⟨dl, g5, g6⟩ := bind_some g3
    rw [listD_some g6] at g5
    try dsimp only
    rw [g1, Option.bind_some]
    unfold appP
    rw [Option.bind_some, g5, Option.bind_some]
    exact g4
end
theorem lookTy_mem : ∀ {l : List (Nat × Ty)} {i : Nat} {t : Ty}, l.lookup i = some t → i ∈ l.map (·.1)
  | [], _, _, h => by cases h
  | (j, u) :: r, i, t, h => by
    rw [List.lookup_cons] at h
    by_cases hj : (i == j) = true
    · rw [beq_iff_eq] at hj; subst hj; exact List.mem_cons_self
    · rw [Bool.not_eq_true] at hj
      rw [hj] at h
      exact List.mem_cons_of_mem _ (lookTy_mem h)
noncomputable def CdOk (K : PySem.W.Frag) (f : Addr) (cdv : Value) : Prop := ∃ oc od fd osl, K.lookup f = some ⟨oc, od, .func fd, osl⟩ ∧ fd.code = cdv
theorem fn_okC {P : Program} {w : World} {K : PySem.W.Frag} {mg : Str → Option Value} {base : Heap} {x qual : Str} {st : Stmt} {f : Addr} {fd : FuncData} {N ps : List Str} {k : Nat} {sp : Sp} (F : Fun K x qual st f fd) (S : FnScope N ps (defScope st)) (len : ∀ vs H Q E, sp vs H Q E → vs.length = ps.length)
    (body : ∀ cdv, CdOk K f cdv → ∀ A outer s H vs Q E, Room k (A.deeper (envOfC qual (defScope st) s.heap.objs.size f cdv)) → sp vs H Q E → ∃ t, PSs (cxOf CX0 P w K mg base N qual (defScope st) f cdv A outer s H E).nox (defBody st) t ∧ t { nx := fun _ H' => Q .non H', rt := Q } (start N vs) H) : FnOk P w K mg base CX0 (k + 1) f fd ps sp := by
  refine L2.o_EEEEEEEEEAA (F.ex) fun a1 a2 a3 a4 a5 a6 cdv a7 a8 e lk hc => ?_
  subst e
  exact fn_of lk hc S len fun A outer s H vs Q E hr hs => by
    refine L2.o_EA (body cdv ⟨_, _, _, _, lk, rfl⟩ A outer s H vs Q E hr hs) fun t h1 h2 => ?_
    exact ⟨t, h1.nox, h2⟩
theorem fn_pure {P : Program} {w : World} {K : PySem.W.Frag} {mg : Str → Option Value} {base : Heap} {x qual : Str} {st : Stmt} {f : Addr} {fd : FuncData} {N ps : List Str} {k : Nat} {Fs : List PyData → Option PyData} (O : Ow) (F : Fun K x qual st f fd) (S : FnScope N ps (defScope st))
    (hl : ∀ ds r, Fs ds = some r → ds.length = ps.length)
    (hO : ∀ i ∈ O.s.map (·.1), ps.length ≤ i) (B : Rho → Option Out)
    (hbody : ∀ (cdv : Value), CdOk K f cdv → ∀ (A : Around) (outer : List Env) (s : Shared) (H : Hp) (E : XK), Room k (A.deeper (envOfC qual (defScope st) s.heap.objs.size f cdv)) →
      PSsv (cxOf CX0 P w K mg base N qual (defScope st) f cdv A outer s H E).nox O (defBody st) B)
    (hs : ∀ ds r, Fs ds = some r → B (ds.map some ++ List.replicate (N.length - ds.length) none) = some (.rt r) ∨ (r = .none ∧ ∃ ρ, B (ds.map some ++ List.replicate (N.length - ds.length) none) = some (.nx ρ))) :
    FnOk P w K mg base CX0 (k + 1) f fd ps (spR K O.r Fs) := by
  refine fn_okC F S (fun vs H Q E h => ?_) (fun cdv hk A outer s H vs Q E hr h => ?_)
  · refine L2.o_EEEAAA (h) fun hid ds r _ D hf _ => ?_
    rw [D.length]
    exact hl ds r hf
  · refine L2.o_EEEAAA (h) fun hid ds r hh D hf q => ?_
    refine ⟨_, hbody cdv hk A outer s H E hr, ?_⟩
    have hdl := D.length
    have hpl := hl ds r hf
    have E0 : EnvOk K O hid H (start N vs) H (ds.map some ++ List.replicate (N.length - ds.length) none) [] := by
      have get : ∀ (i : Nat) (d : PyData), (ds.map some ++ List.replicate (N.length - ds.length) none)[i]? = some (some d) → i < ds.length ∧ ∃ v, (start N vs)[i]? = some (some v) ∧ Den K (del H hid) v d := fun i d e => by
        by_cases hi : i < ds.length
        · rw [List.getElem?_append_left (by simpa using hi), List.getElem?_map] at e
          cases q : ds[i]? with
          | none => rw [q] at e; cases e
          | some d' =>
            rw [q] at e
            cases e
            refine L2.o_EA (D.get q) fun v h1 h2 => ?_
            refine ⟨hi, v, ?_, h2⟩
            unfold start
            rw [List.getElem?_append_left (by simpa [hdl] using hi), List.getElem?_map, h1]
            rfl
        · rw [List.getElem?_append_right (by simpa using Nat.le_of_not_lt hi), List.getElem?_replicate] at e
          split at e <;> cases e
      refine ⟨by unfold start; simp [hdl], fun b o e => by rw [del_out (by simp)]; exact e, fun i d hi e => ?_, ⟨fun _ => [], fun i t d hi e => ?_, fun i j p _ z => (by cases z), fun i p z => (by cases z)⟩, fun l z => (by cases z), hh, fun _ => rfl⟩
      · refine L2.o_AEA (get i d e) fun _ v h1 h2 => ?_
        exact ⟨v, h1, by rw [uni_nil]; exact h2⟩
      · have := (get i d e).1
        have := hO i (lookTy_mem hi)
        omega
    rcases hs ds r hf with h | ⟨rfl, ρ, h⟩
    · exact ⟨hid, H, _, [], _, E0, h, fun v as H' s' n Dv => q v as H' s' n Dv⟩
    · exact ⟨hid, H, _, [], _, E0, h, fun σ' H' ow' s' E' => q .non [] H' E'.baseS (fun p hp => by cases hp) .non⟩
end L2
namespace L2
open PySem PySem.Spec PyProof.Rows
variable [Reg]
end L2
namespace L2
open PySem PySem.Spec PyProof.Rows
variable [Reg]
section
variable {X : Cx} {O : Ow} {i : Nat} {x : Str} {pos' spos : Pos} {elt tg iter : Expr} {ifs : List Expr} {scope : Scope} {pos : Pos} {fi : Rho → Option (List PyData)} {S : PyData → Rho → Option Rho} {ft : Rho → Option Bool} {fe : Rho → Option PyData} {k : Nat} {N : List Str} {ix : List Nat}
end
section
variable {X : Cx} {O : Ow} {i : Nat} {e a : Expr} {f fa : Rho → Option PyData} {pos p : Pos}
noncomputable def tO (K : PySem.W.Frag) (O : Ow) (f : Rho → Option (Option Int)) : TO := fun σ H Q => At5 K O f σ H fun hid H0 ρ ow o => ∀ H', Same H H' → Q o H'
noncomputable abbrev POv (X : Cx) (O : Ow) (e : Option Expr) (f : Rho → Option (Option Int)) : Prop := PO X e (tO X.K O f)
noncomputable def intO : PyData → Option Int
  | .int i => some i
  | _ => none
theorem intO_some {d : PyData} {i : Int} (h : intO d = some i) : d = .int i := by
  unfold intO at h
  split at h
  · cases h; rfl
  · cases h
noncomputable def intsO : List PyData → Option (List Int)
  | [] => some []
  | .int i :: r => (intsO r).map (i :: ·)
  | _ :: _ => none
theorem intsO_map : ∀ (ns : List Int), intsO (ns.map .int) = some ns
  | [] => rfl
  | n :: r => by rw [List.map_cons, intsO, intsO_map r]; rfl
theorem intsO_some : ∀ {ds : List PyData} {ns : List Int}, intsO ds = some ns → ds = ns.map .int
  | [], ns, h => by cases h; rfl
  | d :: r, ns, h => by
    cases d with
    | int i =>
      rw [intsO] at h
      obtain ⟨ms, h1, rfl⟩ := map_some h
      rw [List.map_cons, ← intsO_some h1]
    | _ => cases h
theorem DenL.isInts {K : PySem.W.Frag} {H : Hp} : ∀ {vs : List V} {ns : List Int}, DenL K H vs (ns.map .int) → vs = ns.map .int
  | _, [], h => denl_nil h
  | vs, n :: r, h => by
    refine L2.o_EEAA (denl_cons h) fun v ws zq2 h1 h2 => ?_
    subst zq2
    rw [den_int h1, DenL.isInts h2]
    rfl
theorem pick_rev (its : List Value) : slicePick its.toArray none none (some (-1)) = its.reverse.toArray := by
  have hb : sliceBounds none none (some (-1)) its.toArray.size = ((its.length : Int) - 1, -1, -1) := by simp [sliceBounds]
  unfold slicePick
  rw [hb]
  congr 1
  have hr : sliceRange ((its.length : Int) - 1) (-1) (-1) = (List.range its.length).map fun k => its.length - 1 - k := by
    unfold sliceRange
    have hc : (if (-1 : Int) > 0 then (if ((its.length : Int) - 1) < -1 then (-1 - ((its.length : Int) - 1) + -1 - 1) / -1 else 0) else (if ((its.length : Int) - 1) > -1 then (((its.length : Int) - 1) - -1 - -1 - 1) / (-(-1)) else 0)) = (its.length : Int) := by
      rw [if_neg (by decide)]
      split
      · have : (((its.length : Int) - 1) - -1 - -1 - 1) = its.length := by omega
        rw [this]
        simp
      · omega
    simp only [hc, Int.toNat_natCast]
    refine List.map_congr_left fun k hk => ?_
    have := List.mem_range.mp hk
    omega
  rw [hr, List.filterMap_map]
  apply List.ext_getElem?
  intro j
  have hf : (List.range its.length).filterMap ((fun x => its.toArray[x]?) ∘ fun k => its.length - 1 - k) = (List.range its.length).map fun k => its.getD (its.length - 1 - k) .none := by
    have gen : ∀ (l : List Nat), (∀ k ∈ l, k < its.length) → l.filterMap ((fun x => its.toArray[x]?) ∘ fun k => its.length - 1 - k) = l.map fun k => its.getD (its.length - 1 - k) .none := fun l => by
      induction l with
      | nil => intro _; rfl
      | cons k r ih =>
        intro h
        have hk := h k List.mem_cons_self
        have hlt : its.length - 1 - k < its.length := by omega
        rw [List.map_cons, ← ih fun z hz => h z (List.mem_cons_of_mem _ hz)]
        simp [hlt]
    exact gen _ fun k hk => List.mem_range.mp hk
  rw [hf, List.getElem?_map]
  by_cases hj : j < its.length
  · rw [List.getElem?_range hj, List.getElem?_reverse hj]
    have hlt : its.length - 1 - j < its.length := by omega
    simp [hlt]
  · have h1 : (List.range its.length)[j]? = none := List.getElem?_eq_none (by rw [List.length_range]; omega)
    have h2 : its.reverse[j]? = none := List.getElem?_eq_none (by rw [List.length_reverse]; omega)
    rw [h1, h2]
    rfl
theorem DenL.rev {K : PySem.W.Frag} {H : Hp} : ∀ {vs : List V} {ds : List PyData}, DenL K H vs ds → DenL K H vs.reverse ds.reverse
  | _, _, .nil => .nil
  | _, _, .cons h r => by
    rw [List.reverse_cons, List.reverse_cons]
    exact (DenL.rev r).append (.cons h .nil)
theorem vals_rev : ∀ {vs : List V} {us : List Value}, Vals vs us → Vals vs.reverse us.reverse := fun r => r.reverse
noncomputable def revD : PyData → Option (List PyData)
  | .list ds => some ds.reverse
  | _ => none
theorem fr_rev {st : Expr} {p2 : Pos} (ha : PR X O a fa) (hst : PE X st (tC (.int (-1)))) : PFr X O (.Subscript a (.Slice none none (some st) p2) pos) (fun ρ => (fa ρ).bind revD) := by
  intro pins s σ H Q I h
  obtain ⟨hid, H0, ρ, ow, out, E, hf, k⟩ := h
  obtain ⟨d, g1, g2⟩ := bind_some hf
  refine Subscript_ (thn (ha pins s σ H _ I ⟨hid, H0, ρ, ow, d, E, g1, fun v H' s' D => ((⟨s', D⟩ : Same H H' ∧ Den X.K (del H' hid) v d))⟩) fun v s1 zpat => ?_)
  obtain ⟨x, H1, I1, r1, s01, D1⟩ := zpat
  refine wpAny_Slice ?_
  rw [evalPart_none]
  refine wpAny_pure ?_
  refine wpAny_pure ?_
  rw [evalPart_some]
  refine thn (hst pins s1 σ H1 (fun y H' => y = .int (-1) ∧ H' = H1) I1 ⟨rfl, rfl⟩) fun u s2 zpat => ?_
  obtain ⟨y, H2, I2, r2, e2, e3⟩ := zpat
  subst e2 e3
  revert r2
  refine fun zqq => L2.o_E zqq fun tk zq1 => ?_
  clear zqq
  subst zq1
  unfold revD at g2
  split at g2
  case h_2 => cases g2
  cases g2
  obtain ⟨q, vs, rfl, q1, r3⟩ := den_lst D1
  cases r1
  have I4 : Inv X pins σ H2 { s2 with heap := s2.heap.push { cls := .type "slice", data := .fields #[.none, .none, .int (-1) tk] } } := I2.kept (t' := s2.toks) fun b ob q => Heap.get?_push_of_some _ q
  refine L2.o_EAA (I4.list ((del_same _ _).seq q1)) fun its r ht hz => ?_
  have hlen := r.length
  refine tail_any (ops := [.ref q, .ref s2.heap.objs.size]) ht.isList.typeIs slot_list_getitem.lookup ?_ (by with_unfolding_all rfl)
  refine wpAny_getItem_list_slice ht.isList (Heap.IsSliceOf.new ..) .none .none (.int (-1) tk) (by simp) ?_ (by rw [List.size_toArray] <;> omega)
  rw [pick_rev]
  have hfr := I4.hok.fresh (Nat.le_refl _)
  refine ⟨.ref _, _, I4.laid (t' := s2.toks) (o := .lst vs.reverse) (fun b ob q => Heap.get?_push_of_some _ q) (Nat.le_refl _) ⟨by rw [List.length_reverse]; exact hz, its.reverse, 0, vals_rev r, Heap.get?_push_size _ rfl⟩, rfl, ?_⟩
  exact k _ _ _ (s01.trans (same_new hfr)) (s01.free hfr) upd_same ((r3.rev).mono (del_new (same_new hfr) hfr fun b z => by rcases z with z | z; exact .inl z; exact .inr (by simpa using z)))
theorem pe_m1 {j : Nat} {p1 p3 : Pos} : PE X (.UnaryOp .USub (.Constant (.int 1) j p1) p3) (tC (.int (-1))) := (pe_un un_neg pe_int).imp fun σ H Q h => ⟨1, rfl, h⟩
end
end L2
namespace L2
open PySem PySem.Spec PyProof.Rows
variable [Reg]
noncomputable def natAt (ρ : Rho) (i : Nat) : Nat := match (ρ[i]?).join with
  | some (.int k) => k.natAbs
  | some (.list ds) => ds.length
  | _ => 0
theorem bt_len : bootBuiltins "len" = some (.builtin "len") := by decide +kernel
theorem bt_abs : bootBuiltins "abs" = some (.builtin "abs") := by decide +kernel
theorem bt_max : bootBuiltins "max" = some (.builtin "max") := by decide +kernel
theorem bt_min : bootBuiltins "min" = some (.builtin "min") := by decide +kernel
theorem bt_int : bootBuiltins "int" = some (.type "int") := by decide +kernel
noncomputable def outD : Option Out → Option PyData
  | some (.rt r) => some r
  | some (.nx _) => some .none
  | _ => none
noncomputable def runD (n m : Nat) (B : Rho → Option Out) (ds : List PyData) : Option PyData := if ds.length = n then outD (B (ds.map some ++ List.replicate m none)) else none
theorem runD_some {n m : Nat} {B : Rho → Option Out} {ds : List PyData} {r : PyData} (h : runD n m B ds = some r) : ds.length = n ∧ outD (B (ds.map some ++ List.replicate m none)) = some r := by
  unfold runD at h
  split at h
  · exact ⟨by assumption, h⟩
  · cases h
theorem fn_auto {P : Program} {w : World} {K : PySem.W.Frag} {mg : Str → Option Value} {base : Heap} {x qual : Str} {st : Stmt} {f : Addr} {fd : FuncData} {N ps : List Str} {k : Nat} (O : Ow) (F : Fun K x qual st f fd) (S : FnScope N ps (defScope st))
    (hO : ∀ i ∈ O.s.map (·.1), ps.length ≤ i) (B : Rho → Option Out)
    (hbody : ∀ (cdv : Value), CdOk K f cdv → ∀ (A : Around) (outer : List Env) (s : Shared) (H : Hp) (E : XK), Room k (A.deeper (envOfC qual (defScope st) s.heap.objs.size f cdv)) →
      PSsv (cxOf CX0 P w K mg base N qual (defScope st) f cdv A outer s H E).nox O (defBody st) B) :
    FnOk P w K mg base CX0 (k + 1) f fd ps (spR K O.r (runD ps.length (N.length - ps.length) B)) := by
  refine fn_pure O F S (fun ds r h => (runD_some h).1) hO B hbody fun ds r h => ?_
  refine L2.o_A (runD_some h) fun h1 h2 => ?_
  rw [h1]
  unfold outD at h2
  split at h2
  · rename_i q
    cases h2
    exact .inl q
  · rename_i ρ q
    cases h2
    exact .inr ⟨rfl, ρ, q⟩
  · cases h2
noncomputable def DefOk (P : Program) (w : World) (K : PySem.W.Frag) (mg : Str → Option Value) (base : Heap) (k : Nat) (x : Str) (ps : List Str) (T : Ty) (F : List PyData → Option PyData) : Prop :=
  ∃ f fd, FnOk P w K mg base CX0 k f fd ps (spR K T F) ∧ mg x = some (.ref f) ∧ PySem.W.keepIn K (.ref f) = true ∧ Binds K fd ps [] ∧ PySem.W.nsIn K mainGlobals x = some (some (.ref f))
section
variable {X : Cx} {O : Ow} {a : Expr} {es : List Expr} {pos p : Pos} {fs : Rho → Option (List PyData)} {k : Nat} {ps : List Str} {x : Str} {T : Ty} {F : List PyData → Option PyData}
theorem r_callD (G : DefOk X.prog X.w X.K X.mg X.base k x ps T F) (hr : Room k X.A) (hg : Gl X x) (ha : PAr X O (a :: es) fs) (hdb : (x == ("__debug__" : Str)) = false := by decide) (he : starEach (a :: es) X.env = (false, eval a X.env) :: starEach es X.env := by rfl) (hpl : (backTo pos (starEach es X.env)).any (·.1) = false := by rfl) :
    PR X O (.Call (.Name x p) (a :: es) [] pos) (fun ρ => (fs ρ).bind F) := by
  refine L2.o_EEAAAA (G) fun f fd h1 h2 h3 h4 _ => ?_
  exact r_call h1 hr hg h2 h3 h4 ha hdb he hpl
theorem v_callD (G : DefOk X.prog X.w X.K X.mg X.base k x ps T F) (hr : Room k X.A) (hg : Gl X x) (ha : PAv X O (a :: es) fs) (hdb : (x == ("__debug__" : Str)) = false := by decide) (he : starEach (a :: es) X.env = (false, eval a X.env) :: starEach es X.env := by rfl) (hpl : (backTo pos (starEach es X.env)).any (·.1) = false := by rfl) :
    PV X O (.Call (.Name x p) (a :: es) [] pos) (fun ρ => (fs ρ).bind F) := by
  refine L2.o_EEAAAA (G) fun f fd h1 h2 h3 h4 _ => ?_
  exact v_call h1 hr hg h2 h3 h4 ha hdb he hpl
end
theorem len0 {P : List Value → Prop} {us : List Value} (h : us.length = 0) (k : P []) : P us := by
  cases us with
  | nil => exact k
  | cons a r => cases h
theorem lenS {P : List Value → Prop} {us : List Value} {n : Nat} (h : us.length = n + 1) (k : ∀ a r, r.length = n → P (a :: r)) : P us := by
  cases us with
  | nil => cases h
  | cons a r => exact k a r (Nat.succ.inj h)
theorem len1 {P : List Value → Prop} {us : List Value} (h : us.length = 1) (k : ∀ a, P [a]) : P us := lenS h fun a r h => len0 (P := fun r => P (a :: r)) h (k a)
theorem len2 {P : List Value → Prop} {us : List Value} (h : us.length = 2) (k : ∀ a b, P [a, b]) : P us := lenS h fun a r h => len1 (P := fun r => P (a :: r)) h (k a)
theorem len3 {P : List Value → Prop} {us : List Value} (h : us.length = 3) (k : ∀ a b c, P [a, b, c]) : P us := lenS h fun a r h => len2 (P := fun r => P (a :: r)) h (k a)
end L2
namespace L2
open PySem PySem.Spec PyProof.Rows
variable [Reg]
noncomputable def Keeps (P : Program) (w : World) (h : Heap) (g : Addr) : Prop := ∃ k, (k = Keeper.frame ∨ k = Keeper.machine ∨ k = Keeper.boundFrame) ∧ PySem.W.Looks (model P w) h (keeperOf (.ref g)) k
structure FvOk (P : Program) (w : World) (K : PySem.W.Frag) (mg : Str → Option Value) (base : Heap) (k : Nat) (tag : Str) (F : List PyData → Option PyData) : Prop where
  keep : ∀ (A : Around) (outer : List Env) (s : Shared) (H : Hp) (g : Addr) (cv : List V), Env0 P w K mg base A outer s H → FnV K H g tag cv → Keeps P w s.heap g
  run : ∀ (A : Around) (outer : List Env) (s : Shared) (H : Hp) (g : Addr) (cv : List V) (us : List Value) (vs : List V) (Q : VK) (E : XK), Room k A → Env0 P w K mg base A outer s H → FnV K H g tag cv → Vals vs us → spR K .cl F (vs ++ cv) H Q E →
    codeAny (model P w) A (.call (.ref g) ⟨us, []⟩) (CR CX0 outer P w H s Q E) s
noncomputable abbrev FTab := List (Str × (List PyData → Option PyData))
section
variable {X : Cx} {O : Ow} {a : Expr} {es : List Expr} {pos p : Pos} {fs : Rho → Option (List PyData)} {fx : Rho → Option PyData} {k : Nat} {ps : List Str} {x : Str} {T : FTab} {T' : Ty} {F : List PyData → Option PyData}
end
end L2
namespace L2
open PySem PySem.Spec PyProof.Rows
variable [Reg]
theorem clo_names {env : Env} : ∀ (l : List (Str × NameKind)) (b : List (Str × Addr)), (l.foldl (cloStep env) b).map (fun z => z.1) = ((l.filter fun x => x.2 == .free).map (fun z => z.1)).reverse ++ b.map (fun z => z.1)
  | [], b => by simp
  | x :: r, b => by
    rw [List.foldl_cons, clo_names r]
    unfold cloStep
    by_cases h : (x.2 == NameKind.free) = true
    · simp [h]
    · simp [h]
theorem snd_inj : ∀ {l : List (Str × Addr)} {x y : Str} {c : Addr}, (l.map (fun z => z.2)).Nodup → (x, c) ∈ l → (y, c) ∈ l → x = y
  | [], _, _, _, _, h, _ => by cases h
  | z :: r, x, y, c, nd, h1, h2 => by
    rw [List.map_cons, List.nodup_cons] at nd
    rcases List.mem_cons.mp h1 with e1 | h1
    · rcases List.mem_cons.mp h2 with e2 | h2
      · rw [← e1] at e2; exact (Prod.mk.inj e2).1.symm
      · exact absurd (List.mem_map.mpr ⟨(y, c), h2, by rw [← e1]⟩) nd.1
    · rcases List.mem_cons.mp h2 with e2 | h2
      · exact absurd (List.mem_map.mpr ⟨(x, c), h1, by rw [← e2]⟩) nd.1
      · exact snd_inj nd.2 h1 h2
theorem look_at : ∀ {l : List (Str × Addr)} {i : Nat} {z : Str × Addr}, (l.map (fun z => z.1)).Nodup → l[i]? = some z → l.lookup z.1 = some z.2
  | [], _, _, _, h => by simp at h
  | y :: r, 0, z, nd, h => by
    simp at h
    subst h
    rw [List.lookup_cons]
    simp
  | y :: r, i + 1, z, nd, h => by
    rw [List.map_cons, List.nodup_cons] at nd
    have h' : r[i]? = some z := by simpa using h
    have hne : z.1 ≠ y.1 := fun e => nd.1 (List.mem_map.mpr ⟨z, List.mem_of_getElem? h', e⟩)
    have hb : (z.1 == y.1) = false := beq_eq_false_iff_ne.mpr hne
    rw [List.lookup_cons, hb]
    exact look_at nd.2 h'
theorem zip_last : ∀ {ps : List Str} {us : List Value} {i : Nat} {x : Str} {u : Value}, ps.Nodup → ps[i]? = some x → us[i]? = some u → (ps.zip us).reverse.lookup x = some u
  | [], _, _, _, _, _, h, _ => by simp at h
  | _ :: _, [], _, _, _, _, _, h => by simp at h
  | p :: r, w :: us, 0, x, u, nd, h1, h2 => by
    simp at h1 h2
    subst h1
    subst h2
    have hn : ((r.zip us).reverse).lookup p = none := by
      rw [List.lookup_eq_none_iff]
      intro q hq
      have := (List.of_mem_zip (List.mem_reverse.mp hq)).1
      have hne : p ≠ q.1 := fun e => (List.nodup_cons.mp nd).1 (e ▸ this)
      simpa using hne
    rw [List.zip_cons_cons, List.reverse_cons, List.lookup_append, hn]
    simp
  | p :: r, w :: us, i + 1, x, u, nd, h1, h2 => by
    have := zip_last (i := i) (List.nodup_cons.mp nd).2 (by simpa using h1) (by simpa using h2)
    rw [List.zip_cons_cons, List.reverse_cons, List.lookup_append, this]
    simp
theorem lam_q {P q : Program} (h : ((lamNames P).all fun y => ((recsOf q).find? fun e => e.name == y).isSome) = true) : ∀ y ∈ lamNames P, ((recsOf q).find? fun e => e.name == y).isSome = true := List.all_eq_true.mp h
theorem lam_k {P : Program} {K : PySem.W.Frag} (h : ((lamNames P).all fun y => match PySem.W.tabIn K y with | some z => (K.lookup z.2).isNone | none => true) = true) (y : Str) (c p : Addr) (hy : y ∈ lamNames P) (e : PySem.W.tabIn K y = some (c, p)) : K.lookup p = none := by
  have := List.all_eq_true.mp h y hy
  rw [e] at this
  simpa using this
noncomputable def lamOf : Expr → Arguments × Expr × Scope
  | .Call _ (.Lambda a b s _ :: _) _ _ => (a, b, s)
  | .Call _ _ (⟨_, .Lambda a b s _, _⟩ :: _) _ => (a, b, s)
  | _ => (⟨[], [], none, [], [], none, []⟩, .Constant .none 0 ⟨0, 0, 0, 0⟩, { kind := .function, names := [], isGenerator := false, isCoroutine := false })
noncomputable def stExpr : Stmt → Expr
  | .Return (some e) _ => e
  | .Assign _ e _ => e
  | .Expr e _ => e
  | _ => .Constant .none 0 ⟨0, 0, 0, 0⟩
noncomputable def envLam (L : Lam) (n : Addr) (clos : List (Str × Addr)) (g c' : Addr) (q : Str) : Env := newEnv L.scope n mainGlobals clos (q ++ ".<locals>.") (some g) (.ref c') none builtinsNs
noncomputable def cxLam (P : Program) (w : World) (K : PySem.W.Frag) (mg : Str → Option Value) (base : Heap) (L : Lam) (clos : List (Str × Addr)) (g c' : Addr) (q : Str) (A : Around) (outer : List Env) (s : Shared) (H : Hp) : Cx where
  prog := P
  w := w
  K := K
  mg := mg
  base := base
  A := A.deeper (envLam L s.heap.objs.size clos g c' q)
  N := L.ps ++ L.free
  s₀ := s
  H₀ := H
  env := envLam L s.heap.objs.size clos g c' q
  outer := outer
  stack := envLam L s.heap.objs.size clos g c' q :: outer
  ex := []
  fn := fun _ => false
  calm := true
  pn := []
  xe := fun _ _ => False
structure LamSc (L : Lam) : Prop where
  kind : L.scope.kind = .function
  co : L.scope.isCoroutine = false
  gen : L.scope.isGenerator = false
  nocell : ∀ y ∈ L.scope.names, y.2 ≠ .cell
  par : ∀ x ∈ L.ps, L.scope.names.lookup x = some .local
  fr : ((L.scope.names.filter fun x => x.2 == .free).map (fun z => z.1)).reverse = L.free
  frl : ∀ x ∈ L.free, L.scope.names.lookup x = some .free
  nd : L.ps.Nodup
  ndf : L.free.Nodup
section
variable {P : Program} {w : World} {K : PySem.W.Frag} {mg : Str → Option Value} {base : Heap} {L : Lam} {clos : List (Str × Addr)} {g c' : Addr} {q : Str} {A : Around} {outer : List Env} {s : Shared} {H : Hp}
theorem inv_lam (S : LamSc L) (hd : A.handled = none) (e0 : Env0 P w K mg base A outer s H) {vs cv : List V} {us : List Value} (hl : vs.length = L.ps.length) (hc : cv.length = clos.length) (hcn : clos.map (fun z => z.1) = L.free) (hcd : (clos.map (fun z => z.2)).Nodup)
    (hcv : ∀ (i : Nat) (z : Str × Addr) (v : V), clos[i]? = some z → cv[i]? = some v → ∃ u o, H z.2 = some (fz z.2 o) ∧ o.data = .cell (some u) ∧ RelV v u) (r : Vals vs us) {h' : Heap} {t : Nat} (hns : h'.Ns s.heap.objs.size fun x => (L.ps.zip us).reverse.lookup x) (hk : ∀ b o, s.heap.get? b = some o → h'.get? b = some o) :
    Inv (cxLam P w K mg base L clos g c' q A outer s H) [] ((vs ++ cv).map some) H { s with heap := h', toks := t } := by
  have noA : ∀ b : Addr, b ∉ (cxLam P w K mg base L clos g c' q A outer s H).ex := fun b z => absurd (show b ∈ ([] : List Addr) from z) (by simp)
  have at_ : ∀ {x : Str} {c : Addr}, clos.lookup x = some c → ∃ i u o v, clos[i]? = some (x, c) ∧ cv[i]? = some v ∧ H c = some (fz c o) ∧ o.data = .cell (some u) ∧ RelV v u := fun {x c} e => by
    refine L2.o_E (List.getElem?_of_mem (PySem.mem_of_lookup e)) fun i hi => ?_
    have hlt : i < cv.length := by rw [hc]; exact (List.getElem?_eq_some_iff.mp hi).1
    have hv := List.getElem?_eq_getElem hlt
    refine L2.o_EEAA (hcv i (x, c) _ hi hv) fun u o h1 h2 h3 => ?_
    exact L2.i_EEEEAAAA (i) (u) (o) (_) (hi) (hv) (h1) (h2) (h3)
  have cellAt : ∀ {c : Addr} {o : Obj} {u : Value}, H c = some (fz c o) → o.data = .cell (some u) → h'.IsCell c (some u) := fun {c o u} h1 h2 => ⟨o, hk c o (e0.hok c _ h1).1, h2⟩
  have inF : ∀ x, L.scope.names.lookup x = some .free → x ∈ L.free := fun x hx => by
    rw [← S.fr]
    exact List.mem_reverse.mpr (List.mem_map.mpr ⟨(x, .free), List.mem_filter.mpr ⟨PySem.mem_of_lookup hx, rfl⟩, rfl⟩)
  have hasF : ∀ x ∈ L.free, ∃ c, clos.lookup x = some c := fun x hx => by
    rw [← hcn] at hx
    refine L2.o_EA (List.mem_map.mp hx) fun z hz e => ?_
    cases q2 : clos.lookup x with
    | some c => exact ⟨c, rfl⟩
    | none =>
      rw [List.lookup_eq_none_iff] at q2
      have := q2 z hz
      rw [e] at this
      simp at this
  refine ⟨⟨e0.mod, S.kind, rfl, rfl, Nat.le_refl _, fun y z c h1 h2 => ?_, fun y hy => ?_, fun y c z _ => (by cases z), fun _ => hd, Around.frames_deeper e0.frames, .inr ⟨rfl, rfl⟩, fun b z => absurd z (noA b), e0.bs, e0.bsz, fun b _ _ => noA b, fun b z => absurd z (noA b), e0.funs, e0.frf, e0.tabs⟩,
    rfl, e0.bare, Un.kept hk, ⟨_, hns, fun i y v h1 h2 h3 => ?_⟩, fun y c h => ?_, e0.hok.fresh (Nat.le_refl _), fun y c h => ?_, fun p hp => absurd (show p ∈ ([] : List (Addr × Obj)) from hp) (by simp), e0.hok.kept hk, ?_⟩
  · exact snd_inj hcd (PySem.mem_of_lookup h1) (PySem.mem_of_lookup h2)
  · have hy : L.scope.names.lookup y = some .cell ∨ L.scope.names.lookup y = some .free := hy
    rcases hy with hy | hy
    · exact absurd rfl (S.nocell _ (PySem.mem_of_lookup hy))
    · exact hasF y (inF y hy)
  · have h1 : (L.ps ++ L.free)[i]? = some y := h1
    have h2 : ((vs ++ cv).map some)[i]? = some (some v) := h2
    have hv : (vs ++ cv)[i]? = some v := by
      rw [List.getElem?_map] at h2
      cases e : (vs ++ cv)[i]? with
      | none => rw [e] at h2; cases h2
      | some a => rw [e] at h2; cases h2; rfl
    by_cases hi : i < L.ps.length
    · rw [List.getElem?_append_left hi] at h1
      rw [List.getElem?_append_left (by omega)] at hv
      refine L2.o_EA (r.get hv) fun u hu rv => ?_
      exact ⟨u, rv, .inl ⟨S.par y (List.mem_of_getElem? h1), zip_last S.nd h1 hu⟩⟩
    · rw [List.getElem?_append_right (by omega)] at h1 hv
      rw [hl] at hv
      have hz : (clos.map (fun z => z.1))[i - L.ps.length]? = some y := by rw [hcn]; exact h1
      rw [List.getElem?_map] at hz
      cases e : clos[i - L.ps.length]? with
      | none => rw [e] at hz; cases hz
      | some z =>
        rw [e] at hz
        have ez : z.1 = y := Option.some.inj hz
        refine L2.o_EEAA (hcv _ z v e hv) fun u o a1 a2 a3 => ?_
        refine ⟨u, a3, .inr ⟨.inr (S.frl y (List.mem_of_getElem? h1)), z.2, ?_, cellAt a1 a2⟩⟩
        show clos.lookup y = some z.2
        rw [← ez]
        exact look_at (by rw [hcn]; exact S.ndf) e
  · refine L2.o_EEEEAAAA (at_ h) fun i u o v _ _ a1 a2 _ => ?_
    exact ⟨_, cellAt a1 a2⟩
  · refine L2.o_EEEEAAAA (at_ h) fun i u o v _ _ a1 a2 _ => ?_
    exact .inr ⟨rfl, o, _, a1⟩
  · show ((vs ++ cv).map some).length = (L.ps ++ L.free).length
    rw [List.length_map, List.length_append, List.length_append, hl, hc, ← hcn, List.length_map]
theorem callE {R : Result → Shared → Prop} {a : Addr} {args : Args} {o : Obj} {fd : FuncData} {e : Expr} (room : A.depth < recursionLimit) (at_ : s.heap.get? a = some o) (isf : o.data = .func fd) (nco : fd.scope.isCoroutine = false) (ngen : fd.scope.isGenerator = false) (isE : fd.body = .expr e) (code : s.heap.CodeRec fd.code q)
    (go : wpAny (model P w) A.in1 (bindArgs fd args) (fun bs s1 => wpAny (model P w) A.in1 (newFunctionEnv fd.scope fd.globals fd.closure bs (q ++ ".<locals>.") (some a) fd.code none fd.builtins) (fun env s2 => s2.heap.NoLimit ∧ codeAny (model P w) A (.expr e env) R s2) (fun x s3 => R (.error x) s3) s1) (fun x s3 => R (.error x) s3) s) :
    codeAny (model P w) A (.call (.ref a) args) R s := by
  refine L2.o_EEEEAAA (code) fun k ok fs tk ek hk1 hk2 hk3 => ?_
  rw [ek] at go
  have body : wpAny (model P w) A.in1 (callAny (.ref a) args) (fun fin s' => match fin with | .done f => R (.ok f) s' | .again c' => c'.quiet = true ∧ codeAny (model P w) A c' R s') (fun x s' => R (.error x) s') s := by
    unfold callAny
    refine wpAny_bind (wpAny_load at_ ?_)
    simp only [isf, callFunction, nco, ngen, isE, ek]
    refine wpAny_bind (m := field (.ref k) 1) (wpAny_field hk1 hk2 hk3 (wpAny_bind (wpAny_pure (wpAny_bind (wpAny_mono go (fun bs s1 g1 => ?_) fun _ _ z => z)))))
    refine wpAny_bind (wpAny_mono g1 (fun env s2 g2 => ?_) fun _ _ z => z)
    exact wpAny_bind (wpAny_enterFrame g2.1 room (wpAny_pure ⟨rfl, g2.2⟩))
  exact codeAny_of_tree body
noncomputable def runL (n : Nat) (fe : Rho → Option PyData) (ds : List PyData) : Option PyData := if ds.length = n then fe (ds.map some) else none
theorem fv_lam {k : Nat} {tag : Str} (hreg : Reg.reg tag = some L) (S : LamSc L) (fe : Rho → Option PyData)
    (hbind : ∀ (clos : List (Str × Addr)) (pm : Value) (c' : Addr) (ctv : Value) (us : List Value), us.length = L.ps.length → bindArgs (PySem.W.kla_fn "<lambda>" L.qual L.params L.body L.scope clos pm (.ref c') ctv) ⟨us, []⟩ = pure (L.ps.zip us))
    (hbody : ∀ (clos : List (Str × Addr)) (g c' : Addr) (q : Str) (A : Around) (outer : List Env) (s : Shared) (H : Hp), Room k (A.deeper (envLam L s.heap.objs.size clos g c' q)) → PR (cxLam P w K mg base L clos g c' q A outer s H) O0 L.body fe) :
    FvOk P w K mg base (k + 1) tag (runL (L.ps.length + L.free.length) fe) := by
  have at_ : ∀ {H : Hp} {g : Addr} {cv : List V}, FnV K H g tag cv → LamAt H g L cv := fun {H g cv} h => by
    rcases h with ⟨z, _⟩ | ⟨L', e, h⟩
    · rw [hreg] at z; cases z
    · rw [hreg] at e; cases e; exact h
  refine ⟨fun A outer s H g cv e0 h => ?_, fun A outer s H g cv us vs Q E hr e0 h r hs => ?_⟩
  · refine L2.o_EEEEEEEEEA (at_ h) fun clos pm c' ctv oc fs q t φ h1 _ => ?_
    exact PySem.W.keeps_F _ ⟨_, _, _, _, (e0.hok g _ h1).1⟩
  · refine L2.o_EEEEEEEEEAAAAAAA (at_ h) fun clos pm c' ctv oc fs q t φ h1 h2 h3 h4 h5 h6 h7 h8 => ?_
    refine L2.o_EEEAAA (hs) fun hid ds rr hh D hf qq => ?_
    unfold runL at hf
    split at hf
    case isFalse => cases hf
    rename_i hlen
    have hdl := D.length
    have hcl : clos.length = L.free.length := by rw [← h6, List.length_map]
    have hl : vs.length = L.ps.length := by rw [List.length_append] at hdl; omega
    have hu : us.length = L.ps.length := by rw [← r.length]; exact hl
    have lim : s.heap.NoLimit := e0.mod.nolimit.keeps fun b o e => (e0.bs b o e).1
    refine callE hr.depth (e0.hok g _ h1).1 rfl S.co S.gen rfl ⟨c', oc, fs, t, rfl, (e0.hok c' _ h2).1, h3, h4⟩ ?_
    rw [hbind clos pm c' ctv us hu]
    refine wpAny_pure (wpAny_newFunctionEnv S.nocell (fun x hx => S.par x.1 (List.of_mem_zip hx).1) (fun h' hns hsb => ⟨lim.fresh _ hsb, ?_⟩) S.kind)
    have hk : ∀ b o, s.heap.get? b = some o → h'.get? b = some o := fun b o e => hsb.extBut b o (Nat.ne_of_lt (Heap.lt_size e)) (Heap.get?_push_of_some _ e)
    have I := inv_lam (P := P) (w := w) (K := K) (mg := mg) (base := base) (g := g) (c' := c') (q := q) (t := s.toks + (L.ps.zip us).length) S hr.hd e0 hl h5 h6 h7 h8 r hns hk
    refine PySem.W.kla_codeExpr ?_
    have E0' : EnvOk K O0 hid H ((vs ++ cv).map some) H (ds.map some) [] := by
      refine ⟨by simp [← hdl], fun b o e => by rw [del_out (by simp)]; exact e, fun i d _ e => ?_, ⟨fun _ => [], fun i t d hi => (by cases hi), fun i j p _ z => (by cases z), fun i p z => (by cases z)⟩, fun l z => (by cases z), hh, fun _ => rfl⟩
      rw [List.getElem?_map] at e
      cases e1 : ds[i]? with
      | none => rw [e1] at e; cases e
      | some d' =>
        rw [e1] at e
        cases e
        refine L2.o_EA (D.get e1) fun v a1 a2 => ?_
        exact ⟨v, by rw [List.getElem?_map, a1]; rfl, by rw [uni_nil]; exact a2⟩
    refine wpAny_mono (hbody clos g c' q A outer s H (hr.deeper _) [] _ _ H Q I ⟨hid, H, ds.map some, [], rr, E0', hf, fun v H' s' D' => qq v [] H' s' (fun p hp => by cases hp) (.cl (by rw [uni_nil]; exact D'))⟩) (fun u s' hs => ?_) fun e s' z => z.elim
    obtain ⟨v, H', J, rv, qv⟩ := hs
    exact L2.i_EEAAAAA (v) (H') (J.os) (J.bare) (J.base) (J.hok) (rv) (qv)
end
theorem among_snoc {pos : Pos} {a b : Int} {c v : Value} (l : List Value) (h1 : TriplesOk l) (h : codeAmong pos (l ++ [rawInt a, rawInt b, c]) = some v) : codeAmong pos l = some v ∨ v = c := by
  fun_induction TriplesOk l with
  | case1 =>
    rw [List.nil_append] at h
    unfold rawInt codeAmong at h
    split at h
    · exact .inr (Option.some.inj h).symm
    · cases h
  | case2 a' t b' u x rest ih =>
    rw [List.cons_append, List.cons_append, List.cons_append] at h
    unfold codeAmong at h ⊢
    split at h
    · rename_i hc
      rw [if_pos hc]
      exact .inl h
    · rename_i hc
      rw [if_neg hc]
      exact ih h1 h
  | case3 l g1 g2 => exact h1.elim
section
variable {X : Cx}
noncomputable def Made (H : Hp) (L : Lam) (clos : List (Str × Addr)) (g : Addr) : Prop :=
  ∃ (pm : Value) (c' : Addr) (ctv : Value) (oc : Obj) (vs : Array Value) (q : Str) (t : Tok) (φ : HO), H g = some (fz g (PySem.W.kla_obj "<lambda>" L.qual L.params L.body L.scope clos pm c' ctv)) ∧ H c' = some (.frz oc φ) ∧ oc.data = .fields vs ∧ vs[1]? = some (.str q t)
theorem Made.mono {H H' : Hp} {L : Lam} {clos : List (Str × Addr)} {g : Addr} (e : Same H H') (h : Made H L clos g) : Made H' L clos g := by
  refine L2.o_EEEEEEEEAA (h) fun pm c' ctv oc vs q t φ h1 h2 h3 => ?_
  exact L2.i_EEEEEEEEAA (pm) (c') (ctv) (oc) (vs) (q) (t) (φ) (e _ _ h1) (e _ _ h2) (h3)
noncomputable def tLam (L : Lam) (clos : List (Str × Addr)) : TE := fun _ H Q => ∀ g H', Same H H' → H g = none → Made H' L clos g → Q (.ref g) H'
theorem fz_ok {P : Program} {w : World} {H : Hp} {h : Heap} {a : Addr} {o : Obj} (e : h.get? a = some o) : ObjOk P w H h a (fz a o) := ⟨e, e, ⟨o, e⟩, fun h1 h2 z k => k o z⟩
theorem pe_lam {L : Lam} {x : Str} {c p : Addr} {pos : Pos} (hx : x ∈ lamNames X.prog) (hT : PySem.W.tabIn X.K x = some (c, p)) (hcode : X.env.code = .ref c) (hq : X.env.qual ++ "<lambda>" = L.qual) (hd : defaultsOf L.params X.env = ([], []))
    (hcl : closureFor L.scope X.env = pure (cloOf L.scope X.env)) : PE X (.Lambda L.params L.body L.scope pos) (tLam L (cloOf L.scope X.env)) := by
  intro pins s σ H Q I h
  refine PySem.W.kla_eval hd ?_
  rw [hq]
  refine L2.o_AA (I.ok.tabs x c p hx hT) fun ht0 hch0 hbt0 => ?_
  have ht := I.base.tabs p ht0
  have hch := hch0.keeps I.bk
  have hbt : s.heap.BuiltinsAt X.mg p := by
    refine L2.o_EEAAAAA (hbt0) fun bm ob b1 b2 b3 b4 b5 b6 => ?_
    exact L2.i_EEAAAAA (bm) (ob) (b1) (b2) (b3) (b4) (I.bk _ _ b5) (b6)
  refine L2.o_EAA (I.hok p _ ht) fun ps hP htr hco => ?_
  have hg : s.heap.Ns mainGlobals X.mg := I.mod.glob.keeps I.bk
  cases hm : codeAmong pos ps.toList with
  | some cv =>
    refine L2.o_EEEEEEAAA (hco pos cv hm) fun c' oc vs q t φ zq6 g1 g2 g3 => ?_
    subst zq6
    refine PySem.W.kla_makeFunctionHit hcl I.ok.glob hg hcode hch hP htr hm hbt fun ctv h' tk hk hsz => ?_
    have hfr : H h'.objs.size = none := I.hok.fresh hsz
    have I' := I.laid (t' := tk) (a := h'.objs.size) (o := fz h'.objs.size (PySem.W.kla_obj "<lambda>" L.qual L.params L.body L.scope (cloOf L.scope X.env) ((X.mg "__name__").getD .none) c' ctv)) (h' := h'.push (PySem.W.kla_obj "<lambda>" L.qual L.params L.body L.scope (cloOf L.scope X.env) ((X.mg "__name__").getD .none) c' ctv))
      (fun b u e => Heap.get?_push_of_some _ (hk b u e)) hsz (fz_ok (Heap.get?_push_size _ rfl))
    exact ⟨.ref h'.objs.size, _, I', rfl, h _ _ (same_new hfr) hfr ⟨_, c', ctv, oc, vs, q, t, φ, upd_same, same_new hfr _ _ g1, g2, g3⟩⟩
  | none =>
    have hgP : mainGlobals ≠ p := fun e => by
      refine L2.o_EEEAA (hg) fun o es ep e1 e2 _ => ?_
      rw [e, hP] at e1
      cases e1
      cases e2
    refine PySem.W.kla_makeFunction hcl I.ok.glob hg hcode hch hP htr hm hgP hbt fun c' ctv h' tk hx hge hlt hrec htb => ?_
    refine L2.o_EEEEAAA (hrec) fun c2 oc vs t e2 hoc hdd hv => ?_
    cases e2
    generalize hob : PySem.W.kla_obj "<lambda>" L.qual L.params L.body L.scope (cloOf L.scope X.env) ((X.mg "__name__").getD .none) c' ctv = ob
    have hnf : ob.isFreed = false := by rw [← hob]; rfl
    have hsz : s.heap.objs.size ≤ h'.objs.size := Nat.le_trans hge (Nat.le_of_lt hlt)
    have f1 : H c' = none := I.hok.fresh hge
    have f2 : H h'.objs.size = none := I.hok.fresh hsz
    have ne12 : h'.objs.size ≠ c' := Nat.ne_of_gt hlt
    have f2' : upd H c' (fz c' oc) h'.objs.size = none := by rw [upd_ne ne12]; exact f2
    have sm : Same H (upd (upd H c' (fz c' oc)) h'.objs.size (fz h'.objs.size ob)) := (same_new f1).trans (same_new f2')
    have old : ∀ b o, b ≠ p → s.heap.get? b = some o → (h'.push ob).get? b = some o := fun b o n e => Heap.get?_push_of_some _ (hx b o n e)
    have np : ∀ b, H b = none → b ≠ p := fun b e z => by rw [z, ht] at e; cases e
    have nw : ∀ b o, s.heap.get? b = some o → b ≠ c' ∧ b ≠ h'.objs.size := fun b o e => ⟨Nat.ne_of_lt (Nat.lt_of_lt_of_le (Heap.lt_size e) hge), Nat.ne_of_lt (Nat.lt_of_lt_of_le (Heap.lt_size e) hsz)⟩
    have hp2 : (h'.push ob).get? p = some (PySem.W.tabObj (ps ++ #[rawInt pos.line, rawInt pos.col, .ref c'])) := Heap.get?_push_of_some _ htb
    have I' : Inv X pins σ (upd (upd H c' (fz c' oc)) h'.objs.size (fz h'.objs.size ob)) { s with heap := h'.push ob, toks := tk } := by
      refine I.step (g' := s.gens) (d' := s.drawn) (ch := []) (fun _ z => nomatch z) (fun b o _ _ _ e n => old b o (np b n) e) (fun b o _ _ _ e n => ⟨o.slots, old b o (np b n) e⟩) (fun b o _ e n => ?_) (fun b o _ e => ?_)
        (fun b ys e => sm _ _ e) (fun b o ys e => sm _ _ e) (fun b ys e => ⟨#[], by rw [sm _ _ e]; simp⟩) (fun b e => sm _ _ e) (fun m hm' => (hm'.extBut hx (np _ I.free)).push _) (fun b u e => ?_) I.bare
      · rw [upd_ne (nw b o e).2, upd_ne (nw b o e).1]; exact n
      · by_cases hb : b = p
        · exact ⟨_, by rw [hb]; exact hp2⟩
        · exact ⟨o, old b o hb e⟩
      · by_cases hb : b = h'.objs.size
        · subst hb
          rw [upd_same] at e
          cases e
          exact fz_ok (Heap.get?_push_size _ hnf)
        · rw [upd_ne hb] at e
          by_cases hb2 : b = c'
          · subst hb2
            rw [upd_same] at e
            cases e
            exact fz_ok (Heap.get?_push_of_some _ hoc)
          · rw [upd_ne hb2] at e
            by_cases hb3 : b = p
            · subst hb3
              rw [ht] at e
              cases e
              refine ⟨_, hp2, by rw [Array.toList_append]; exact TriplesOk_snoc _ _ _ _ htr, fun ps' cc z => ?_⟩
              rw [Array.toList_append] at z
              rcases among_snoc _ htr z with z | z
              · refine L2.o_EEEEEEAA (hco ps' cc z) fun c3 o3 v3 q3 t3 φ3 a1 a2 a3 => ?_
                exact L2.i_EEEEEEAA (c3) (o3) (v3) (q3) (t3) (φ3) (a1) (sm _ _ a2) (a3)
              · exact L2.i_EEEEEEAAA (c') (oc) (vs) (_) (t) (_) (z) (by rw [upd_ne (Ne.symm ne12), upd_same]; rfl) (hdd) (hv)
            · refine (I.hok b u e).stay (fun d o' hc e' => old d o' ?_ e') (fun d e' => sm _ _ e') (fun d ys e' => sm _ _ e') fun d o' ys _ _ e' => sm _ _ e'
              rcases hc with rfl | hc
              · exact hb3
              · rintro rfl
                rw [ht] at hc; cases hc
    refine ⟨.ref h'.objs.size, _, I', rfl, h _ _ sm f2 ⟨(X.mg "__name__").getD .none, c', ctv, oc, vs, _, t, _, ?_, by rw [upd_ne (Ne.symm ne12), upd_same]; rfl, hdd, hv⟩⟩
    rw [upd_same, ← hob]
end
noncomputable def withC (h : Heap) (H : Hp) (cs : List Addr) : Hp := fun b => if b ∈ cs then (h.get? b).map (fz b) else H b
noncomputable def noC (H : Hp) (cs : List Addr) : Hp := fun b => if b ∈ cs then none else H b
section
variable {X : Cx} {O : Ow}
noncomputable def nf : PyData → Bool
  | .dict _ => false
  | .list ds => go ds
  | .tuple ds => go ds
  | _ => true
where go : List PyData → Bool
  | [] => true
  | d :: r => nf d && go r
theorem SqT.sub {K : PySem.W.Frag} {G G' : Hp} (e : ∀ a o, G a = some o → (∀ ob φ, o ≠ .frz ob (.ext φ)) → G' a = some o) {a : Addr} {vs : List V} (q : SqT K G a vs) : SqT K G' a vs := by
  rcases q with (q | ⟨o, q⟩) | q
  · exact .inl (.inl (e _ _ q fun _ _ z => by cases z))
  · exact .inl (.inr ⟨o, e _ _ q fun _ _ z => by cases z⟩)
  · exact .inr q
theorem SqL.sub {K : PySem.W.Frag} {G G' : Hp} (e : ∀ a o, G a = some o → (∀ ob φ, o ≠ .frz ob (.ext φ)) → G' a = some o) {a : Addr} {vs : List V} (q : SqL K G a vs) : SqL K G' a vs := by
  rcases q with (q | ⟨o, q⟩) | q
  · exact .inl (.inl (e _ _ q fun _ _ z => by cases z))
  · exact .inl (.inr ⟨o, e _ _ q fun _ _ z => by cases z⟩)
  · exact .inr q
theorem Den.sub {K : PySem.W.Frag} {G G' : Hp} (e : ∀ a o, G a = some o → (∀ ob φ, o ≠ .frz ob (.ext φ)) → G' a = some o) {v : V} {d : PyData} (z : Den K G v d) : nf d = true → Den K G' v d :=
  Den.rec (motive_1 := fun v d _ => nf d = true → Den K G' v d) (motive_2 := fun vs ds _ => nf.go ds = true → DenL K G' vs ds) (fun _ => .non) (fun b _ => .bl b) (fun i _ => .int i) (fun x _ => .str x) (fun q _ r h => .tup (q.sub e) (r h)) (fun q _ r h => .lst (q.sub e) (r h)) (fun _ _ _ h => by cases h) (fun _ _ _ h => by cases h) (fun _ _ _ h => by cases h) (fun _ => .nil) (fun _ _ a b h => by rw [nf.go, Bool.and_eq_true] at h; exact .cons (a h.1) (b h.2)) z
noncomputable def capsD : List Nat → Rho → Option (List PyData)
  | [], _ => some []
  | i :: r, ρ => consD ((ρ[i]?).join) (capsD r ρ)
theorem caps_ok {K : PySem.W.Frag} {hid : Addr → Prop} {H0 H : Hp} {σ : St} {ρ : Rho} {ow : List Addr} (E : EnvOk K O hid H0 σ H ρ ow) : ∀ (ix : List Nat) (caps : List PyData), capsD ix ρ = some caps → ∃ cv : List V, cv.length = ix.length ∧ DenL K (del H hid) cv caps ∧ ∀ (j i : Nat) (v : V), ix[j]? = some i → cv[j]? = some v → σ[i]? = some (some v)
  | [], caps, h => by
    cases h
    exact ⟨[], rfl, .nil, fun j i v h => by simp at h⟩
  | i :: r, caps, h => by
    obtain ⟨d, h1, h⟩ := bind_some h
    obtain ⟨ds, h2, rfl⟩ := map_some h
    refine L2.o_EAA (caps_ok E r ds h2) fun cv g1 g2 g3 => ?_
    refine L2.o_EA (E.raw (join_some h1)) fun v a1 a2 => ?_
    refine ⟨v :: cv, by simp [g1], .cons a2 g2, fun j i' v' e1 e2 => ?_⟩
    cases j with
    | zero => simp at e1 e2; subst e1; subst e2; exact a1
    | succ j => exact g3 j i' v' (by simpa using e1) (by simpa using e2)
theorem nodup_snd : ∀ {l : List (Str × Addr)}, (l.map (fun z => z.1)).Nodup → (∀ x y c, (x, c) ∈ l → (y, c) ∈ l → x = y) → (l.map (fun z => z.2)).Nodup
  | [], _, _ => List.nodup_nil
  | z :: r, nd, h => by
    rw [List.map_cons, List.nodup_cons] at nd ⊢
    refine ⟨fun hm => ?_, nodup_snd nd.2 fun x y c h1 h2 => h x y c (List.mem_cons_of_mem _ h1) (List.mem_cons_of_mem _ h2)⟩
    refine L2.o_EA (List.mem_map.mp hm) fun y hy e => ?_
    have := h y.1 z.1 z.2 (List.mem_cons_of_mem _ (by rw [← e]; exact hy)) List.mem_cons_self
    exact nd.1 (List.mem_map.mpr ⟨y, hy, this⟩)
structure LamAtX (X : Cx) (L : Lam) (ix : List Nat) : Prop where
  tab : ∃ y c p, y ∈ lamNames X.prog ∧ PySem.W.tabIn X.K y = some (c, p) ∧ X.env.code = .ref c
  qual : X.env.qual ++ "<lambda>" = L.qual
  dfl : defaultsOf L.params X.env = ([], [])
  cell : ∀ x ∈ L.free, X.env.scope.names.lookup x = some .cell
  fn : ∀ x ∈ L.free, X.fn x = true
  sl : ix.map (fun i => X.N[i]?) = L.free.map some
theorem lam_tab {K : PySem.W.Frag} {y : Str} {f : Addr} {cdv : Value} {P : Program} (hy : y ∈ lamNames P) (ht : (PySem.W.tabIn K y).isSome = true) (hn : PySem.W.nsIn K mainGlobals y = some (some (.ref f))) (hk : CdOk K f cdv) : ∃ y c p, y ∈ lamNames P ∧ PySem.W.tabIn K y = some (c, p) ∧ cdv = .ref c := by
  obtain ⟨⟨c, p⟩, e⟩ := Option.isSome_iff_exists.mp ht
  revert hk
  refine fun zqq => L2.o_EEEEA zqq fun oc od fd osl lk zq5 => ?_
  clear zqq
  subst zq5
  refine L2.i_EEEAA (y) (c) (p) (hy) (e) ?_
  unfold PySem.W.tabIn at e
  rw [hn] at e
  simp only [lk] at e
  split at e
  · rename_i c2 hc
    split at e
    · split at e
      · cases e; exact hc
      · cases e
    · cases e
  · cases e
end
end L2
namespace L2
open PySem PySem.Spec PyProof.Rows
variable [Reg]
inductive FnAt (K : PySem.W.Frag) (x : Str) (st : Stmt) : Prop
  | mk (f : Addr) (fd : FuncData) (a : PySem.W.nsIn K mainGlobals x = some (some (.ref f))) (F : Fun K x x st f fd) : FnAt K x st
section
variable {P : Program} {w : World} {K : PySem.W.Frag} {h : Heap} {mg : Str → Option Value} {base : Heap} {x : Str} {st : Stmt} {k : Nat} {ps : List Str} {T : Ty}
theorem FnAt.ok {F : List PyData → Option PyData} (d : FnAt K x st) (X : K.In h) (G : h.Ns mainGlobals mg)
    (hb : ∀ (kV doc pm : Value) (an : Option Addr) (cdv ct : Value) (us : List Value), us.length = ps.length → bindArgs (PySem.W.fnOf x x (defArgs st) (defBody st) (defScope st) .none kV doc pm an cdv ct) ⟨us, []⟩ = pure (ps.zip us))
    (ok : ∀ f fd, PySem.W.nsIn K mainGlobals x = some (some (.ref f)) → Fun K x x st f fd → FnOk P w K mg base CX0 k f fd ps (spR K T F)) : DefOk P w K mg base k x ps T F := by
  cases d with
  | mk f fd a D => exact ⟨f, fd, ok f fd a D, PySem.W.mg_of X G a, D.kp, D.binds hb, a⟩
theorem FnAt.law {F : List PyData → Option PyData} {fa : Addr} {v0 : Str} (d : FnAt K x st) (X : K.In h) (G : h.Ns mainGlobals mg) (hfa : mg x = some (.ref fa))
    (hb : ∀ (kV doc pm : Value) (an : Option Addr) (cdv ct : Value) (s : Shared) (v : Value), BindsTo s (PySem.W.fnOf x x (defArgs st) (defBody st) (defScope st) .none kV doc pm an cdv ct) ⟨[v], []⟩ [(v0, v)])
    (ok : ∀ base f fd, Fun K x x st f fd → FnOk P w K mg base CX0 k f fd ps (spR K T F)) :
    ∃ fd : FuncData, (∀ (s : Shared) (v : Value), BindsTo s fd ⟨[v], []⟩ [(v0, v)]) ∧ ∀ base : Heap, K.In base → base.Ns mainGlobals mg → FnOk P w K mg base CX0 k fa fd ps (spR K T F) := by
  cases d with
  | mk f fd a D =>
    cases hfa.symm.trans (PySem.W.mg_of X G a)
    refine ⟨fd, ?_, fun base _ _ => ok base _ fd D⟩
    refine L2.o_EEEEEEEEEAA (D.ex) fun oc od kV doc pm an cdv ct osl e _ _ => ?_
    subst e
    exact hb kV doc pm an cdv ct
end
noncomputable def noName (K : PySem.W.Frag) (x : Str) : Bool := match PySem.W.nsIn K mainGlobals x with
  | some none => true
  | _ => false
noncomputable def noNames (K : PySem.W.Frag) (xs : List Str) : Bool := xs.all (noName K)
theorem noNames_get {K : PySem.W.Frag} {h : Heap} {mg : Str → Option Value} {xs : List Str} {x : Str} (X : K.In h) (G : h.Ns mainGlobals mg) (q : noNames K xs = true) (i : Nat) (hi : xs[i]? = some x) : mg x = none := by
  have h1 := List.all_eq_true.mp q x (List.mem_of_getElem? hi)
  refine PySem.W.mg_none_of X G ?_
  unfold noName at h1
  generalize PySem.W.nsIn K mainGlobals x = o at h1 ⊢
  cases o with
  | none => cases h1
  | some v => cases v with
    | none => rfl
    | some v => cases h1
end L2
namespace L2
open PySem PySem.Spec PyProof.Rows
open Sem (wp)
variable [Reg]
section
variable {M : Model} {A : Around} {E : Value → Shared → Prop} {s : Shared} {env : Env} {outer : List Env} {base : Heap} {L e : Addr} {oe : Obj} {vs : Array Value} {Q : Unit → Shared → Prop}
structure Noted (fs : List Addr) (e : Addr) (oe : Obj) (fl : Value) (h h' : Heap) : Prop where
  exc : h'.get? e = some (oe.mapFields (·.setIfInBounds 1 (.ref h.objs.size)))
  tb : ∃ oT ts, h'.get? h.objs.size = some oT ∧ oT.data = .fields ts ∧ ts[3]? = some fl
  keep : ∀ b o, b ≠ e → b ∉ fs → h.get? b = some o → h'.get? b = some o
  slot : ∀ b o, b ≠ e → h.get? b = some o → ∃ sl, h'.get? b = some { o with slots := sl }
theorem tail_exact {head : Value} {hadNext : Bool} (hfr : A.frames = some (env :: outer)) (hl : s.heap.FunFrames base (env :: outer)) (hf : env.frame = some L)
    (he : s.heap.get? e = some oe) (hd : oe.data = .fields vs) (hsz : 1 < vs.size)
    (h : ∀ h', Noted ((env :: outer).filterMap (·.frame)) e oe (rawInt L) s.heap h' → Q () { s with heap := h' }) :
    wpAny M A (do let a ← frameOf env; let pl ← entryPlaceOf L hadNext; let b ← EntryCells.newEntry head a .none (rawInt L) .none pl; setField (.ref e) 1 b) Q E s := by
  have hene : e ∉ (env :: outer).filterMap (·.frame) := fun hm => by
    refine L2.o_AEA (hl.mem hm) fun _ o ho hnf => ?_
    rw [he] at ho; injection ho with ho; subst ho; exact hnf vs hd
  refine wpAny_bind (wpAny_frameOf_fun hfr hl hf fun h₁ hs₁ => ?_)
  refine wpAny_bind (wpAny_entryPlaceOf fun pl hpl => ?_)
  unfold EntryCells.newEntry newFields
  refine wpAny_bind (wpAny_newObj_type ?_ (hpl.sizeOk5 _ _ _ _ _))
  have he₁ : h₁.get? e = some oe := (hs₁.2.1 e hene).trans he
  have he₂ := Heap.get?_push_of_some (h := h₁) { cls := .type "traceback", dict := none, data := .fields ([head, .ref L, .none, rawInt L, .none] ++ (if pl.isEmpty then List.replicate 6 Value.none else pl)).toArray } he₁
  refine wpAny_setField he₂ hd hsz (h _ ?_)
  have hTe : h₁.objs.size ≠ e := Nat.ne_of_gt (Heap.lt_size he₁)
  have hd₃ := Obj.data_mapFields hd (·.setIfInBounds 1 (Value.ref h₁.objs.size))
  have he₃ := Heap.get?_update_self (Obj.mapFields (·.setIfInBounds 1 (Value.ref h₁.objs.size))) he₂ (Obj.isFreed_of_fields hd₃)
  have hT₃ := (Heap.get?_update_other (h₁.push { cls := .type "traceback", dict := none, data := .fields ([head, .ref L, .none, rawInt L, .none] ++ (if pl.isEmpty then List.replicate 6 Value.none else pl)).toArray })
    (Obj.mapFields (·.setIfInBounds 1 (Value.ref h₁.objs.size))) (Ne.symm hTe)).trans (Heap.get?_push_size h₁ rfl)
  have keep : ∀ b o, b ≠ e → h₁.get? b = some o →
      ((h₁.push { cls := .type "traceback", dict := none, data := .fields ([head, .ref L, .none, rawInt L, .none] ++ (if pl.isEmpty then List.replicate 6 Value.none else pl)).toArray }).update e (Obj.mapFields (·.setIfInBounds 1 (Value.ref h₁.objs.size)))).get? b = some o :=
    fun b o hbe hb => by
      rw [Heap.get?_update_other _ _ (Ne.symm hbe)]
      exact Heap.get?_push_of_some _ hb
  refine ⟨by rw [← hs₁.1]; exact he₃, ⟨_, _, by rw [← hs₁.1]; exact hT₃, rfl, by first | (simp; done) | (rcases hpl with rfl | ⟨_, _, _, _, _, _, _, rfl⟩ <;> simp)⟩, fun b o h1 h2 h3 => keep b o h1 ((hs₁.2.1 b h2).trans h3), fun b o h1 h3 => ?_⟩
  refine L2.o_E (hs₁.2.2 b o h3) fun sl hs => ?_
  exact ⟨sl, keep b _ h1 hs⟩
noncomputable def Tr (h : Heap) (vs : Array Value) : Prop := vs[1]? = some .none ∨ ∃ T oT ts, vs[1]? = some (.ref T) ∧ h.get? T = some oT ∧ oT.data = .fields ts ∧ ts[3]? = some .none
theorem note_exact (hfr : A.frames = some (env :: outer)) (hl : s.heap.FunFrames base (env :: outer)) (hf : env.frame = some L)
    (he : s.heap.get? e = some oe) (hd : oe.data = .fields vs) (h1 : Tr s.heap vs)
    (h : ∀ h', Noted ((env :: outer).filterMap (·.frame)) e oe (rawInt L) s.heap h' → Q () { s with heap := h' }) :
    wpAny M A (noteFrame (.ref e) env) Q E s := by
  unfold noteFrame
  simp only [hf]
  rcases h1 with h1 | ⟨T, oT, ts, h1, hT, hdT, h3⟩
  · refine wpAny_bind (wpAny_field he hd h1 ?_)
    rw [if_neg (by decide)]
    exact tail_exact hfr hl hf he hd (Array.getElem?_eq_some_iff.mp h1).1 h
  · refine wpAny_bind (wpAny_field he hd h1 ?_)
    rw [if_pos (show (Value.ref T != Value.none) = true from by simp)]
    refine wpAny_bind (wpAny_field hT hdT h3 ?_)
    rw [if_neg (show ¬ ((Value.none == rawInt L) = true) from by simp [rawInt])]
    refine wpAny_bind (wpAny_setField hT hdT (Array.getElem?_eq_some_iff.mp h3).1 ?_)
    rw [Heap.update_setField_same s.heap T oT ts 3 .none hT hdT h3]
    exact tail_exact hfr hl hf he hd (Array.getElem?_eq_some_iff.mp h1).1 h
theorem down_exact {L : Addr} {fs : List Addr} {s : Shared} {h0 : Heap} (hne : e < h0.objs.size) (hd : oe.data = .fields vs) (hsz : 1 < vs.size) (n : Noted fs e oe (rawInt L) h0 s.heap) (hfs : ∀ b ∈ fs, b < h0.objs.size)
    (h : ∀ h', Noted fs e oe .none h0 h' → Q () { s with heap := h' }) : wpAny M A (setFlight (.ref e) none) Q E s := by
  refine L2.o_EEAA (n.tb) fun oT ts h2 h3 h4 => ?_
  have hTe : h0.objs.size ≠ e := Nat.ne_of_gt hne
  have hz : 3 < ts.size := (Array.getElem?_eq_some_iff.mp h4).1
  have hd' := Obj.data_mapFields hd (·.setIfInBounds 1 (Value.ref h0.objs.size))
  refine wpAny_setFlight_none n.exc hd' (by simp [hsz]) h2 h3 hz (h _ ?_)
  have other : ∀ b, b ≠ h0.objs.size → (s.heap.update h0.objs.size (Obj.mapFields (·.setIfInBounds 3 Value.none))).get? b = s.heap.get? b := fun b hb => Heap.get?_update_other _ _ (Ne.symm hb)
  refine ⟨(other e (Ne.symm hTe)).trans n.exc, ⟨_, _, Heap.get?_update_self _ h2 (Obj.isFreed_of_fields (Obj.data_mapFields h3 _)), Obj.data_mapFields h3 _, by simp [hz]⟩, fun b o x1 x2 x3 => ?_, fun b o x1 x3 => ?_⟩
  · exact (other b (Nat.ne_of_lt (Heap.lt_size x3))).trans (n.keep b o x1 x2 x3)
  · refine L2.o_E (n.slot b o x1 x3) fun sl q => ?_
    exact ⟨sl, (other b (Nat.ne_of_lt (Heap.lt_size x3))).trans q⟩
end
structure FlyC (H : Hp) (h G : Heap) (e C : Addr) (od : Option Addr) : Prop where
  ex : ∃ oe vs, h.get? e = some oe ∧ oe.cls = .ref C ∧ oe.dict = od ∧ oe.data = .fields vs ∧ Tr h vs
  fre : H e = none
  new : G.get? e = none
structure Fly (X : Cx) (pins : List (Addr × Obj)) (H : Hp) (s : Shared) (e C : Addr) (od : Option Addr) : Prop where
  c : FlyC H s.heap X.s₀.heap e C od
  pin : ∀ p ∈ X.pn ++ pins, p.1 ≠ e
theorem Obj.dict_mapFields (o : Obj) (f : Array Value → Array Value) : (o.mapFields f).dict = o.dict := by
  obtain ⟨c, d, dt, sl⟩ := o
  cases dt <;> rfl
noncomputable def CXe (P : Program) (w : World) : CXT := fun outer H s E e s' => ∃ H' a C od, e = .ref a ∧ s'.os = s.os ∧ AllBare s'.gens ∧ Un (frs outer) [] H H' s.heap s'.heap ∧ HOk P w H' s'.heap ∧ FlyC H' s'.heap s.heap a C od ∧ E (.ref C) od H'
theorem Tr.of_noted {fs : List Addr} {e : Addr} {oe : Obj} {h0 h : Heap} {vs : Array Value} (hsz : 1 < vs.size) (n : Noted fs e oe .none h0 h) : Tr h (vs.setIfInBounds 1 (.ref h0.objs.size)) := by
  refine L2.o_EEAA (n.tb) fun oT ts h2 h3 h4 => ?_
  exact .inr ⟨_, oT, ts, by simp [hsz], h2, h3, h4⟩
theorem Tr.sz {h : Heap} {vs : Array Value} (t : Tr h vs) : 1 < vs.size := by
  rcases t with t | ⟨_, _, _, t, _⟩
  · exact (Array.getElem?_eq_some_iff.mp t).1
  · exact (Array.getElem?_eq_some_iff.mp t).1
section
variable {P : Program} {w : World} {K : PySem.W.Frag} {mg : Str → Option Value} {base : Heap} {N : List Str} {qual : Str} {scope : Scope} {f : Addr} {cd : Value} {A : Around} {outer : List Env} {s s' : Shared} {H H' : Hp} {E : XK} {pins : List (Addr × Obj)} {σ : St} {a C : Addr} {od : Option Addr}
theorem cx_leave (I : Inv (cxOf (CXe P w) P w K mg base N qual scope f cd A outer s H E) pins σ H' s') (F : FlyC H' s'.heap s.heap a C od) (q : E (.ref C) od H') : (cxOf (CXe P w) P w K mg base N qual scope f cd A outer s H E).xe (.ref a) s' := by
  refine L2.o_EEAAAA (F.ex) fun oe vs he hc hdi hd tr => ?_
  show wpAny (model P w) _ (leaving _ (.ref a)) _ _ s'
  unfold leaving
  have hst := I.stack
  refine wpAny_bind (note_exact (L := s.heap.objs.size) I.ok.frames hst rfl he hd tr fun h1 n1 => ?_)
  have hfs : ∀ b ∈ ((envOfC qual scope s.heap.objs.size f cd) :: outer).filterMap (·.frame), b < s'.heap.objs.size := fun b hb => by
    refine L2.o_AEA (hst.mem hb) fun _ o ho _ => ?_
    exact Heap.lt_size ho
  refine down_exact (Heap.lt_size he) hd tr.sz n1 hfs fun h2 n2 => ?_
  have hLs : s.heap.objs.size ≤ (cxOf (CXe P w) P w K mg base N qual scope f cd A outer s H E).env.locals := I.ok.above
  have nfr : ∀ b o, s.heap.get? b = some o → b ∉ frs outer → b ∉ ((envOfC qual scope s.heap.objs.size f cd) :: outer).filterMap (·.frame) := fun b o e hb z => by
    rcases List.mem_cons.mp (I.stkSub b z) with z | z
    · exact absurd (Heap.lt_size e) (by rw [z]; exact Nat.not_lt.mpr hLs)
    · exact hb z
  have na : ∀ b o, s.heap.get? b = some o → b ≠ a := fun b o e z => by rw [z, F.new] at e; cases e
  refine L2.i_EEEEAAAAAA (H') (a) (C) (od) (rfl) (I.os) (I.bare) (⟨fun b o e n hb hx => ?_, fun b o e n hb hx => ?_, I.base.free, fun b o e hx => ?_, I.base.tups, I.base.frzs, I.base.tbls, I.base.tabs⟩) (fun b u e => ?_) (⟨⟨_, _, n2.exc, by rw [Obj.cls_mapFields]; exact hc, by rw [Obj.dict_mapFields]; exact hdi, Obj.data_mapFields hd _, Tr.of_noted tr.sz n2⟩, F.fre, F.new⟩) (q)
  · exact n2.keep b o (na b o e) (nfr b o e hb) (I.base.keep b o e n hb hx)
  · refine L2.o_E (I.base.slot b o e n hb hx) fun sl e1 => ?_
    refine L2.o_E (n2.slot b _ (na b o e) e1) fun sl' e2 => ?_
    exact ⟨sl', e2⟩
  · refine L2.o_E (I.base.there b o e hx) fun o' e1 => ?_
    refine L2.o_E (n2.slot b _ (na b o e) e1) fun sl' e2 => ?_
    exact ⟨_, e2⟩
  · have keepT : ∀ c v, s'.heap.get? c = some v → H' c ≠ none → h2.get? c = some v := fun c v q1 q2 =>
      n2.keep c v (fun z => q2 (by rw [z]; exact F.fre)) (fun z => q2 (I.stkFree c z)) q1
    refine (I.hok b u e).stay (fun c v hc q1 => keepT c v q1 ?_) (fun _ q => q) fun _ _ q => q
    rcases hc with rfl | hc
    · rw [e]; simp
    · rw [hc]; simp
end
section
variable {X : Cx} {k : Nat} {f : Addr} {fd : FuncData} {ps : List Str} {sp : Sp} {pins : List (Addr × Obj)} {σ : St} {H : Hp} {s : Shared} {Q : VK} {E : XK} {us : List Value} {vs : List V}
theorem run_fnX (F : FnOk X.prog X.w X.K X.mg X.base (CXe X.prog X.w) k f fd ps sp) (hr : Room k X.A) (hb : Binds X.K fd ps []) (hex : X.ex = []) (I : Inv X pins σ H s) (r : Vals vs us) (h : sp vs H Q E)
    (hx : ∀ s' H' a C od, Inv X pins σ H' s' → Fly X pins H' s' a C od → E (.ref C) od H' → X.xe (.ref a) s') : wpAny (model X.prog X.w) X.A (call (.ref f) us) (EP X pins σ Q) X.xe s := by
  have hl : us.length = ps.length := by rw [← r.length]; exact F.len _ _ _ _ h
  have hb' := hb s us I.kIn (by rw [List.append_nil]; exact hl)
  rw [List.append_nil] at hb'
  refine wpAny_call (codeAny_mono (F.run X.A X.stack s H ⟨us, []⟩ us vs Q E hr I.env0 hb' r h) fun r s' hq => ?_)
  cases r with
  | error e =>
    revert hq
    refine fun zqq => L2.o_EEEEAAAAAA zqq fun H' a C od zq4 ho hg un hok fl q => ?_
    clear zqq
    subst zq4
    refine hx s' H' a C od (I.call' ho un hok hg fun b z => absurd z (by simp)) ⟨⟨fl.ex, fl.fre, ?_⟩, fun p hp z => ?_⟩ q
    rotate_left
    · have := (I.pin p hp).1
      rw [z, fl.new] at this; cases this
    cases e0 : X.s₀.heap.get? a with
    | none => rfl
    | some o =>
      obtain ⟨o', e1⟩ := I.base.there a o e0 (by rw [hex]; simp)
      rw [fl.new] at e1; cases e1
  | ok fl =>
    cases fl with
    | ret u => exact I.after hq
    | next => exact False.elim hq
    | brk => exact False.elim hq
    | cont => exact False.elim hq
end
theorem ObjOk.there {P : Program} {w : World} {H : Hp} {h : Heap} {a : Addr} {o : HO} (x : ObjOk P w H h a o) : ∃ u, h.get? a = some u := by
  cases o with
  | lst xs => obtain ⟨_, _, _, _, e⟩ := x; exact ⟨_, e⟩
  | tup xs => obtain ⟨_, _, _, o, e, _⟩ := x; exact ⟨_, e⟩
  | dK kvs => obtain ⟨_, _, _, _, o, _, _, e, _⟩ := x; exact ⟨_, e⟩
  | dT kvs => obtain ⟨_, _, _, _, o, _, _, e, _⟩ := x; exact ⟨_, e⟩
  | set S n => obtain ⟨o, _, _, _, e, _⟩ := x; exact ⟨_, e⟩
  | ins C dx fs => obtain ⟨_, _, _, e, _⟩ := x; exact ⟨_, e⟩
  | own y => obtain ⟨_, e⟩ := x; exact ⟨_, e⟩
  | xd fs => obtain ⟨_, ⟨_, _, _, e, _⟩, _⟩ := x; exact ⟨_, e⟩
  | rng lo hi => obtain ⟨_, _, _, e⟩ := x; exact ⟨_, e⟩
  | frz ob u => obtain ⟨e, _⟩ := x; exact ⟨_, e⟩
  | tbl ps => exact ⟨_, x⟩
  | tab => obtain ⟨_, e, _⟩ := x; exact ⟨_, e⟩
  | met f y => exact ⟨_, x⟩
  | ext φ => obtain ⟨_, ⟨_, e⟩, _⟩ := x; exact ⟨_, e⟩
theorem Inv.none_of {X : Cx} {pins : List (Addr × Obj)} {σ : St} {H : Hp} {s : Shared} {a : Addr} (I : Inv X pins σ H s) (hex : X.ex = []) (e : s.heap.get? a = none) : H a = none ∧ X.s₀.heap.get? a = none ∧ ∀ p ∈ X.pn ++ pins, p.1 ≠ a := by
  refine ⟨?_, ?_, fun p hp z => ?_⟩
  · cases q : H a with
    | none => rfl
    | some u =>
      refine L2.o_E ((I.hok a u q).there) fun o r => ?_
      rw [e] at r; cases r
  · cases q : X.s₀.heap.get? a with
    | none => rfl
    | some o =>
      obtain ⟨o', r⟩ := I.base.there a o q (by rw [hex]; simp)
      rw [e] at r; cases r
  · have := (I.pin p hp).1
    rw [z, e] at this; cases this
end L2
namespace L2
open PySem PySem.Spec PyProof.Rows
variable [Reg]
noncomputable def XIs (K : PySem.W.Frag) (H : Hp) (C : Addr) (od : Option Addr) (x : PyData) : Prop :=
  ∃ cls fv fd, x = excD cls (nmD fv ++ fd) ∧ PySem.W.nsIn K mainGlobals cls = some (some (.ref C)) ∧ ((fv = [] ∧ od = none) ∨ ∃ dx, od = some dx ∧ H dx = some (.xd fv)) ∧ DenL K H (fv.map (·.2)) fd
theorem XIs.mono {K : PySem.W.Frag} {H H' : Hp} {C : Addr} {od : Option Addr} {x : PyData} (s : Same H H') (h : XIs K H C od x) : XIs K H' C od x := by
  refine L2.o_EEEAAA (h) fun cls fv fd h1 h2 h3 h4 => ?_
  refine L2.i_EEEAAA (cls) (fv) (fd) (h1) (h2) ?_ (h4.mono s)
  rcases h3 with h3 | ⟨dx, h3, h5⟩
  · exact .inl h3
  · exact .inr ⟨dx, h3, s _ _ h5⟩
inductive RX where
  | ret (d : PyData) | exc (x : PyData)
noncomputable def spX (K : PySem.W.Frag) (T : Ty) (F : List PyData → Option RX) : Sp := fun vs H Q E => ∃ (hid : Addr → Prop) (ds : List PyData) (r : RX), (∀ b, hid b → ∃ vs, H b = some (.lst vs)) ∧ DenL K (del H hid) vs ds ∧ F ds = some r ∧
  match r with
  | .ret d => ∀ v as H', Same H H' → (∀ p ∈ as, H p = none) → DenO K H' (del H' (uni hid as)) T v d as → Q v H'
  | .exc x => ∀ C od H', Same H H' → XIs K (del H' hid) C od x → E (.ref C) od H'
noncomputable def tXt (X : Cx) (O : Ow) (T : Ty) (f : Rho → Option RX) : TE := fun σ H Q => At5 X.K O f σ H fun hid H0 ρ ow r =>
  match r with
  | .ret d => ∀ v as H', Same H H' → (∀ p ∈ as, H p = none) → DenO X.K H' (del H' (uni hid (as ++ ow))) T v d as → Q v H'
  | .exc x => ∀ pins s' H' a C od, Inv X pins σ H' s' → Same H H' → Fly X pins H' s' a C od → XIs X.K (del H' (uni hid ow)) C od x → X.xe (.ref a) s'
noncomputable abbrev PXt (X : Cx) (O : Ow) (T : Ty) (e : Expr) (f : Rho → Option RX) : Prop := PE X e (tXt X O T f)
noncomputable def DefX (P : Program) (w : World) (K : PySem.W.Frag) (mg : Str → Option Value) (base : Heap) (k : Nat) (x : Str) (ps : List Str) (T : Ty) (F : List PyData → Option RX) : Prop :=
  ∃ f fd, FnOk P w K mg base (CXe P w) k f fd ps (spX K T F) ∧ mg x = some (.ref f) ∧ PySem.W.keepIn K (.ref f) = true ∧ Binds K fd ps [] ∧ PySem.W.nsIn K mainGlobals x = some (some (.ref f))
noncomputable def pureX (F : List PyData → Option RX) (ds : List PyData) : Option PyData := (F ds).bind fun r => match r with
  | .ret d => some d
  | .exc _ => none
theorem DefX.ok {P : Program} {w : World} {K : PySem.W.Frag} {mg : Str → Option Value} {base : Heap} {k : Nat} {x : Str} {ps : List Str} {T : Ty} {F : List PyData → Option RX} (G : DefX P w K mg base k x ps T F) : DefOk P w K mg base k x ps T (pureX F) := by
  refine L2.o_EEAAAA (G) fun f fd h1 h2 h3 h4 h5 => ?_
  have imp : ∀ vs H Q E, spR K T (pureX F) vs H Q E → spX K T F vs H Q E0 := fun vs H Q E zpat => by
    refine L2.o_EEEAAA (zpat) fun hid ds r a1 a2 a3 a4 => ?_
    obtain ⟨q, b1, b2⟩ := bind_some a3
    cases q with
    | ret d => cases b2; exact ⟨hid, ds, .ret r, a1, a2, b1, a4⟩
    | exc x => cases b2
  refine L2.i_EEAAAA (f) (fd) (⟨fun vs H Q E h => h1.len vs H Q E0 (imp vs H Q E h), fun A outer s H args us vs Q E hr he hb hv hs => ?_⟩) (h2) (h3) (h4) (h5)
  refine codeAny_mono (h1.run A outer s H args us vs Q E0 hr he hb hv (imp vs H Q E hs)) fun r s' hq => ?_
  cases r with
  | error e =>
    refine L2.o_EEEEAAAAAA (hq) fun H' a C od _ _ _ _ _ _ q => ?_
    exact q.elim
  | ok fl => cases fl <;> exact hq
section
variable {X : Cx} {O : Ow} {a : Expr} {es : List Expr} {pos p : Pos} {fs : Rho → Option (List PyData)} {k : Nat} {ps : List Str} {x : Str} {T : Ty} {F : List PyData → Option RX}
theorem xt_call (G : DefX X.prog X.w X.K X.mg X.base k x ps T F) (hr : Room k X.A) (hg : Gl X x) (hex : X.ex = []) (ha : PAv X O (a :: es) fs) (hdb : (x == ("__debug__" : Str)) = false := by decide) (he : starEach (a :: es) X.env = (false, eval a X.env) :: starEach es X.env := by rfl) (hpl : (backTo pos (starEach es X.env)).any (·.1) = false := by rfl) :
    PXt X O T (.Call (.Name x p) (a :: es) [] pos) (fun ρ => (fs ρ).bind F) := by
  refine L2.o_EEAAAA (G) fun f fd h1 h2 h3 h4 _ => ?_
  intro pins s σ H Q I h
  obtain ⟨hid, H0, ρ, ow, r, E, hf, q⟩ := h
  obtain ⟨ds, g1, g2⟩ := bind_some hf
  refine wpAny_Call_Name_kw (ld_glob I hg h2 ?_ hdb)
  refine PySem.W.callWith_K (h₀ := X.base) I.ok.mod.kin h3 (thn (ha pos pins s σ H (fun vs H1 => Same H H1 ∧ DenL X.K (del H1 (uni hid ow)) vs ds) I ⟨hid, H0, ρ, ow, ds, E, g1, fun vs H1 s1 D1 => ⟨s1, D1⟩⟩) fun us s1 ⟨vs, H1, I1, r1, sm, D1⟩ => ⟨I1.kIn, ?_⟩) he hpl
  refine run_fnX (E := fun cv od H' => ∃ x C, r = .exc x ∧ cv = .ref C ∧ Same H1 H' ∧ XIs X.K (del H' (uni hid ow)) C od x) h1 hr h4 hex I1 r1 ⟨uni hid ow, ds, r, (E.mono sm).uniL, D1, g2, ?_⟩ fun s2 H2 a C od I2 fl ⟨x, C', hrx, hC, sm2, hx⟩ => ?_
  · cases r with
    | ret d =>
      intro v as H2 s2 n2 D2
      refine q v as H2 (sm.trans s2) (fun p hp => sm.free (n2 p hp)) (D2.mono (del_sub fun b z => ?_) fun p _ o e => e)
      rcases z with z | z
      · exact .inl (.inl z)
      · rcases List.mem_append.mp z with z | z
        · exact .inr z
        · exact .inl (.inr z)
    | exc x => exact fun C od H2 s2 hx => ⟨x, C, rfl, rfl, s2, hx⟩
  · cases hC
    subst hrx
    exact q pins s2 H2 a C od I2 (sm.trans sm2) fl hx
end
inductive OutX where
  | nx (ρ : Rho) | rt (d : PyData) | bk (ρ : Rho) | ct (ρ : Rho) | ex (x : PyData) (ρ : Rho)
noncomputable def ThenX (X : Cx) (O : Ow) (hid : Addr → Prop) (H0 G : Hp) (D : Ends) : OutX → Prop
  | .nx ρ' => ∀ σ' H' ow', Same G (del H' (uni hid ow')) → EnvOk X.K O hid H0 σ' H' ρ' ow' → D.nx σ' H'
  | .bk ρ' => ∀ σ' H' ow', Same G (del H' (uni hid ow')) → EnvOk X.K O hid H0 σ' H' ρ' ow' → D.bk σ' H'
  | .ct ρ' => ∀ σ' H' ow', Same G (del H' (uni hid ow')) → EnvOk X.K O hid H0 σ' H' ρ' ow' → D.ct σ' H'
  | .rt d => ∀ v as H', Same H0 H' → (∀ p ∈ as, H0 p = none) → DenO X.K H' (del H' (uni hid as)) O.r v d as → D.rt v H'
  | .ex x ρ' => ∀ pins s' σ' H' ow' a C od, Inv X pins σ' H' s' → Same G (del H' (uni hid ow')) → EnvOk X.K O hid H0 σ' H' ρ' ow' → Fly X pins H' s' a C od → XIs X.K (del H' (uni hid ow')) C od x → X.xe (.ref a) s'
noncomputable def tPx (X : Cx) (O : Ow) (F : Rho → Option OutX) : TS := fun D σ H => At5 X.K O F σ H fun hid H0 ρ ow o => ThenX X O hid H0 (del H (uni hid ow)) D o
noncomputable abbrev PSx (X : Cx) (O : Ow) (st : Stmt) (F : Rho → Option OutX) : Prop := PS X st (tPx X O F)
noncomputable abbrev PSsx (X : Cx) (O : Ow) (st : List Stmt) (F : Rho → Option OutX) : Prop := PSs X st (tPx X O F)
theorem ThenX.weak {X : Cx} {O : Ow} {hid : Addr → Prop} {H0 G G' : Hp} {D : Ends} {o : OutX} (s : Same G G') (h : ThenX X O hid H0 G D o) : ThenX X O hid H0 G' D o := by
  cases o with
  | nx ρ => exact fun σ' H' ow' s' E => h σ' H' ow' (s.trans s') E
  | bk ρ => exact fun σ' H' ow' s' E => h σ' H' ow' (s.trans s') E
  | ct ρ => exact fun σ' H' ow' s' E => h σ' H' ow' (s.trans s') E
  | rt d => exact h
  | ex x ρ => exact fun pins s1 σ' H' ow' a C od I s' E f q => h pins s1 σ' H' ow' a C od I (s.trans s') E f q
noncomputable def Out.x : Out → OutX
  | .nx ρ => .nx ρ
  | .rt d => .rt d
  | .bk ρ => .bk ρ
  | .ct ρ => .ct ρ
noncomputable def seqX (F G : Rho → Option OutX) (ρ : Rho) : Option OutX := (F ρ).bind fun o => match o with
  | .nx ρ' => G ρ'
  | o => some o
noncomputable def dropX (ρ : Rho) (x : Option RX) : Option OutX := x.map fun r => match r with
  | .ret _ => .nx ρ
  | .exc x => .ex x ρ
section
variable {X : Cx} {O : Ow} {st : Stmt} {rest : List Stmt} {F G : Rho → Option OutX} {e : Expr} {f : Rho → Option RX} {pos : Pos} {T : Ty}
theorem x_lift {F : Rho → Option Out} (h : PSv X.nox O st F) : PSx X O st (fun ρ => (F ρ).map Out.x) := fun pins s σ H D I zpat => by
  obtain ⟨hid, H0, ρ, ow, o, E, hf, k⟩ := zpat
  obtain ⟨o', g1, rfl⟩ := map_some hf
  refine wpAny_mono (h pins s σ H D (I.wish _) ⟨hid, H0, ρ, ow, o', E, g1, ?_⟩) (fun _ _ q => q.unwish) fun _ _ z => False.elim z
  cases o' <;> exact k
theorem xs_lift {sts : List Stmt} {F : Rho → Option Out} (h : PSsv X.nox O sts F) : PSsx X O sts (fun ρ => (F ρ).map Out.x) := fun pins s σ H D I zpat => by
  obtain ⟨hid, H0, ρ, ow, o, E, hf, k⟩ := zpat
  obtain ⟨o', g1, rfl⟩ := map_some hf
  refine wpAny_mono (h pins s σ H D (I.wish _) ⟨hid, H0, ρ, ow, o', E, g1, ?_⟩) (fun _ _ q => q.unwish) fun _ _ z => False.elim z
  cases o' <;> exact k
theorem xx_nil : PSsx X O [] (fun ρ => some (.nx ρ)) := pss_nil.imp fun D σ H zpat => by
  obtain ⟨hid, H0, ρ, ow, o, E, hf, k⟩ := zpat
  cases hf
  exact k σ H ow (Same.refl _) E
theorem xx_cons (h1 : PSx X O st F) (h2 : PSsx X O rest G) : PSsx X O (st :: rest) (seqX F G) := (pss_cons h1 h2).imp fun D σ H zpat => by
  obtain ⟨hid, H0, ρ, ow, o, E, hf, k⟩ := zpat
  obtain ⟨o1, g1, g2⟩ := bind_some hf
  refine ⟨hid, H0, ρ, ow, o1, E, g1, ?_⟩
  cases o1 with
  | nx ρ1 => exact fun σ' H' ow' s' E' => ⟨hid, H0, ρ1, ow', o, E', g2, by cases o <;> exact k.weak s'⟩
  | rt d => cases g2; exact k
  | bk ρ1 => cases g2; exact k
  | ct ρ1 => cases g2; exact k
  | ex x ρ1 => cases g2; exact k
theorem xx_one (h1 : PSx X O st F) : PSsx X O [st] F := pss_one h1
theorem xx_if {c : Expr} {a b : List Stmt} {ft : Rho → Option Bool} (hc : PTv X.nox O c ft) (ha : PSsx X O a F) (hb : PSsx X O b G) : PSx X O (.If c a b pos) (fun ρ => condO (ft ρ) (F ρ) (G ρ)) := (ps_if hc.nox ha hb).imp fun D σ H zpat => by
  obtain ⟨hid, H0, ρ, ow, o, E, hf, k⟩ := zpat
  obtain ⟨c, g1, g2⟩ := bind_some hf
  refine ⟨hid, H0, ρ, ow, c, E, g1, fun H' s => ?_⟩
  cases c with
  | true => rw [if_pos rfl] at g2 ⊢; exact ⟨hid, H0, ρ, ow, o, E.mono s, g2, k.weak (del_mono s _)⟩
  | false => rw [if_neg Bool.false_ne_true] at g2 ⊢; exact ⟨hid, H0, ρ, ow, o, E.mono s, g2, k.weak (del_mono s _)⟩
theorem xx_expr (h : PXt X O T e f) (hs : swapsWith e none pos.line X.env = pure false := by rfl) : PSx X O (.Expr e pos) (fun ρ => dropX ρ (f ρ)) := (ps_expr h hs).imp fun D σ H zpat => by
  obtain ⟨hid, H0, ρ, ow, o, E, hf, k⟩ := zpat
  obtain ⟨r, g1, rfl⟩ := map_some hf
  refine ⟨hid, H0, ρ, ow, r, E, g1, ?_⟩
  cases r with
  | ret d => exact fun v as H' s n _ => k σ H' ow (del_mono s _) (E.mono s)
  | exc x => exact fun pins s' H' a C od I s fl hx => k pins s' σ H' ow a C od I (del_mono s _) (E.mono s) fl hx
end
end L2
namespace L2
open PySem PySem.Spec PyProof.Rows
variable [Reg]
section
variable {X : Cx} {O : Ow} {st : Stmt} {rest : List Stmt} {F G : Rho → Option OutX} {e : Expr} {f : Rho → Option RX} {pos : Pos} {T : Ty}
noncomputable def bmVE : List Value := [.type "ValueError", .type "Exception", .type "BaseException", .type "object"]
inductive XNo (K : PySem.W.Frag) (C : Addr) : Prop
  | mk (nm q : Str) (N : Addr) (bs bm : List Value) (hdct : Bool) (sn : List Str) (sub : List Value) (ab : Bool) (col : Option Bool) (dd : Option Addr) (k0 k1 k2 k3 k5 : Option Value) (ob : Obj) (l : K.lookup C = some ob) (eo : ob = excClassObj nm q C N bs bm hdct sn sub ab col dd k0 k1 k2 k3 k5 "ValueError.__new__") (t : PySem.W.tailIn K bmVE bm = true) (o : PySem.W.nsOkIn K N = true) (i : PySem.W.nsIn K N "__init__" = some none) : XNo K C
theorem XNo.of {K : PySem.W.Frag} {C : Addr} {nm q : Str} {N : Addr} {bs bm : List Value} {hdct : Bool} {sn : List Str} {sub : List Value} {ab : Bool} {col : Option Bool} {dd : Option Addr} {k0 k1 k2 k3 k5 : Option Value} {ob : Obj} (l : K.lookup C = some ob) (eo : ob = excClassObj nm q C N bs bm hdct sn sub ab col dd k0 k1 k2 k3 k5 "ValueError.__new__") (t : PySem.W.tailIn K bmVE bm = true) (o : PySem.W.nsOkIn K N = true) (i : PySem.W.nsIn K N "__init__" = some none) : XNo K C := ⟨nm, q, N, bs, bm, hdct, sn, sub, ab, col, dd, k0, k1, k2, k3, k5, ob, l, eo, t, o, i⟩
structure XCls (X : Cx) (x : Str) (C : Addr) : Prop where
  gl : Gl X x
  mg : X.mg x = some (.ref C)
  ns : PySem.W.nsIn X.K mainGlobals x = some (some (.ref C))
  ex : XNo X.K C
inductive ExcObj (h : Heap) (C : Addr) : Prop
  | mk (nm q : Str) (N : Addr) (bs bm : List Value) (hdct : Bool) (sn : List Str) (sub : List Value) (ab : Bool) (col : Option Bool) (dd : Option Addr) (k0 k1 k2 k3 k5 : Option Value) (mN : Str → Option Value) (hC : h.get? C = some (excClassObj nm q C N bs bm hdct sn sub ab col dd k0 k1 k2 k3 k5 "ValueError.__new__")) (hN : h.Ns N mN) (hi : mN "__init__" = none) (T : OwnTail h bmVE bm) : ExcObj h C
theorem exc_obj {K : PySem.W.Frag} {h : Heap} {C : Addr} (Xk : K.In h) (q : XNo K C) : ExcObj h C := by
  obtain ⟨nm, q, N, bs, bm, hdct, sn, sub, ab, col, dd, k0, k1, k2, k3, k5, ob, l, rfl, t, o, i⟩ := q
  exact ⟨nm, q, N, bs, bm, hdct, sn, sub, ab, col, dd, k0, k1, k2, k3, k5, _, Xk _ _ l, .of_isNs (PySem.W.isNs_of_in Xk o), PySem.W.nsMap_none_of_in Xk o i, PySem.W.tail_of_in Xk t⟩
theorem ps_raise0 {x : Str} {C : Addr} {np cpos : Pos} (hc : X.calm = true) (hex : X.ex = []) (c : XCls X x C) (hdb : (x == ("__debug__" : Str)) = false := by decide) :
    PS X (.Raise (some (.Call (.Name x np) [] [] cpos)) none pos) (fun D σ H => ∀ pins s' a, Inv X pins σ H s' → Fly X pins H s' a C none → X.xe (.ref a) s') := by
  intro pins s σ H D I h
  obtain ⟨nm, q, N, bs, bm, hdct, sn, sub, ab, col, dd, k0, k1, k2, k3, k5, mN, hC, hN, hni, T⟩ := exc_obj I.kIn c.ex
  refine wpAny_Raise_call_subU (C := C) (nm := nm) (q := q) (N := N) (bs := bs) (bm := bm) (hdct := hdct) (sn := sn) (sub := sub) (ab := ab) (col := col) (dd := dd) (k0 := k0) (k1 := k1) (k2 := k2) (k3 := k3) (k5 := k5)
    F.excBase_ValueError (by decide) F.excBase_ValueError (mN := mN) (T.hasType F.excBase_ValueError.hasBase) (I.ok.hd hc) rfl hni (ld_glob I c.gl c.mg ⟨rfl, ?_⟩ hdb)
  refine evalArgs_empty ⟨rfl, Nat.zero_le _, hC, hN, T, fun h' a hm => ?_⟩
  have I' : Inv X pins σ H { s with heap := h' } := I.kept (t' := s.toks) hm.keeps
  refine L2.o_EAA (hm.there) fun t ht _ _ => ?_
  refine L2.o_AA (I.none_of hex hm.new) fun n1 n2 n3 => ?_
  exact h pins _ a I' ⟨⟨⟨_, _, ht, rfl, rfl, rfl, .inl rfl⟩, n1, n2⟩, n3⟩
theorem xx_raise0 {x : Str} {C : Addr} {np cpos : Pos} (hc : X.calm = true) (hex : X.ex = []) (c : XCls X x C) (hdb : (x == ("__debug__" : Str)) = false := by decide) :
    PSx X O (.Raise (some (.Call (.Name x np) [] [] cpos)) none pos) (fun ρ => some (.ex (excD x []) ρ)) := (ps_raise0 hc hex c hdb).imp fun D σ H ⟨hid, H0, ρ, ow, o, E, hf, k⟩ pins s' a I fl => by
  cases hf
  exact k pins s' σ H ow a C none I (Same.refl _) E fl ⟨x, [], [], rfl, c.ns, .inl ⟨rfl, rfl⟩, .nil⟩
end
noncomputable def outX : Option OutX → Option RX
  | some (.rt r) => some (.ret r)
  | some (.nx _) => some (.ret .none)
  | some (.ex x _) => some (.exc x)
  | _ => none
noncomputable def runX (n m : Nat) (B : Rho → Option OutX) (ds : List PyData) : Option RX := if ds.length = n then outX (B (ds.map some ++ List.replicate m none)) else none
theorem fn_autoX {P : Program} {w : World} {K : PySem.W.Frag} {mg : Str → Option Value} {base : Heap} {x qual : Str} {st : Stmt} {f : Addr} {fd : FuncData} {N ps : List Str} {k : Nat} (O : Ow) (F : Fun K x qual st f fd) (S : FnScope N ps (defScope st))
    (hO : ∀ i ∈ O.s.map (·.1), ps.length ≤ i) (B : Rho → Option OutX)
    (hbody : ∀ (cdv : Value), CdOk K f cdv → ∀ (A : Around) (outer : List Env) (s : Shared) (H : Hp) (E : XK), Room k (A.deeper (envOfC qual (defScope st) s.heap.objs.size f cdv)) →
      PSsx (cxOf (CXe P w) P w K mg base N qual (defScope st) f cdv A outer s H E) O (defBody st) B) :
    FnOk P w K mg base (CXe P w) (k + 1) f fd ps (spX K O.r (runX ps.length (N.length - ps.length) B)) := by
  refine L2.o_EEEEEEEEEAA (F.ex) fun a1 a2 a3 a4 a5 a6 cdv a7 a8 e lk hcd => ?_
  subst e
  refine fn_of lk hcd S (fun vs H Q E h => ?_) (fun A outer s H vs Q E hr h => ?_)
  · refine L2.o_EEEAAA (h) fun hid ds r _ D hf _ => ?_
    rw [D.length]
    unfold runX at hf
    split at hf
    · assumption
    · cases hf
  · refine L2.o_EEEAAA (h) fun hid ds r hh D hf q => ?_
    refine ⟨_, hbody cdv ⟨_, _, _, _, lk, rfl⟩ A outer s H E hr, ?_⟩
    have hdl := D.length
    unfold runX at hf
    split at hf
    case isFalse => cases hf
    rename_i hpl
    rw [← hpl] at hf
    have E0 : EnvOk K O hid H (start N vs) H (ds.map some ++ List.replicate (N.length - ds.length) none) [] := by
      have get : ∀ (i : Nat) (d : PyData), (ds.map some ++ List.replicate (N.length - ds.length) none)[i]? = some (some d) → i < ds.length ∧ ∃ v, (start N vs)[i]? = some (some v) ∧ Den K (del H hid) v d := fun i d e => by
        by_cases hi : i < ds.length
        · rw [List.getElem?_append_left (by simpa using hi), List.getElem?_map] at e
          cases q : ds[i]? with
          | none => rw [q] at e; cases e
          | some d' =>
            rw [q] at e
            cases e
            refine L2.o_EA (D.get q) fun v h1 h2 => ?_
            refine ⟨hi, v, ?_, h2⟩
            unfold start
            rw [List.getElem?_append_left (by simpa [hdl] using hi), List.getElem?_map, h1]
            rfl
        · rw [List.getElem?_append_right (by simpa using Nat.le_of_not_lt hi), List.getElem?_replicate] at e
          split at e <;> cases e
      refine ⟨by unfold start; simp [hdl], fun b o e => by rw [del_out (by simp)]; exact e, fun i d hi e => ?_, ⟨fun _ => [], fun i t d hi e => ?_, fun i j p _ z => (by cases z), fun i p z => (by cases z)⟩, fun l z => (by cases z), hh, fun _ => rfl⟩
      · refine L2.o_AEA (get i d e) fun _ v h1 h2 => ?_
        exact ⟨v, h1, by rw [uni_nil]; exact h2⟩
      · have := (get i d e).1
        have := hO i (lookTy_mem hi)
        omega
    cases hB : B (ds.map some ++ List.replicate (N.length - ds.length) none) with
    | none => rw [hB] at hf; cases hf
    | some o =>
      rw [hB] at hf
      refine ⟨hid, H, _, [], o, E0, hB, ?_⟩
      cases o with
      | rt d => cases hf; exact fun v as H' s' n Dv => q v as H' s' n Dv
      | nx ρ' => cases hf; exact fun σ' H' ow' s' E' => q .non [] H' E'.baseS (fun p hp => by cases hp) .non
      | bk ρ' => cases hf
      | ct ρ' => cases hf
      | ex x ρ' =>
        cases hf
        exact fun pins s' σ' H' ow' a C od I s2 E' fl hx => cx_leave I fl.c (q C od H' E'.baseS (hx.mono (del_uni _ _ _)))
end L2
namespace L2
open PySem PySem.Spec PyProof.Rows
variable [Reg]
noncomputable abbrev Cx.wp (X : Cx) (pn : List (Addr × Obj)) (W : Value → Shared → Prop) : Cx := { X with pn := pn, xe := W }
noncomputable abbrev Cx.mark (X : Cx) (pn : List (Addr × Obj)) (a : Addr) : Cx := { X with A := X.A.mark (some (.ref a)), calm := false, pn := pn, xe := fun _ _ => False }
section
variable {X : Cx} {pins pins' : List (Addr × Obj)} {σ : St} {H : Hp} {s : Shared} {W : Value → Shared → Prop} {a : Addr}
theorem Inv.wp (I : Inv X pins σ H s) (W : Value → Shared → Prop) : Inv (X.wp (X.pn ++ pins) W) [] σ H s :=
  ⟨⟨I.ok.mod, I.ok.kind, I.ok.glob, I.ok.blt, I.ok.above, I.ok.inj, I.ok.has, I.ok.cab, I.ok.hd, I.ok.frames, I.ok.stk, I.ok.exf, I.ok.bs, I.ok.bsz, I.ok.noex, I.ok.exfs, I.ok.funs, I.ok.frf, I.ok.tabs⟩, I.os, I.bare, I.base, I.loc, I.cell, I.free, I.freeC, fun p hp => I.pin p (by simpa using hp), I.hok, I.len⟩
theorem Inv.unwp (I : Inv (X.wp (X.pn ++ pins) W) pins' σ H s) : Inv X pins σ H s :=
  ⟨⟨I.ok.mod, I.ok.kind, I.ok.glob, I.ok.blt, I.ok.above, I.ok.inj, I.ok.has, I.ok.cab, I.ok.hd, I.ok.frames, I.ok.stk, I.ok.exf, I.ok.bs, I.ok.bsz, I.ok.noex, I.ok.exfs, I.ok.funs, I.ok.frf, I.ok.tabs⟩, I.os, I.bare, I.base, I.loc, I.cell, I.free, I.freeC, fun p hp => I.pin p (List.mem_append_left _ hp), I.hok, I.len⟩
theorem Inv.mark (I : Inv X pins σ H s) (a : Addr) : Inv (X.mark (X.pn ++ pins) a) [] σ H s :=
  ⟨⟨I.ok.mod, I.ok.kind, I.ok.glob, I.ok.blt, I.ok.above, I.ok.inj, I.ok.has, I.ok.cab, (fun z => nomatch z), I.ok.frames, I.ok.stk, I.ok.exf, I.ok.bs, I.ok.bsz, I.ok.noex, I.ok.exfs, I.ok.funs, I.ok.frf, I.ok.tabs⟩, I.os, I.bare, I.base, I.loc, I.cell, I.free, I.freeC, fun p hp => I.pin p (by simpa using hp), I.hok, I.len⟩
theorem Inv.unmark (hc : X.calm = true → X.A.handled = none) (I : Inv (X.mark (X.pn ++ pins) a) pins' σ H s) : Inv X pins σ H s :=
  ⟨⟨I.ok.mod, I.ok.kind, I.ok.glob, I.ok.blt, I.ok.above, I.ok.inj, I.ok.has, I.ok.cab, hc, I.ok.frames, I.ok.stk, I.ok.exf, I.ok.bs, I.ok.bsz, I.ok.noex, I.ok.exfs, I.ok.funs, I.ok.frf, I.ok.tabs⟩, I.os, I.bare, I.base, I.loc, I.cell, I.free, I.freeC, fun p hp => I.pin p (List.mem_append_left _ hp), I.hok, I.len⟩
theorem SP.unwp {D : Ends} {f : Flow} {s' : Shared} (h : SP (X.wp (X.pn ++ pins) W) pins' D f s') : SP X pins D f s' := by
  cases f with
  | next => obtain ⟨σ', H', I, q⟩ := h; exact ⟨σ', H', I.unwp, q⟩
  | brk => obtain ⟨σ', H', I, q⟩ := h; exact ⟨σ', H', I.unwp, q⟩
  | cont => obtain ⟨σ', H', I, q⟩ := h; exact ⟨σ', H', I.unwp, q⟩
  | ret u => obtain ⟨v, σ', H', I, r, q⟩ := h; exact ⟨v, σ', H', I.unwp, r, q⟩
theorem Inv.land {oe : Obj} {vs : Array Value} {h' : Heap} {C : Addr} {od : Option Addr} {fl : Value} (I : Inv X pins σ H s) (F : Fly X pins H s a C od) (he : s.heap.get? a = some oe) (hd : oe.data = .fields vs) (n : Noted (frs X.stack) a oe fl s.heap h') :
    Inv X pins σ (upd H a (fz a (oe.mapFields (·.setIfInBounds 1 (.ref s.heap.objs.size))))) { s with heap := h' } := by
  have nL : X.env.locals ≠ a := fun z => by
    obtain ⟨m, ⟨o, es, ep, ho, hd', _⟩, _⟩ := I.loc
    rw [z, he] at ho; cases ho; rw [hd'] at hd; cases hd
  have nC : ∀ x c, X.env.cells.lookup x = some c → c ≠ a := fun x c e z => by
    refine L2.o_EEA (I.cell x c e) fun v o ho hd' => ?_
    rw [z, he] at ho; cases ho; rw [hd'] at hd; cases hd
  have n0 : ∀ b o, X.s₀.heap.get? b = some o → b ≠ a := fun b o e z => by rw [z, F.c.new] at e; cases e
  have nH : ∀ b u, H b = some u → b ≠ a := fun b u e z => by rw [z, F.c.fre] at e; cases e
  have nfs : ∀ b, b ≠ X.env.locals → b ∉ X.fs → b ∉ frs X.stack := fun b h1 h2 z => (List.mem_cons.mp (I.stkSub b z)).elim h1 h2
  have keepT : ∀ c v, s.heap.get? c = some v → H c ≠ none → h'.get? c = some v := fun c v q1 q2 => n.keep c v (fun z => q2 (by rw [z]; exact F.c.fre)) (fun z => q2 (I.stkFree c z)) q1
  have cellK : ∀ x c, X.env.cells.lookup x = some c → ∀ v, s.heap.IsCell c v → h'.IsCell c v := fun x c e v zpat => by
    refine L2.o_EA (zpat) fun o ho hd => ?_
    refine L2.o_E (n.slot c o (nC x c e) ho) fun sl q => ?_
    exact ⟨_, q, hd⟩
  refine ⟨I.ok, I.os, I.bare, ⟨fun b o e nn hb hx => ?_, fun b o e nn hb hx => ?_, fun b o e nn hx => ?_, fun b o e hx => ?_, fun b xs e => ?_, fun b o xs e => ?_, fun b ps e => ?_, fun b e => ?_⟩, ?_, fun x c e => ?_, ?_, fun x c e => ?_, fun p hp => ?_, fun b u e => ?_, I.len⟩
  · have neL : b ≠ X.env.locals := Nat.ne_of_lt (Nat.lt_of_lt_of_le (Heap.lt_size e) I.ok.above)
    exact n.keep b o (n0 b o e) (nfs b neL hb) (I.base.keep b o e nn hb hx)
  · refine L2.o_E (I.base.slot b o e nn hb hx) fun sl e1 => ?_
    refine L2.o_E (n.slot b _ (n0 b o e) e1) fun sl' e2 => ?_
    exact ⟨sl', e2⟩
  · rw [upd_ne (n0 b o e)]; exact I.base.free b o e nn hx
  · refine L2.o_E (I.base.there b o e hx) fun o' e1 => ?_
    refine L2.o_E (n.slot b _ (n0 b o e) e1) fun sl' e2 => ?_
    exact ⟨_, e2⟩
  · have q := I.base.tups b xs e; rw [upd_ne (nH b _ q)]; exact q
  · have q := I.base.frzs b o xs e; rw [upd_ne (nH b _ q)]; exact q
  · refine L2.o_E (I.base.tbls b ps e) fun more q => ?_
    exact ⟨more, by rw [upd_ne (nH b _ q)]; exact q⟩
  · have q := I.base.tabs b e; rw [upd_ne (nH b _ q)]; exact q
  · refine L2.o_EA (I.loc) fun m hn hl => ?_
    refine L2.o_EEEA (hn) fun o es ep ho r => ?_
    refine L2.o_E (n.slot _ o nL ho) fun sl q => ?_
    refine ⟨m, ⟨_, es, ep, q, r⟩, fun i x v e1 e2 e3 => ?_⟩
    refine L2.o_EA (hl i x v e1 e2 e3) fun u ru l => ?_
    refine ⟨u, ru, ?_⟩
    rcases l with l | ⟨k, c, e, z⟩
    · exact .inl l
    · exact .inr ⟨k, c, e, cellK x c e _ z⟩
  · refine L2.o_E (I.cell x c e) fun v z => ?_
    exact ⟨v, cellK x c e v z⟩
  · rw [upd_ne nL]; exact I.free
  · rw [upd_ne (nC x c e)]; exact I.freeC x c e
  · refine L2.o_AAAA (I.pin p hp) fun e nn ne nf d => ?_
    have npa := F.pin p hp
    exact ⟨n.keep p.1 p.2 npa (nfs p.1 ne nf) e, by rw [upd_ne npa]; exact nn, ne, nf, d⟩
  · by_cases hb : b = a
    · subst hb
      rw [upd_same] at e; cases e
      exact fz_ok n.exc
    · rw [upd_ne hb] at e
      refine (I.hok b u e).stay (fun c v hc q1 => keepT c v q1 ?_) (fun c q => ?_) (fun c xs q => ?_) fun c o u vs hdv q => ?_
      · rcases hc with rfl | hc
        · rw [e]; simp
        · rw [hc]; simp
      · rw [upd_ne (nH c _ q)]; exact q
      · rw [upd_ne (nH c _ q)]; exact q
      · rw [upd_ne (nH c _ q)]; exact q
theorem Inv.gone {i : Nat} {n : Str} {h' : Heap} {v : Option Value} {m : Str → Option Value} {t : Nat} (I : Inv X pins σ H s) (hN : X.N.Nodup) (hi : X.N[i]? = some n) (hk : X.env.kindOf n = some .local)
    (hm : s.heap.Ns X.env.locals m) (hl : ∀ (j : Nat) (x : Str) (w : V), X.N[j]? = some x → σ[j]? = some (some w) → Vis X.env.scope x → ∃ u, RelV w u ∧ Look X.env s.heap m x u)
    (hn : h'.Ns X.env.locals (fun x => if x = n then v else m x)) (hs : Heap.SameBut X.env.locals s.heap h') : Inv X pins (σ.set i none) H { s with heap := h', toks := t } := by
  refine L2.o_EEEA (id hm) fun oL _ _ hoL _ => ?_
  have kp : ∀ b o, b ≠ X.env.locals → s.heap.get? b = some o → h'.get? b = some o := fun b o hb q => (hs.2 b hb).trans q
  refine ⟨I.ok, I.os, I.bare, ⟨fun b o e nn hb hx => ?_, fun b o e nn hb hx => ?_, I.base.free, fun b o e hx => ?_, I.base.tups, I.base.frzs, I.base.tbls, I.base.tabs⟩, ⟨_, hn, fun j y w e1 e2 e3 => ?_⟩, fun x c e => ?_, I.free, I.freeC, fun p hp => ?_, fun b u e => ?_, by simpa using I.len⟩
  · exact kp b o (Nat.ne_of_lt (Nat.lt_of_lt_of_le (Heap.lt_size e) I.ok.above)) (I.base.keep b o e nn hb hx)
  · refine L2.o_E (I.base.slot b o e nn hb hx) fun sl e1 => ?_
    exact ⟨sl, kp b _ (Nat.ne_of_lt (Nat.lt_of_lt_of_le (Heap.lt_size e) I.ok.above)) e1⟩
  · refine L2.o_E (I.base.there b o e hx) fun o' e1 => ?_
    exact ⟨o', kp b _ (Nat.ne_of_lt (Nat.lt_of_lt_of_le (Heap.lt_size e) I.ok.above)) e1⟩
  · have hji : j ≠ i := fun z => by
      subst z
      have hlt : j < σ.length := by have := (List.getElem?_eq_some_iff.mp e2).1; simpa using this
      rw [List.getElem?_set_self hlt] at e2
      cases e2
    rw [List.getElem?_set_ne (Ne.symm hji)] at e2
    refine L2.o_EA (hl j y w e1 e2 e3) fun u r q => ?_
    refine ⟨u, r, ?_⟩
    have hne : y ≠ n := fun e => hji (nodup_ix hN e1 (e ▸ hi))
    rcases q with ⟨k, e⟩ | ⟨k, c, e, z⟩
    · exact .inl ⟨k, by simp [hne, e]⟩
    · exact .inr ⟨k, c, e, z.sameBut hs (I.cne y c e)⟩
  · refine L2.o_E (I.cell x c e) fun w' z => ?_
    exact ⟨w', z.sameBut hs (I.cne x c e)⟩
  · refine L2.o_AAAA (I.pin p hp) fun e nn ne nf d => ?_
    exact ⟨kp p.1 p.2 ne e, nn, ne, nf, d⟩
  · have nbl : ∀ c u, H c = some u → c ≠ X.env.locals := fun c u q z => by rw [z, I.free] at q; cases q
    refine (I.hok b u e).stay (fun c v hc q1 => kp c v ?_ q1) (fun _ q => q) fun _ _ q => q
    rcases hc with rfl | hc
    · exact nbl _ _ e
    · exact nbl _ _ hc
end
theorem EnvOk.unset {K : PySem.W.Frag} {O : Ow} {hid : Addr → Prop} {H0 H : Hp} {σ : St} {ρ : Rho} {ow : List Addr} (e : EnvOk K O hid H0 σ H ρ ow) (i : Nat) : EnvOk K O hid H0 (σ.set i none) H (ρ.set i none) ow := by
  have two : ∀ {j : Nat} {d : PyData}, (ρ.set i none)[j]? = some (some d) → j ≠ i ∧ ρ[j]? = some (some d) := fun {j d} q => by
    by_cases hj : j = i
    · subst hj
      have hl : j < ρ.length := by have := (List.getElem?_eq_some_iff.mp q).1; simpa using this
      rw [List.getElem?_set_self hl] at q
      cases q
    · rw [List.getElem?_set_ne (Ne.symm hj)] at q
      exact ⟨hj, q⟩
  refine ⟨by simpa using e.len, e.base, fun j x hj q => ?_, ?_, e.isl, e.ishL, e.emp⟩
  · refine L2.o_A (two q) fun hne z => ?_
    refine L2.o_EA (e.val j x hj z) fun w a b => ?_
    exact ⟨w, by rw [List.getElem?_set_ne (Ne.symm hne)]; exact a, b⟩
  · refine L2.o_EAA (e.own) fun A a1 a2 a3 => ?_
    refine ⟨A, fun j t x hj q => ?_, a2, a3⟩
    refine L2.o_A (two q) fun hne z => ?_
    refine L2.o_EA (a1 j t x hj z) fun w a b => ?_
    exact ⟨w, by rw [List.getElem?_set_ne (Ne.symm hne)]; exact a, b⟩
noncomputable def Out.unset (i : Nat) : Out → Out
  | .nx ρ => .nx (ρ.set i none)
  | .bk ρ => .bk (ρ.set i none)
  | .ct ρ => .ct (ρ.set i none)
  | .rt d => .rt d
noncomputable def clsD : PyData → Str
  | .dict [(.bool true, .str c), _] => c
  | _ => ""
noncomputable def tryF (ie : Nat) (caught : List Str) (Hd : Rho → Option Out) (o : Option OutX) : Option Out := o.bind fun o => match o with
  | .nx ρ => some (.nx ρ)
  | .rt d => some (.rt d)
  | .bk ρ => some (.bk ρ)
  | .ct ρ => some (.ct ρ)
  | .ex x ρ => if caught.contains (clsD x) = true then (Hd (ρ.set ie (some x))).map (Out.unset ie) else none
section
variable {X : Cx} {O : Ow} {body suite : List Stmt} {b₀ : Stmt} {n tn : Str} {ie : Nat} {np hpos pos : Pos} {F : Rho → Option OutX} {Hd : Rho → Option Out} {PC : Addr} {caught : List Str}
theorem s_try (hc : X.calm = true) (hex : X.ex = []) (hst : X.stack = X.env :: X.outer) (hfr : X.env.frame = some X.env.locals) (hN : X.N.Nodup) (hi : X.N[ie]? = some n) (hk : X.env.kindOf n = some .local) (hfn : X.fn n = true ∨ X.env.scope.names.lookup n = some .local) (hO : O.s.lookup ie = none)
    (hg : Gl X tn) (hm : X.mg tn = some (.ref PC)) (hcl : ∀ cls ∈ caught, ∀ C, PySem.W.nsIn X.K mainGlobals cls = some (some (.ref C)) → PySem.W.exmOne X.K (.ref C) (.ref PC) = some true)
    (hb : ∀ pn W, PSsx (X.wp pn W) O body F) (hh : ∀ pn a, PSsv (X.mark pn a) O (b₀ :: suite) Hd) (hdb : (tn == ("__debug__" : Str)) = false := by decide) :
    PSv X O (.Try body [.ExceptHandler (some (.Name tn np)) (some n) (b₀ :: suite) hpos] [] [] pos) (fun ρ => tryF ie caught Hd (F ρ)) := by
  intro pins s σ H D I h
  obtain ⟨hid, H0, ρ, ow, out, E, hf, k⟩ := h
  obtain ⟨o, g1, g2⟩ := bind_some hf
  have hcls : (X.env.scope.kind == .class || (X.env.scope.kind == .module && X.env.locals != X.env.globals)) = false := by rw [I.ok.kind]; rfl
  refine wpAny_Try_except ?_
  have key : ∀ f s', SP X pins D f s' → (match f with | .next => wpAny (model X.prog X.w) X.A (execs [] X.env) (SP X pins D) X.xe s' | f => SP X pins D f s') := fun f s' q => by
    cases f with
    | next => exact wpAny_execs_nil q
    | _ => exact q
  refine wpAny_mono (hb (X.pn ++ pins) _ [] s σ H D (I.wp _) ⟨hid, H0, ρ, ow, o, E, g1, ?_⟩) (fun f s' q => key f s' q.unwp) fun _ _ z => z
  cases o with
  | nx ρ1 => cases g2; exact k
  | rt d => cases g2; exact k
  | bk ρ1 => cases g2; exact k
  | ct ρ1 => cases g2; exact k
  | ex x ρ1 =>
    simp only at g2
    split at g2
    case isFalse => cases g2
    rename_i hca
    obtain ⟨oh, g3, rfl⟩ := map_some g2
    intro pins' s1 σ1 H1 ow1 a C od I1w sm E1 fl hx
    have I1 : Inv X pins σ1 H1 s1 := I1w.unwp
    have fl1 : Fly X pins H1 s1 a C od := ⟨fl.c, fun p hp => fl.pin p (List.mem_append_left _ hp)⟩
    refine L2.o_EEAAAA (fl1.c.ex) fun oe vs he hcl' hdi hd tr => ?_
    revert hx
    refine fun zqq => L2.o_EEEAAA zqq fun cls fv fd zq3 hns hfv hDf => ?_
    clear zqq
    subst zq3
    have hst1 := I1.stack
    rw [hst] at hst1
    have hfrm := I1.ok.frames
    rw [hst] at hfrm
    refine note_exact (L := X.env.locals) hfrm hst1 hfr he hd tr fun h1 n1 => ?_
    have hfs : ∀ b ∈ (X.env :: X.outer).filterMap (·.frame), b < s1.heap.objs.size := fun b hb => by
      refine L2.o_AEA (hst1.mem hb) fun _ o ho _ => ?_
      exact Heap.lt_size ho
    refine down_exact (Heap.lt_size he) hd tr.sz n1 hfs fun h2 n2 => ?_
    have n2' : Noted (frs X.stack) a oe .none s1.heap h2 := by rw [hst]; exact n2
    have I2 := I1.land fl1 he hd n2'
    have hfresh : H1 a = none := fl1.c.fre
    have E2 := E1.mono (same_new (o := fz a (oe.mapFields (·.setIfInBounds 1 (.ref s1.heap.objs.size)))) hfresh)
    have Im := I2.mark a
    have hmem : cls ∈ caught := by
      have : caught.contains cls = true := hca
      exact List.contains_iff_mem.mp this
    have hxm := hcl cls hmem C hns
    have hty : PySem.W.Looks (model X.prog X.w) h2 (typeOf (.ref a)) (.ref C) := by
      have hc2 : (oe.mapFields (·.setIfInBounds 1 (.ref s1.heap.objs.size))).cls = .ref C := by rw [Obj.cls_mapFields]; exact hcl'
      exact hc2 ▸ (PySem.W.Looks.ld n2.exc).andThen .now
    have hmat := PySem.W.exm_one I2.kIn hty hxm
    refine wpAny_handleBy_cons (codeAny_handlers_test (ld_glob (pos := np) Im hg hm ?_ hdb)) (by intro q; cases q)
    refine hmat.at ?_
    show codeAny _ _ (.handlers (.ref a) [.ExceptHandler none (some n) (b₀ :: suite) hpos] X.env) _ _
    refine codeAny_handlers_suite_as ?_
    refine L2.o_EEAA (n2.tb) fun oT ts t2 t3 t4 => ?_
    refine wpAny_setFlight_none n2.exc (Obj.data_mapFields hd _) (by simp [tr.sz]) t2 t3 (Array.getElem?_eq_some_iff.mp t4).1 ?_
    rw [show ({ s1 with heap := h2 } : Shared).heap.update s1.heap.objs.size (Obj.mapFields (·.setIfInBounds 3 Value.none)) = h2 from Heap.update_setField_same h2 _ oT ts 3 .none t2 t3 t4]
    refine store_ok (X := X.mark (X.pn ++ pins) a) Im hN hi (.inl hk) (v := .ref a) rfl (fun s3 I3 => ?_) hfn
    have Dx : Den X.K (del (upd H1 a (fz a (oe.mapFields (·.setIfInBounds 1 (.ref s1.heap.objs.size))))) (uni hid ow1)) (.ref a) (excD cls (nmD fv ++ fd)) := by
      refine .exc ⟨_, C, _, E1.newAt hfresh, by rw [Obj.cls_mapFields]; exact hcl', Obj.data_mapFields hd _, hns, ?_⟩ (hDf.mono (del_mono (same_new hfresh) _))
      rcases hfv with ⟨hfv, h5⟩ | ⟨dx, h5, h6⟩
      · exact .inl ⟨hfv, by rw [Obj.dict_mapFields, hdi]; exact h5⟩
      · exact .inr ⟨dx, by rw [Obj.dict_mapFields, hdi]; exact h5, del_mono (same_new hfresh) _ _ _ h6⟩
    have Es := E2.set hO Dx
    let D' : Ends := { nx := fun σ' H' => D.nx (σ'.set ie none) H', rt := D.rt, bk := fun σ' H' => D.bk (σ'.set ie none) H', ct := fun σ' H' => D.ct (σ'.set ie none) H' }
    have sm2 : Same (del H (uni hid ow)) (del (upd H1 a (fz a (oe.mapFields (·.setIfInBounds 1 (.ref s1.heap.objs.size))))) (uni hid ow1)) := sm.trans (del_mono (same_new hfresh) _)
    refine wpAny_mono (hh (X.pn ++ pins) a [] s3 _ _ D' I3 ⟨hid, H0, _, ow1, oh, Es, g3, ?_⟩) (fun f s4 q => ?_) fun _ _ z => False.elim z
    · cases oh with
      | nx ρ' => exact fun σ' H' ow' s' E' => k _ H' ow' (sm2.trans s') (E'.unset ie)
      | bk ρ' => exact fun σ' H' ow' s' E' => k _ H' ow' (sm2.trans s') (E'.unset ie)
      | ct ρ' => exact fun σ' H' ow' s' E' => k _ H' ow' (sm2.trans s') (E'.unset ie)
      | rt d => exact k
    · have fin : ∀ {σ4 : St} {H4 : Hp}, Inv (X.mark (X.pn ++ pins) a) [] σ4 H4 s4 → ∀ (P : Shared → Prop), (∀ s5, Inv X pins (σ4.set ie none) H4 s5 → P s5) → wpAny (model X.prog X.w) X.A (do bindName X.env n .none; unbindBehindTheSuite X.env n hpos) (fun _ s5 => P s5) X.xe s4 := fun {σ4 H4} I4 P hP => by
        have I5 : Inv X pins σ4 H4 s4 := Inv.unmark I.ok.hd I4
        refine L2.o_EA (I5.loc) fun m hm4 hl4 => ?_
        exact wpAny_nameGoes_keeps hk hm4 hcls fun h' v hn hs => hP _ (I5.gone hN hi hk hm4 hl4 hn hs)
      show wpAny (model X.prog X.w) X.A (do bindName X.env n .none; unbindBehindTheSuite X.env n hpos) (fun _ s5 => SP X pins D f s5) X.xe s4
      cases f with
      | next => obtain ⟨σ4, H4, I4, q4⟩ := q; exact fin I4 _ fun s5 I5 => ⟨_, H4, I5, q4⟩
      | brk => obtain ⟨σ4, H4, I4, q4⟩ := q; exact fin I4 _ fun s5 I5 => ⟨_, H4, I5, q4⟩
      | cont => obtain ⟨σ4, H4, I4, q4⟩ := q; exact fin I4 _ fun s5 I5 => ⟨_, H4, I5, q4⟩
      | ret u => obtain ⟨v4, σ4, H4, I4, r4, q4⟩ := q; exact fin I4 _ fun s5 I5 => ⟨v4, _, H4, I5, r4, q4⟩
end
end L2
namespace L2
open PySem PySem.Spec PyProof.Rows
variable [Reg]
structure XCD (K : PySem.W.Frag) (mg : Str → Option Value) (x : Str) (C : Addr) : Prop where
  mg : mg x = some (.ref C)
  ns : PySem.W.nsIn K mainGlobals x = some (some (.ref C))
  ex : XNo K C
theorem XCD.at {X : Cx} {x : Str} {C : Addr} (c : XCD X.K X.mg x C) (hg : Gl X x) : XCls X x C := ⟨hg, c.mg, c.ns, c.ex⟩
noncomputable def Caught (K : PySem.W.Frag) (exs : List Str) (D : Addr) : Prop := ∀ cls ∈ exs, ∀ C, PySem.W.nsIn K mainGlobals cls = some (some (.ref C)) → PySem.W.exmOne K (.ref C) (.ref D) = some true
noncomputable def excKit (K : PySem.W.Frag) (C : Addr) : Bool :=
  PySem.W.findIn K (.ref C) "__getattribute__" == some (some (.builtin "BaseException.__getattribute__")) && PySem.W.findIn K (.ref C) "__getattr__" == some none && PySem.W.mroIn K C (.type "BaseException") == some true &&
  PySem.W.findIn K (.ref C) "__class__" == some (some (.builtin "object.__class__")) && PySem.W.specialIn K (.builtin "object.__class__") "__get__" == some (some (.builtin "getset_descriptor.__get__")) && PySem.W.takesIn K (.builtin "object.__class__") == some true && PySem.W.mroIn K C (.type "object") == some true && PySem.W.hasDictIn K C
structure ExcKit (K : PySem.W.Frag) (C : Addr) : Prop where
  ga : PySem.W.findIn K (.ref C) "__getattribute__" = some (some (.builtin "BaseException.__getattribute__"))
  gn : PySem.W.findIn K (.ref C) "__getattr__" = some none
  be : PySem.W.mroIn K C (.type "BaseException") = some true
  cl : PySem.W.findIn K (.ref C) "__class__" = some (some (.builtin "object.__class__"))
  sp : PySem.W.specialIn K (.builtin "object.__class__") "__get__" = some (some (.builtin "getset_descriptor.__get__"))
  tk : PySem.W.takesIn K (.builtin "object.__class__") = some true
  ob : PySem.W.mroIn K C (.type "object") = some true
  hd : PySem.W.hasDictIn K C = true
theorem excKit_of {K : PySem.W.Frag} {C : Addr} (h : excKit K C = true) : ExcKit K C := by
  unfold excKit at h
  simp only [Bool.and_eq_true, beq_iff_eq] at h
  obtain ⟨⟨⟨⟨⟨⟨⟨h1, h2⟩, h3⟩, h4⟩, h5⟩, h6⟩, h7⟩, h8⟩ := h
  exact ⟨h1, h2, h3, h4, h5, h6, h7, h8⟩
section
variable {prog : Program} {w : World} {A : Around} {E : Value → Shared → Prop} {s : Shared} {K : PySem.W.Frag} {x D : Addr} {ox : Obj} {od : Option Obj} {name : Str} {R : Result → Shared → Prop} {Q : Value → Shared → Prop}
theorem exc_entry_cls {tk : Tok} {P : Fin → Shared → Prop} (X : K.In s.heap) (I : PySem.W.InstAt s.heap x ox D od) (k : ExcKit K D) (h : P (.done (.ret (.ref D))) s) :
    wpAny (model prog w) A (Builtin.«object.__getattribute__» ⟨[.ref x, .str "__class__" tk], []⟩) P E s := by
  have hf : PySem.W.findObj K D od "__class__" = some (.bind (.builtin "getset_descriptor.__get__") (.builtin "object.__class__")) := by
    refine L2.o_EA (PySem.W.any_some k.hd) fun cd hc _ => ?_
    unfold PySem.W.findObj
    rw [hc, Option.bind_some, k.cl, Option.bind_some]
    dsimp only
    rw [k.sp, Option.bind_some]
    dsimp only
    rw [k.tk, Option.bind_some]
  obtain ⟨hh, g, d, t, os⟩ := s
  have L0 := I.type (M := model prog w)
  have L1 := PySem.W.looks_find (M := model prog w) X I hf
  unfold Builtin.«object.__getattribute__»
  refine wpAny_bind (wpAny_pure ?_)
  refine wpAny_bind (wpAny_pure ?_)
  refine wpAny_bind (L0.at (wpAny_bind (L1.at ?_)))
  show wpAny _ _ (Builtin.ObjectAttr.bindTo _ _ _ _) _ _ _
  unfold Builtin.ObjectAttr.bindTo
  refine wpAny_bind (wpAny_call (PySem.W.class_get (s := ⟨hh, g, d, t, os⟩) X I k.ob ?_))
  exact wpAny_pure h
theorem exc_check {nameV : Value} {P : Unit → Shared → Prop} (X : K.In s.heap) (I : PySem.W.InstAt s.heap x ox D od) (k : ExcKit K D) (h : P () s) :
    wpAny (model prog w) A (checkBuiltinCall "BaseException.__getattribute__" ⟨[.ref x, nameV], []⟩) P E s := by
  have hk : builtinKind "BaseException.__getattribute__" = some .slot := by decide +kernel
  have hsplit : splitId "BaseException.__getattribute__" = some ("BaseException", "__getattribute__") := by decide +kernel
  have ha := F.args_bexc_ga (.ref x) nameV
  have LI : PySem.W.Looks (model prog w) s.heap (isInstance (.ref x) (.type "BaseException")) true := (I.type (M := model prog w)).andThen (PySem.W.looks_mroIn X k.be)
  obtain ⟨hh, g, d, t, os⟩ := s
  simp only [checkBuiltinCall, hk, hsplit]
  refine wpAny_bind (LI.at ?_)
  repeat (any_goals (first | assumption | wp_step))
theorem exc_call {tk : Tok} {v : Value} (X : K.In s.heap) (I : PySem.W.InstAt s.heap x ox D od) (k : ExcKit K D)
    (hent : ∀ {A' : Around} {E' : Value → Shared → Prop} {P : Fin → Shared → Prop}, P (.done (.ret v)) s → wpAny (model prog w) A' (Builtin.«object.__getattribute__» ⟨[.ref x, .str name tk], []⟩) P E' s) (h : R (.ok (.ret v)) s) :
    codeAny (model prog w) A (.call (.builtin "BaseException.__getattribute__") ⟨[.ref x, .str name tk], []⟩) R s := by
  refine codeAny_call_builtin F.attr_ValueError.ga.plain F.entry_bexc_ga (exc_check X I k ?_)
  refine hent ?_
  exact h
theorem exc_getBy {tk : Tok} {v : Value} {fill expr : Bool} (X : K.In s.heap) (I : PySem.W.InstAt s.heap x ox D od) (k : ExcKit K D) (hv : PySem.W.handedIn v = true)
    (hent : ∀ {A' : Around} {E' : Value → Shared → Prop} {P : Fin → Shared → Prop}, P (.done (.ret v)) s → wpAny (model prog w) A' (Builtin.«object.__getattribute__» ⟨[.ref x, .str name tk], []⟩) P E' s) (h : Q v s) :
    wpAny (model prog w) A (getAttrBy (.ref x) (.str name tk) fill expr) Q E s := by
  have FB := F.attr_ValueError
  have f3 := FB.ga.bind (.ref x)
  have L0 := I.type (M := model prog w)
  have L1 := PySem.W.looks_findIn (M := model prog w) X k.ga
  have L2 := PySem.W.looks_findIn (M := model prog w) X k.gn
  unfold getAttrBy
  refine wpAny_holding (wpAny_bind (L0.at (wpAny_bind (L1.at ?_))))
  show wpAny _ _ (getAttrByItsOwn _ _ _ _ _ _) _ _ _
  unfold getAttrByItsOwn
  refine wpAny_bind (L2.at ?_)
  refine wpAny_bind (wpAny_attempt (wpAny_holding ?_))
  have hx0 : (expr && onTheHeap (Value.builtin "BaseException.__getattribute__")) = false := by cases expr <;> rfl
  unfold callGetattribute
  rw [hx0, if_neg Bool.false_ne_true]
  unfold boundAndCalled
  rw [f3]
  refine wpAny_bind (wpAny_pure ?_)
  refine wpAny_call (exc_call X I k hent ?_)
  show wpAny _ _ (handedOut v) _ _ _
  rw [PySem.W.handedOut_of hv]
  exact wpAny_pure h
theorem kitx_exc (k : ExcKit K D) : PySem.W.KitX K (.ref x) (.ref D) (fun h => PySem.W.InstAt h x ox D od) where
  ty := fun _ _ _ I => I.type
  it := fun _ _ X _ => by
    refine L2.o_EA (PySem.W.any_some k.hd) fun cdD hcD _ => ?_
    unfold PySem.W.clsIn at hcD
    split at hcD
    · rename_i c' d' cd' sl' ho
      intro A' Q' E' s' k q
      unfold isType loadHead
      exact wpAny_bind (wpAny_loadPart (k _ _ (X _ _ ho)) (wpAny_pure q))
    · cases hcD
  ne := fun h tp dd its n sl X htp => by
    refine L2.o_EA (PySem.W.any_some k.hd) fun cdD hcD _ => ?_
    refine Bool.eq_false_iff.mpr fun q => ?_
    have e : D = tp := Value.ref.inj (beq_iff_eq.mp q)
    subst e
    unfold PySem.W.clsIn at hcD
    split at hcD
    · rename_i c' d' cd' sl' ho
      have z := (X _ _ ho).symm.trans htp
      cases z
    · cases hcD
  ca := fun {prog w A E Q s} X I h => by
    unfold getAttr? getAttrBy?
    refine wpAny_bind (wpAny_mkText (wpAny_bind (wpAny_attempt (exc_getBy (s := { s with toks := s.toks + 1 }) X I k rfl (fun {A' E' P} hp => exc_entry_cls (s := { s with toks := s.toks + 1 }) X I k hp) ?_))))
    exact wpAny_pure h
end
noncomputable def subX (cls T : Str) : Bool := cls == T || T == "PostError" || T == "ValueError"
noncomputable def isC (exs : List Str) (T : Str) : PyData → Option PyData
  | .none => some (.bool false)
  | .dict [(.bool true, .str c), _] => if exs.contains c = true then some (.bool (subX c T)) else none
  | _ => none
structure IsT (K : PySem.W.Frag) (mg : Str → Option Value) (exs : List Str) (T : Str) (D : Addr) : Prop where
  mg : mg T = some (.ref D)
  ex : ∀ cls ∈ exs, ∀ C, PySem.W.nsIn K mainGlobals cls = some (some (.ref C)) → excKit K C = true ∧ PySem.W.kitOne K (.ref C) (.ref D) = some (subX cls T)
  no : PySem.W.kitOne K (.type "NoneType") (.ref D) = some false
structure IsV (K : PySem.W.Frag) (exs : List Str) : Prop where
  ex : ∀ cls ∈ exs, ∀ C, PySem.W.nsIn K mainGlobals cls = some (some (.ref C)) → excKit K C = true ∧ PySem.W.kitOne K (.ref C) (.type "ValueError") = some true
  no : PySem.W.kitOne K (.type "NoneType") (.type "ValueError") = some false
noncomputable def rIsc (K : PySem.W.Frag) (exs : List Str) (T : Str) (c : V) : List V → Hp → VK → Prop := fun xs H Q => ∃ x d r, xs = [x, c] ∧ Den K H x d ∧ isC exs T d = some (.bool r) ∧ Q (.bl r) H
theorem inst_exc {X : Cx} {pins : List (Addr × Obj)} {σ : St} {H : Hp} {s : Shared} {e : Addr} {cls : Str} {fv : List (Str × V)} (I : Inv X pins σ H s) (h : ExcV X.K H e cls fv) :
    ∃ C ox od, PySem.W.InstAt s.heap e ox C od ∧ PySem.W.nsIn X.K mainGlobals cls = some (some (.ref C)) := by
  refine L2.o_EEEAAAA (h) fun oe C vs h1 h2 h3 h4 h5 => ?_
  refine L2.o_A ((show ObjOk X.prog X.w H s.heap e (.frz oe _) from I.hok e _ h1)) fun q _ => ?_
  have hn : PySem.W.notCls oe = true := by unfold PySem.W.notCls; rw [h3]
  rcases h5 with ⟨_, h5⟩ | ⟨dx, h5, h6⟩
  · exact L2.i_EEEA (C) (oe) (none) (⟨q, h2, hn, by rw [h5]; trivial⟩) (h4)
  · refine L2.o_E ((I.hok dx _ h6).there) fun o ho => ?_
    exact L2.i_EEEA (C) (oe) (some o) (⟨q, h2, hn, by rw [h5]; exact ho⟩) (h4)
theorem call_isc {X : Cx} {exs : List Str} {T : Str} {c : V} {cv : Value} (rc : RelV c cv) (rc1 : ∀ u, RelV c u → u = cv)
    (hx : ∀ cls ∈ exs, ∀ C, PySem.W.nsIn X.K mainGlobals cls = some (some (.ref C)) → excKit X.K C = true ∧ PySem.W.kitOne X.K (.ref C) cv = some (subX cls T)) (hno : PySem.W.kitOne X.K (.type "NoneType") cv = some false) :
    CallR X (.builtin "isinstance") (rIsc X.K exs T c) := by
  intro pins s σ H xs us Q I r h
  revert h
  refine fun zqq => L2.o_EEEAAA zqq fun x d r1 zq3 D hd q => ?_
  clear zqq
  subst zq3
  refine L2.o_EEAA (r.two) fun u c' zq2 rx rc' => ?_
  subst zq2
  cases rc1 c' rc'
  cases D with
  | non =>
    cases hd
    cases (show u = Value.none from rx)
    exact PySem.W.kia_one PySem.W.kitx_none I.kIn True.intro hno (fun z => nomatch z) fun tk => ⟨.bl _, H, I.tok tk, rfl, q⟩
  | @exc e cls fv fd hv hr =>
    simp only [isC] at hd
    split at hd
    case isFalse => cases hd
    rename_i hm
    cases hd
    cases (show u = Value.ref e from rx)
    refine L2.o_EEEA (inst_exc I hv) fun C ox od ia hn => ?_
    refine L2.o_A (hx cls (List.contains_iff_mem.mp hm) C hn) fun k1 k2 => ?_
    exact PySem.W.kia_one (kitx_exc (excKit_of k1)) I.kIn ia k2 (fun z => nomatch z) fun tk => ⟨.bl _, H, I.tok tk, rfl, q⟩
  | _ => cases hd
section
variable {X : Cx} {O : Ow} {e : Expr} {f : Rho → Option PyData} {p p2 pos : Pos} {exs : List Str} {T : Str} {D : Addr}
theorem isC_bool {d r : PyData} (h : isC exs T d = some r) : ∃ b, r = .bool b := by
  unfold isC at h
  split at h
  · cases h; exact ⟨_, rfl⟩
  · split at h
    · cases h; exact ⟨_, rfl⟩
    · cases h
  · cases h
theorem isc_imp {c : V} (hc : True) : ∀ σ H Q, tV X.K O (fun ρ => (f ρ).bind (isC exs T)) σ H Q → tCB (rIsc X.K exs T c) (tCons (tR X.K O f) (tCons (tC c) tNil)) σ H Q := fun σ H Q zpat => by
  obtain ⟨hid, H0, ρ, ow, r, E, hf, k⟩ := zpat
  obtain ⟨d, g1, g2⟩ := bind_some hf
  refine L2.o_E (isC_bool g2) fun b zq1 => ?_
  subst zq1
  exact ⟨hid, H0, ρ, ow, d, E, g1, fun v H' s D => ⟨v, d, b, rfl, D.mono (del_same _ _), g2, k _ H' s (.bl _)⟩⟩
theorem v_isiC (I : IsT X.K X.mg exs T D) (he : PR X O e f) (hg : Gl X "isinstance") (hm : X.mg "isinstance" = none) (hgT : Gl X T) (hd : (T == ("__debug__" : Str)) = false := by decide)
    (h1 : starEach [e, .Name T p2] X.env = (false, eval e X.env) :: starEach [.Name T p2] X.env := by rfl) (h2 : starEach [.Name T p2] X.env = (false, eval (.Name T p2) X.env) :: starEach [] X.env := by rfl)
    (hpl : (backTo pos (starEach [.Name T p2] X.env)).any (·.1) = false := by rfl) : PV X O (.Call (.Name "isinstance" p) [e, .Name T p2] [] pos) (fun ρ => (f ρ).bind (isC exs T)) :=
  (pe_callB (call_isc (c := .ref D) (cv := .ref D) rfl (fun u r => r) I.ex I.no) hg hm PyProof.Rows.boot_isinstance (pa_cons he (pa_cons (pe_glob (v := .ref D) hgT I.mg rfl hd) pa_nil h2) h1) (by decide) (by decide) h1 hpl).imp (isc_imp trivial)
theorem bt_ValueError : bootBuiltins "ValueError" = some (.type "ValueError") := by decide +kernel
theorem v_isiV (I : IsV X.K exs) (he : PR X O e f) (hg : Gl X "isinstance") (hm : X.mg "isinstance" = none) (hgT : Gl X "ValueError") (hmT : X.mg "ValueError" = none) (hvT : bootBuiltins "ValueError" = some (.type "ValueError"))
    (h1 : starEach [e, .Name "ValueError" p2] X.env = (false, eval e X.env) :: starEach [.Name "ValueError" p2] X.env := by rfl) (h2 : starEach [.Name "ValueError" p2] X.env = (false, eval (.Name "ValueError" p2) X.env) :: starEach [] X.env := by rfl)
    (hpl : (backTo pos (starEach [.Name "ValueError" p2] X.env)).any (·.1) = false := by rfl) : PV X O (.Call (.Name "isinstance" p) [e, .Name "ValueError" p2] [] pos) (fun ρ => (f ρ).bind (isC exs "ValueError")) :=
  (pe_callB (call_isc (T := "ValueError") (c := .ty "ValueError") (cv := .type "ValueError") rfl (fun u r => r) (fun cls h C hC => ⟨(I.ex cls h C hC).1, by rw [(I.ex cls h C hC).2]; simp [subX]⟩) I.no) hg hm PyProof.Rows.boot_isinstance (pa_cons he (pa_cons (pe_bltn (v := .ty "ValueError") hgT hmT hvT rfl (by decide) (by decide)) pa_nil h2) h1) (by decide) (by decide) h1 hpl).imp (isc_imp trivial)
end
end L2
namespace L2
open PySem PySem.Spec PyProof.Rows
variable [Reg]
noncomputable def flatD : PyData → Bool
  | .none => true
  | .bool _ => true
  | .int _ => true
  | .str _ => true
  | _ => false
noncomputable def eqF : PyData → PyData → Bool
  | .none, .none => true
  | .bool a, .bool b => a == b
  | .bool a, .int b => (if a then 1 else 0) == b
  | .int a, .bool b => a == (if b then 1 else 0)
  | .int a, .int b => a == b
  | .str a, .str b => a == b
  | _, _ => false
theorem flat_den {K : PySem.W.Frag} {H : Hp} {v : V} {d : PyData} (h : Den K H v d) (f : flatD d = true) : flatV v = true ∧ Sc v d := by
  cases h with
  | non => exact ⟨rfl, .non⟩
  | bl b => exact ⟨rfl, .bl b⟩
  | int i => exact ⟨rfl, .int i⟩
  | str x => exact ⟨rfl, .str x⟩
  | _ => cases f
theorem eqV_F {v w : V} {d e : PyData} (h : Sc v d) (k : Sc w e) : eqV v w = eqF d e := by
  cases h <;> cases k <;> rfl
theorem flat_denL {K : PySem.W.Frag} {H : Hp} {w : V} {e : PyData} (k : Sc w e) : ∀ {vs : List V} {ds : List PyData}, DenL K H vs ds → ds.all flatD = true → vs.all flatV = true ∧ vs.map (fun v => eqV v w) = ds.map (fun d => eqF d e) := by
  intro vs ds h
  refine h.ind (M := fun vs ds => ds.all flatD = true → vs.all flatV = true ∧ vs.map (fun v => eqV v w) = ds.map (fun d => eqF d e)) (fun _ => ⟨rfl, rfl⟩) ?_
  · intro v d vs ds h _ ih f
    rw [List.all_cons, Bool.and_eq_true] at f
    refine L2.o_A (flat_den h f.1) fun a1 a2 => ?_
    refine L2.o_A (ih f.2) fun b1 b2 => ?_
    exact ⟨by rw [List.all_cons, a1, b1]; rfl, by rw [List.map_cons, List.map_cons, b2, eqV_F a2 k]⟩
theorem map_eqU {x : V} : ∀ {xs : List V} {us : List Value}, Vals xs us → xs.all flatV = true → us.map (eqU x) = xs.map fun y => eqV y x
  | _, _, .nil, _ => rfl
  | y :: xs, u :: us, .cons r t, f => by
    rw [List.all_cons, Bool.and_eq_true] at f
    rw [List.map_cons, List.map_cons, eqU_of r f.1, map_eqU t f.2]
theorem findIdx_map {α : Type} (p : α → Bool) : ∀ xs : List α, (xs.map p).findIdx? id = xs.findIdx? p
  | [] => rfl
  | x :: r => by
    rw [List.map_cons, List.findIdx?_cons, List.findIdx?_cons, findIdx_map p r]
    rfl
section
variable {X : Cx} {O : Ow} {a b : Expr} {fa fb : Rho → Option PyData} {apos cpos pos p : Pos}
noncomputable def rIdx (K : PySem.W.Frag) : V → List V → Hp → VK → Prop := fun x vs H Q => ∃ l y xs j, x = .ref l ∧ vs = [y] ∧ SqL K H l xs ∧ flatV y = true ∧ xs.all flatV = true ∧ (xs.map fun z => eqV z y).findIdx? id = some j ∧ Q (.int (j : Nat)) H
theorem mt_index : MtR X "list.index" (rIdx X.K) := by
  intro pins s σ H x vs v us Q I rx rv h
  revert h
  refine fun zqq => L2.o_EEEEAAAAAA zqq fun l y xs j zq4 zq5 hq fy fs hj q => ?_
  clear zqq
  subst zq4
  subst zq5
  cases rx
  refine L2.o_EA (rv.one) fun u zq1 ru => ?_
  subst zq1
  refine L2.o_EAA (I.list hq) fun its r pl hz => ?_
  obtain ⟨⟨cls, dd, data, sl⟩, ho, hc, n, hd⟩ := pl.isList
  simp only at hc hd
  subst hc hd
  rw [← map_eqU r fs, findIdx_map] at hj
  have hjl : j < its.length := (List.findIdx?_eq_some_iff_findIdx_eq.mp hj).1
  have hl := r.length
  have hz' : sizeLine < 2 ^ 62 := by decide
  refine L2.o_E (List.findIdx?_eq_some_iff_getElem.mp hj) fun h1 h2 => ?_
  refine call_meets PySem.F.slot_list_index ⟨_, ho, rfl⟩ PySem.F.entry_list_index (PySem.F.args_list_index_2 _ _)
    (SeqAt.list_indexAt l its.toArray n dd sl u (eqU y) j (by simpa using hjl) (by omega) (by simpa using h2.1) (fun m hm hlt => by
      have := h2.2 m hlt
      simpa using this)) ⟨ho, fun w hw => mem_eqAt ru fy r fs w (by simpa using hw), ⟨.int (j : Nat), H, I.tok _, ⟨_, rfl⟩, q⟩⟩
noncomputable def indexD : PyData → PyData → Option PyData
  | .list ds, e => if (ds.all flatD && flatD e) = true then ((ds.map fun d => eqF d e).findIdx? id).map fun j => .int (j : Nat) else none
  | _, _ => none
theorem v_index (ha : PR X O a fa) (hb : PR X O b fb) (hbase : attributeBase a "index" X.env (eval a X.env) = eval a X.env := by rfl)
    (hfew : ((backTo cpos (starEach [b] X.env)).all (fun x => !x.1) && (backToKw cpos (keywordEach [] X.env)).all (fun x => x.1.isSome) && decide ([b].length + ([] : List Keyword).length + (if ([] : List Keyword).isEmpty then 0 else 1) < 30)) = true := by rfl)
    (hline : (apos.endLine == cpos.line) = true := by rfl) (hst : starEach [b] X.env = (false, eval b X.env) :: starEach [] X.env := by rfl) (hplain : (backTo cpos (starEach [] X.env)).any (·.1) = false := by rfl) :
    PV X O (.Call (.Attribute a "index" apos) [b] [] cpos) (fun ρ => bind2 (fa ρ) (fb ρ) indexD) :=
  (pe_bm PySem.F.plainAttrs_list PySem.F.slot_list_index PySem.F.type_list_index mt_index ha (pa_cons hb pa_nil hst) hbase hfew hline hst hplain).imp fun σ H Q zpat => by
    obtain ⟨hid, H0, ρ, ow, r, E, hf, k⟩ := zpat
    obtain ⟨d, e, h1, h2, h3⟩ := bind2_some hf
    unfold indexD at h3
    split at h3
    case h_2 => cases h3
    split at h3
    case isFalse => cases h3
    rename_i ds hfl
    rw [Bool.and_eq_true] at hfl
    obtain ⟨j, h4, rfl⟩ := map_some h3
    refine ⟨hid, H0, ρ, ow, _, E, h1, fun x H1 s1 D1 => ?_⟩
    obtain ⟨l, xs, rfl, q1, r1⟩ := den_lst D1
    refine ⟨.inl ⟨rfl, xs, (del_same _ _).seq q1⟩, hid, H0, ρ, ow, e, E.mono s1, h2, fun y H2 s2 D2 => ?_⟩
    refine L2.o_A (flat_den D2 hfl.2) fun f1 f2 => ?_
    refine L2.o_A (flat_denL f2 r1 hfl.1) fun g1 g2 => ?_
    exact L2.i_EEEEAAAAAA (l) (y) (xs) (j) (rfl) (rfl) (s2.seq ((del_same _ _).seq q1)) (f1) (g1) (by rw [g2]; exact h4) (k _ H2 (s1.trans s2) (.int _))
theorem call_sum (hc : X.calm = true) : CallR X (.builtin "sum") (fun xs H Q => ∃ (a : Addr) (ns : List Int), xs = [.ref a] ∧ SqL X.K H a (ns.map V.int) ∧ Q (.int ns.sum) H) := by
  intro pins s σ H xs us Q I r h
  revert h
  refine fun zqq => L2.o_EEAA zqq fun q ns zq2 hq k => ?_
  clear zqq
  subst zq2
  refine L2.o_EA (vals1 r) fun u zq1 rx => ?_
  subst zq1
  cases rx
  refine L2.o_EAA (I.list hq) fun its r' pl hz => ?_
  have hI := intsAre_of r'
  have hl := pl.isList
  refine L2.o_E (hI.allInts.items) fun xs hx => ?_
  have hn : numsOf its.toArray.toList = ns := by rw [show its.toArray.toList = its from rfl, hI.numsOf]
  rw [hx] at hl hn
  rw [nums_intItems] at hn
  refine sum_intListG (I.ok.hd hc) hl fun h' tk t' hk => ?_
  rw [preSum_eq, List.take_of_length_le (by simp), hn]
  exact ⟨.int _, H, I.kept (t' := tk) hk, ⟨t', rfl⟩, k⟩
noncomputable def sumD : PyData → Option PyData
  | .list ds => (intsO ds).map fun ns => .int ns.sum
  | _ => none
theorem v_sum (hc : X.calm = true) (hg : Gl X "sum") (hm : X.mg "sum" = none) (ha : PR X O a fa) (he : starEach [a] X.env = (false, eval a X.env) :: starEach [] X.env := by rfl) (hpl : (backTo pos (starEach [] X.env)).any (·.1) = false := by rfl)
    (hv : bootBuiltins "sum" = some (.builtin "sum") := by decide +kernel) : PV X O (.Call (.Name "sum" p) [a] [] pos) (fun ρ => (fa ρ).bind sumD) :=
  (pe_callB (call_sum hc) hg hm hv (pa_cons ha pa_nil he) (by decide) (by decide) he hpl).imp fun σ H Q zpat => by
    obtain ⟨hid, H0, ρ, ow, r, E, hf, k⟩ := zpat
    obtain ⟨d, h1, h2⟩ := bind_some hf
    refine ⟨hid, H0, ρ, ow, d, E, h1, fun x H1 s1 D1 => ?_⟩
    unfold sumD at h2
    split at h2
    case h_2 => cases h2
    obtain ⟨ns, h3, rfl⟩ := map_some h2
    have e := intsO_some h3
    subst e
    obtain ⟨q, vs, rfl, q1, r1⟩ := den_lst D1
    have e2 := r1.isInts
    subst e2
    exact L2.i_EEAA (q) (ns) (rfl) ((del_same _ _).seq q1) (k _ H1 s1 (.int _))
end
end L2
namespace L2
open PySem PySem.Spec PyProof.Rows
noncomputable def bd (a : Int) (n : Nat) : Prop := a.natAbs < 2 ^ n
theorem bd.mono {a : Int} {m n : Nat} (h : bd a m) (hn : m ≤ n) : bd a n := Nat.lt_of_lt_of_le h (Nat.pow_le_pow_right (by decide) hn)
theorem bd.mul {a b : Int} {m n : Nat} (h : bd a m) (h' : bd b n) : bd (a * b) (m + n) := by
  unfold bd at *
  rw [Int.natAbs_mul, Nat.pow_add]
  exact Nat.mul_lt_mul'' h h'
theorem bd.add {a b : Int} {n : Nat} (h : bd a n) (h' : bd b n) : bd (a + b) (n + 1) := Nat.lt_of_le_of_lt (Int.natAbs_add_le a b) (by rw [Nat.pow_succ, Nat.mul_two]; exact Nat.add_lt_add h h')
theorem bd.big {a : Int} {n : Nat} (h : bd a n) (hn : n ≤ 1000) : isBig a = true := by
  unfold isBig L2.big
  exact decide_eq_true (h.mono hn)
theorem bd.of_le {a b : Int} {n : Nat} (h : bd b n) (h0 : 0 ≤ a) (h1 : a ≤ b) : bd a n := Nat.lt_of_le_of_lt (Int.ofNat_le.mp (by rw [Int.natAbs_of_nonneg h0, Int.natAbs_of_nonneg (Int.le_trans h0 h1)]; exact h1)) h
theorem consD_ss (d : PyData) (r : List PyData) : consD (some d) (some r) = some (d :: r) := rfl
theorem testD_s (b : Bool) : testD (some (.bool b)) = some b := rfl
theorem condO_t {α : Type} (a b : Option α) : condO (some true) a b = a := rfl
theorem condO_f {α : Type} (a b : Option α) : condO (some false) a b = b := rfl
theorem andB_t (y : Option Bool) : andB (some true) y = y := rfl
theorem andB_f (y : Option Bool) : andB (some false) y = some false := rfl
theorem orB_t (y : Option Bool) : orB (some true) y = some true := rfl
theorem orB_f (y : Option Bool) : orB (some false) y = y := rfl
theorem andV_t (y : Option PyData) : andV (some (.bool true)) y = y := rfl
theorem andV_f (y : Option PyData) : andV (some (.bool false)) y = some (.bool false) := rfl
theorem orV_t (y : Option PyData) : orV (some (.bool true)) y = some (.bool true) := rfl
theorem orV_f (y : Option PyData) : orV (some (.bool false)) y = y := rfl
theorem notV_s (b : Bool) : notV (some (.bool b)) = some (.bool (!b)) := rfl
theorem setO_s (i : Nat) (ρ : Rho) (d : PyData) : setO i ρ (some d) = some (.nx (ρ.set i (some d))) := rfl
theorem setLO_s (i : Nat) (ρ : Rho) (d : List PyData) : setLO i ρ (some d) = some (.nx (ρ.set i (some (.list d)))) := rfl
theorem dropO_s (ρ : Rho) (d : PyData) : dropO ρ (some d) = some (.nx ρ) := rfl
theorem forO_s (S : PyData → Rho → Option Rho) (F : Rho → Option Out) (ds : List PyData) (ρ : Rho) : forO S F (some ds) ρ = forD S F ds ρ := rfl
theorem compO_s {S : PyData → Rho → Option Rho} {ft : Rho → Option Bool} {fe : Rho → Option PyData} {ds : List PyData} {ρ : Rho} (h : ds.length ≤ 1000) : compO S ft fe (some ds) ρ = compD S ft fe ds ρ := by
  unfold compO
  rw [Option.bind_some, if_pos (decide_eq_true h)]
theorem asgO_s (S : PyData → Rho → Option Rho) (ρ : Rho) (d : PyData) : asgO S ρ (some d) = (S d ρ).map .nx := rfl
noncomputable def thenO (o : Option Out) (G : Rho → Option Out) : Option Out := o.bind fun o => match o with
  | .nx ρ' => G ρ'
  | .rt d => some (.rt d)
  | .bk ρ' => some (.bk ρ')
  | .ct ρ' => some (.ct ρ')
theorem seqF_def (F G : Rho → Option Out) (ρ : Rho) : seqF F G ρ = thenO (F ρ) G := rfl
theorem thenO_nx (ρ : Rho) (G : Rho → Option Out) : thenO (some (.nx ρ)) G = G ρ := rfl
theorem thenO_rt (d : PyData) (G : Rho → Option Out) : thenO (some (.rt d)) G = some (.rt d) := rfl
theorem short2 {f : List PyData → PyData} (a b : PyData) : shortD f (some [a, b]) = some (f [a, b]) := rfl
theorem shortL0 : shortL (some []) = some [] := rfl
theorem shortL1 (a : PyData) : shortL (some [a]) = some [a] := rfl
theorem shortL2 (a b : PyData) : shortL (some [a, b]) = some [a, b] := rfl
theorem shortL3 (a b c : PyData) : shortL (some [a, b, c]) = some [a, b, c] := rfl
theorem shortL4 (a b c d : PyData) : shortL (some [a, b, c, d]) = some [a, b, c, d] := rfl
theorem lenD_l (ds : List PyData) : lenD [.list ds] = some (.int ds.length) := rfl
theorem lenD_t (ds : List PyData) : lenD [.tuple ds] = some (.int ds.length) := rfl
theorem listD_l (ds : List PyData) : listD (.list ds) = some ds := rfl
theorem tupD_t (ds : List PyData) : tupD (.tuple ds) = some ds := rfl
theorem seqD_l (ds : List PyData) : seqD (.list ds) = some ds := rfl
theorem outD_rt (d : PyData) : outD (some (.rt d)) = some d := rfl
theorem outD_nx (ρ : Rho) : outD (some (.nx ρ)) = some .none := rfl
theorem bind2_ss (x y : PyData) (g : PyData → PyData → Option PyData) : bind2 (some x) (some y) g = g x y := rfl
theorem mulD_ok {a b : Int} (ha : isBig a = true) (hb : isBig b = true) : mulD (.int a) (.int b) = some (.int (a * b)) := by
  simp [mulD, int2C, ha, hb]
theorem fdivD_ok {a b : Int} (h0 : 0 < b) (hb : isBig b = true) : fdivD (.int a) (.int b) = some (.int (a / b)) := by
  have : b ≠ 0 := by omega
  simp [fdivD, int2C, hb, this, Int.fdiv_eq_ediv_of_nonneg a (by omega : 0 ≤ b)]
theorem modD_ok {a b : Int} (h0 : 0 < b) : modD (.int a) (.int b) = some (.int (a % b)) := by
  have : b ≠ 0 := by omega
  simp [modD, int2C, this, Int.fmod_eq_emod_of_nonneg a (by omega : 0 ≤ b)]
theorem addD_ok (a b : Int) : addD (.int a) (.int b) = some (.int (a + b)) := rfl
theorem subD_ok (a b : Int) : subD (.int a) (.int b) = some (.int (a - b)) := rfl
theorem ltD_ok (a b : Int) : ltD (.int a) (.int b) = some (.bool (decide (a < b))) := rfl
theorem leD_ok (a b : Int) : leD (.int a) (.int b) = some (.bool (decide (a ≤ b))) := rfl
theorem gtD_ok (a b : Int) : gtD (.int a) (.int b) = some (.bool (decide (b < a))) := rfl
theorem geD_ok (a b : Int) : geD (.int a) (.int b) = some (.bool (decide (b ≤ a))) := rfl
theorem shaped_int (a : Int) : SeqAt.shaped (.int a) = true := by simp [SeqAt.shaped, PyData.canLay0, PyData.depth]
theorem eqD_int (a b : Int) : eqD (.int a) (.int b) = some (.bool (a == b)) := by simp [eqD, shaped_int, PyData.eqv]
theorem neD_int (a b : Int) : neD (.int a) (.int b) = some (.bool (!(a == b))) := by simp [neD, shaped_int, PyData.eqv]
theorem pow10_7 : powD (.int 10) (.int 7) = some (.int (10 ^ 7)) := rfl
theorem pow10_9 : powD (.int 10) (.int 9) = some (.int (10 ^ 9)) := rfl
theorem pow10_18 : powD (.int 10) (.int 18) = some (.int (10 ^ 18)) := rfl
theorem pow10_20 : powD (.int 10) (.int 20) = some (.int (10 ^ 20)) := rfl
theorem pow10_21 : powD (.int 10) (.int 21) = some (.int (10 ^ 21)) := rfl
theorem pow10_31 : powD (.int 10) (.int 31) = some (.int (10 ^ 31)) := rfl
theorem pow10_32 : powD (.int 10) (.int 32) = some (.int (10 ^ 32)) := rfl
theorem pow10_40 : powD (.int 10) (.int 40) = some (.int (10 ^ 40)) := rfl
theorem pow10_60 : powD (.int 10) (.int 60) = some (.int (10 ^ 60)) := rfl
theorem lf_int (i : Int) : lf (.int i) = true := rfl
theorem filt {α : Type} {p : α → Bool} {x : α} (h : p x = true) : (some x).filter p = some x := by rw [Option.filter_some, if_pos h]
noncomputable def encP (p : Int × Int) : PyData := .tuple [.int p.1, .int p.2]
noncomputable def encL (ps : List (Int × Int)) : PyData := .list (ps.map encP)
theorem ix_pair0 (a b : PyData) : ixD (.tuple [a, b]) (.int 0) = some a := rfl
theorem ix_pair1 (a b : PyData) : ixD (.tuple [a, b]) (.int 1) = some b := rfl
theorem shaped_encP (p : Int × Int) : SeqAt.shaped (encP p) = true := by simp [SeqAt.shaped, encP, PyData.canLay0, PyData.canLayAll0, PyData.depth, PyData.depthAll]
theorem eqv_encP (p q : Int × Int) : PyData.eqv (encP p) (encP q) = decide (p = q) := by
  obtain ⟨a, b⟩ := p
  obtain ⟨c, d⟩ := q
  rw [Bool.eq_iff_iff]
  simp [encP, PyData.eqv, PyData.eqvAll]
theorem neD_encP (p q : Int × Int) : neD (encP p) (encP q) = some (.bool (!decide (p = q))) := by simp [neD, shaped_encP, eqv_encP]
theorem atI_zero {α : Type} (x : α) (r : List α) : atI (x :: r) 0 = some x := by
  have : atI (x :: r) ((0 : Nat) : Int) = some x := atI_nat rfl
  exact this
theorem atI_of {α : Type} {xs : List α} {k : Int} {x : α} (h0 : 0 ≤ k) (h : xs[k.toNat]? = some x) : atI xs k = some x := by
  have := atI_nat h
  rwa [Int.toNat_of_nonneg h0] at this
theorem lf_encP (p : Int × Int) : lf (encP p) = true := rfl
theorem cell_get {ns : List Int} {k : Int} (h0 : 0 ≤ k) (h : k < ns.length) : ixD (.list (ns.map .int)) (.int k) = some (.int (ns.getD k.toNat 0)) := by
  rw [ixD]
  have hk : k.toNat < ns.length := by omega
  refine atI_of h0 ?_
  rw [List.getElem?_map, List.getElem?_eq_getElem hk]
  simp [List.getD, hk]
theorem ix4 (a b c d : PyData) {j : Int} (h0 : 0 ≤ j) (h1 : j < 4) : ∃ x, (x = a ∨ x = b ∨ x = c ∨ x = d) ∧ ixD (.list [a, b, c, d]) (.int j) = some x := by
  obtain ⟨n, rfl⟩ := Int.eq_ofNat_of_zero_le h0
  have h1 : n < 4 := Int.ofNat_lt.mp h1
  rcases n with _ | _ | _ | _ | n
  · exact ⟨a, .inl rfl, rfl⟩
  · exact ⟨b, .inr (.inl rfl), rfl⟩
  · exact ⟨c, .inr (.inr (.inl rfl)), rfl⟩
  · exact ⟨d, .inr (.inr (.inr rfl)), rfl⟩
  · exact absurd h1 (Nat.not_lt.mpr (Nat.le_add_left 4 n))
theorem appD_ok {i : Nat} {ρ : Rho} {ds : List PyData} {d : PyData} (h : ρ[i]? = some (some (.list ds))) (hl : ds.length < 1000) : appD i ρ d = some (.nx (ρ.set i (some (.list (ds ++ [d]))))) := by
  unfold appD
  rw [h]
  simp only [Option.join_some, Option.bind_some, listD]
  rw [if_pos (decide_eq_true hl)]
theorem rng1_ok {n : Int} (h0 : 0 ≤ n) (h1 : n < 1000) : rng1D [.int n] = some (rngL 0 n.toNat) := by
  rw [rng1D, if_pos]
  exact decide_eq_true (by omega)
theorem rngL_get {n i : Nat} {d : PyData} (h : (rngL 0 n)[i]? = some d) : i < n ∧ d = .int (i : Nat) := by
  unfold rngL at h
  rw [List.getElem?_map] at h
  cases e : (List.range n)[i]? with
  | none => rw [e] at h; cases h
  | some j =>
    rw [e] at h
    obtain ⟨h1, h2⟩ := List.getElem?_eq_some_iff.mp e
    have h3 : i = j := by simpa using h2
    subst h3
    have h4 : PyData.int (0 + (i : Nat)) = d := Option.some.inj h
    exact ⟨by simpa using h1, by rw [← h4, Int.zero_add]⟩
theorem rngL_len (lo : Int) (n : Nat) : (rngL lo n).length = n := by simp [rngL]
theorem forD_inv {S : PyData → Rho → Option Rho} {F : Rho → Option Out} (I : Nat → Rho → Prop) : ∀ (ds : List PyData) (k : Nat) (ρ : Rho), I k ρ →
    (∀ (i : Nat) (d : PyData) (ρ : Rho), ds[i]? = some d → I (k + i) ρ → ∃ ρ1 ρ2, S d ρ = some ρ1 ∧ F ρ1 = some (.nx ρ2) ∧ I (k + i + 1) ρ2) → ∃ ρ', forD S F ds ρ = some (.nx ρ') ∧ I (k + ds.length) ρ'
  | [], k, ρ, h, _ => ⟨ρ, rfl, h⟩
  | d :: r, k, ρ, h, step => by
    obtain ⟨ρ1, ρ2, h1, h2, h3⟩ := step 0 d ρ rfl h
    obtain ⟨ρ', h4, h5⟩ := forD_inv I r (k + 1) ρ2 h3 fun i d' ρ' hd hi => by
      have := step (i + 1) d' ρ' (by simpa using hd) (by rw [show k + (i + 1) = k + 1 + i by omega]; exact hi)
      rwa [show k + (i + 1) + 1 = k + 1 + i + 1 by omega] at this
    refine ⟨ρ', ?_, ?_⟩
    · rw [forD, h1, Option.bind_some, h2, Option.bind_some]
      exact h4
    · rw [List.length_cons, show k + (r.length + 1) = k + 1 + r.length by omega]
      exact h5
theorem compD_map {α β : Type} {S : PyData → Rho → Option Rho} {fe : Rho → Option PyData} (ea : α → PyData) (eb : β → PyData) (g : α → β) (R : Rho → Prop) (ok : α → Prop)
    (hS : ∀ x ρ, ok x → R ρ → ∃ ρ1, S (ea x) ρ = some ρ1 ∧ R ρ1 ∧ fe ρ1 = some (eb (g x))) : ∀ (xs : List α) (ρ : Rho), R ρ → (∀ x ∈ xs, ok x) → compD S (fun _ => some true) fe (xs.map ea) ρ = some ((xs.map g).map eb)
  | [], ρ, _, _ => rfl
  | x :: r, ρ, h, ho => by
    obtain ⟨ρ1, h1, h2, h3⟩ := hS x ρ (ho x List.mem_cons_self) h
    rw [List.map_cons, compD, h1]
    simp only [Option.bind_some, if_true, h3]
    rw [compD_map ea eb g R ok hS r ρ1 h2 fun y hy => ho y (List.mem_cons_of_mem _ hy)]
    rfl
noncomputable def red (t b : Int) : Int × Int := (t / (Int.gcd t b : Int), b / (Int.gcd t b : Int))
structure Fr1 (p : Int × Int) : Prop where
  pos : 0 < p.2
  co : Int.gcd p.1 p.2 = 1
theorem gcd_pos_of {t b : Int} (h : 0 < b) : (0 : Int) < (Int.gcd t b : Int) := by
  have : 0 < Int.gcd t b := Int.gcd_pos_of_ne_zero_right t (by omega)
  omega
theorem red_fr {t b : Int} (h : 0 < b) : Fr1 (red t b) := by
  have hg := gcd_pos_of (t := t) h
  have h1 : (Int.gcd t b : Int) ∣ b := Int.gcd_dvd_right ..
  refine ⟨Int.ediv_pos_of_pos_of_dvd h (by omega) h1, ?_⟩
  exact Int.gcd_ediv_gcd_ediv_gcd (by omega)
theorem red_val {t b : Int} (h : 0 < b) : (red t b).1 * b = t * (red t b).2 := by
  have h1 : (Int.gcd t b : Int) ∣ t := Int.gcd_dvd_left ..
  have h2 : (Int.gcd t b : Int) ∣ b := Int.gcd_dvd_right ..
  obtain ⟨u, hu⟩ := h1
  obtain ⟨v, hv⟩ := h2
  have hg := gcd_pos_of (t := t) h
  have e1 : (red t b).1 = u := by
    show t / _ = u
    conv => lhs; lhs; rw [hu]
    rw [Int.mul_ediv_cancel_left _ (by omega)]
  have e2 : (red t b).2 = v := by
    show b / _ = v
    conv => lhs; lhs; rw [hv]
    rw [Int.mul_ediv_cancel_left _ (by omega)]
  rw [e1, e2]
  generalize (Int.gcd t b : Int) = g at hu hv
  subst hu hv
  rw [← Int.mul_assoc, Int.mul_comm u g]
theorem dvd_co {k n m : Int} (h : Int.gcd k n = 1) (d : k ∣ m * n) : k ∣ m := by
  have h1 : Nat.Coprime k.natAbs n.natAbs := h
  have h2 : k.natAbs ∣ m.natAbs * n.natAbs := by rw [← Int.natAbs_mul]; exact Int.natAbs_dvd_natAbs.mpr d
  exact Int.natAbs_dvd_natAbs.mp (h1.dvd_of_dvd_mul_right h2)
theorem fr1_eq {p q : Int × Int} (hp : Fr1 p) (hq : Fr1 q) (h : p.1 * q.2 = q.1 * p.2) : p = q := by
  obtain ⟨a, b⟩ := p
  obtain ⟨c, d⟩ := q
  have hb := hp.pos
  have hd := hq.pos
  simp only at h hb hd
  have d1 : b ∣ d := by
    have : b ∣ d * a := ⟨c, by rw [Int.mul_comm d a, h, Int.mul_comm]⟩
    exact dvd_co (by rw [Int.gcd_comm]; exact hp.co) this
  have d2 : d ∣ b := by
    have : d ∣ b * c := ⟨a, by rw [Int.mul_comm b c, ← h, Int.mul_comm]⟩
    exact dvd_co (by rw [Int.gcd_comm]; exact hq.co) this
  have e : b = d := Int.le_antisymm (Int.le_of_dvd hd d1) (Int.le_of_dvd hb d2)
  subst e
  have : a = c := Int.eq_of_mul_eq_mul_right (by omega) h
  subst this
  rfl
theorem natAbs_ediv_le (a : Int) {g : Int} (h : 0 < g) : (a / g).natAbs ≤ a.natAbs := by
  have h1 : g * (a / g) ≤ a := Int.mul_ediv_self_le (by omega)
  have h2 : a < g * (a / g) + g := Int.lt_mul_ediv_self_add h
  rcases Int.lt_or_le (a / g) 0 with hn | hn
  · have : g * (a / g) ≤ 1 * (a / g) := Int.mul_le_mul_of_nonpos_right (by omega) (by omega)
    have h3 : a < 0 := by
      have : g * (a / g) ≤ g * (-1) := Int.mul_le_mul_of_nonneg_left (by omega) (by omega)
      omega
    have h4 : a ≤ a / g := by
      have : a / g ≥ a := by
        have := Int.le_ediv_of_mul_le h (show a * g ≤ a by
          have : a * g ≤ a * 1 := Int.mul_le_mul_of_nonpos_left (by omega) (by omega)
          omega)
        omega
      omega
    omega
  · have : 1 * (a / g) ≤ g * (a / g) := Int.mul_le_mul_of_nonneg_right (by omega) hn
    omega
theorem bd.red1 {t b : Int} {n : Nat} (ht : bd t n) (h : 0 < b) : bd (red t b).1 n := Nat.lt_of_le_of_lt (natAbs_ediv_le t (gcd_pos_of h)) ht
theorem bd.red2 {t b : Int} {n : Nat} (hb : bd b n) (h : 0 < b) : bd (red t b).2 n := Nat.lt_of_le_of_lt (natAbs_ediv_le b (gcd_pos_of h)) hb
theorem gcd_step {a b : Int} (h : 0 < b) : Int.gcd b (a % b) = Int.gcd a b := by
  rw [Int.gcd_comm a b]
  conv => rhs; rw [← Int.mul_ediv_add_emod a b, Int.add_comm]
  rw [Int.gcd_add_mul_left_right]
end L2
namespace L2
open PySem PySem.Spec PyProof.Rows
noncomputable def thenX (o : Option OutX) (G : Rho → Option OutX) : Option OutX := o.bind fun o => match o with
  | .nx ρ' => G ρ'
  | o => some o
theorem seqX_def (F G : Rho → Option OutX) (ρ : Rho) : seqX F G ρ = thenX (F ρ) G := rfl
theorem thenX_nx (ρ : Rho) (G : Rho → Option OutX) : thenX (some (.nx ρ)) G = G ρ := rfl
theorem thenX_ex (d : PyData) (ρ : Rho) (G : Rho → Option OutX) : thenX (some (.ex d ρ)) G = some (.ex d ρ) := rfl
theorem dropX_ret (ρ : Rho) (d : PyData) : dropX ρ (some (.ret d)) = some (.nx ρ) := rfl
theorem dropX_exc (ρ : Rho) (d : PyData) : dropX ρ (some (.exc d)) = some (.ex d ρ) := rfl
theorem pureX_ret {F : List PyData → Option RX} {ds : List PyData} {d : PyData} (h : F ds = some (.ret d)) : pureX F ds = some d := by unfold pureX; rw [h]; rfl
theorem tryF_ex {i : Nat} {c : List Str} {H : Rho → Option Out} {ρ ρ' : Rho} {x : PyData} (h : c.contains (clsD x) = true) (hh : H (ρ.set i (some x)) = some (.nx ρ')) : tryF i c H (some (.ex x ρ)) = some (.nx (ρ'.set i none)) := by
  show (if c.contains (clsD x) = true then (H (ρ.set i (some x))).map (Out.unset i) else none) = _
  rw [if_pos h, hh]
  rfl
noncomputable def isTr : Option Bool → Bool
  | some true => true
  | _ => false
noncomputable def isFa : Option Bool → Bool
  | some false => true
  | _ => false
theorem isTr_eq {x : Option Bool} (h : isTr x = true) : x = some true := by
  unfold isTr at h
  split at h
  · rfl
  · cases h
theorem isFa_eq {x : Option Bool} (h : isFa x = true) : x = some false := by
  unfold isFa at h
  split at h
  · rfl
  · cases h
theorem and2 {a b : Bool} (h : (a && b) = true) : a = true ∧ b = true := by
  rw [Bool.and_eq_true] at h
  exact h
end L2
namespace L2
open PySem PySem.Spec PyProof.Rows
variable [Reg]
section
variable {P : Program} {w : World} {K : PySem.W.Frag} {h : Heap} {mg : Str → Option Value} {base : Heap} {x : Str} {st : Stmt} {k : Nat} {ps : List Str} {T : Ty}
theorem FnAt.okX {F : List PyData → Option RX} (d : FnAt K x st) (X : K.In h) (G : h.Ns mainGlobals mg)
    (hb : ∀ (kV doc pm : Value) (an : Option Addr) (cdv ct : Value) (us : List Value), us.length = ps.length → bindArgs (PySem.W.fnOf x x (defArgs st) (defBody st) (defScope st) .none kV doc pm an cdv ct) ⟨us, []⟩ = pure (ps.zip us))
    (ok : ∀ f fd, PySem.W.nsIn K mainGlobals x = some (some (.ref f)) → Fun K x x st f fd → FnOk P w K mg base (CXe P w) k f fd ps (spX K T F)) : DefX P w K mg base k x ps T F := by
  cases d with
  | mk f fd a D => exact ⟨f, fd, ok f fd a D, PySem.W.mg_of X G a, D.kp, D.binds hb, a⟩
end
noncomputable def refAt : Option (Option Value) → Option Addr
  | some (some (.ref C)) => some C
  | _ => none
theorem refAt_some {o : Option (Option Value)} {C : Addr} (h : refAt o = some C) : o = some (some (.ref C)) := by
  cases o with
  | none => cases h
  | some v => cases v with
    | none => cases h
    | some v => cases v with
      | ref a => cases h; rfl
      | _ => cases h
noncomputable def clsAt (K : PySem.W.Frag) (x : Str) : Addr := (refAt (PySem.W.nsIn K mainGlobals x)).getD 0
noncomputable def isCls (K : PySem.W.Frag) (x : Str) : Bool := (refAt (PySem.W.nsIn K mainGlobals x)).isSome
variable {K : PySem.W.Frag} {h : Heap} {mg : Str → Option Value} {exs : List Str} {x T : Str}
theorem clsAt_eq {C : Addr} (e : PySem.W.nsIn K mainGlobals x = some (some (.ref C))) : clsAt K x = C := by unfold clsAt; rw [e]; rfl
theorem isCls_eq (q : isCls K x = true) : PySem.W.nsIn K mainGlobals x = some (some (.ref (clsAt K x))) := by
  unfold isCls at q
  refine L2.o_E (Option.isSome_iff_exists.mp q) fun C e => ?_
  have e2 := refAt_some e
  rw [clsAt_eq e2]
  exact e2
noncomputable def sameB (o : Option Bool) (b : Bool) : Bool := bif b then isTr o else isFa o
theorem sameB_eq {o : Option Bool} {b : Bool} (q : sameB o b = true) : o = some b := by
  cases b with
  | true => exact isTr_eq q
  | false => exact isFa_eq q
noncomputable def isTs (K : PySem.W.Frag) (exs : List Str) (T : Str) : Bool := isCls K T && (exs.all (fun c => excKit K (clsAt K c) && sameB (PySem.W.kitOne K (.ref (clsAt K c)) (.ref (clsAt K T))) (subX c T)) && isFa (PySem.W.kitOne K (.type "NoneType") (.ref (clsAt K T))))
noncomputable def isVs (K : PySem.W.Frag) (exs : List Str) : Bool := exs.all (fun c => excKit K (clsAt K c) && isTr (PySem.W.kitOne K (.ref (clsAt K c)) (.type "ValueError"))) && isFa (PySem.W.kitOne K (.type "NoneType") (.type "ValueError"))
noncomputable def exAll (K : PySem.W.Frag) (exs : List Str) (D : Addr) : Bool := exs.all fun c => isTr (PySem.W.exmOne K (.ref (clsAt K c)) (.ref D))
theorem isT_of (X : K.In h) (G : h.Ns mainGlobals mg) {Ts : List Str} (q : Ts.all (isTs K exs) = true) (i : Nat) (hi : Ts[i]? = some T) : IsT K mg exs T (clsAt K T) := by
  have q1 := List.all_eq_true.mp q T (List.mem_of_getElem? hi)
  refine L2.o_A (and2 q1) fun a q1 => ?_
  refine L2.o_A (and2 q1) fun b c => ?_
  refine ⟨PySem.W.mg_of X G (isCls_eq a), fun cls hc C hC => ?_, isFa_eq c⟩
  refine L2.o_A (and2 (List.all_eq_true.mp b cls hc)) fun b1 b2 => ?_
  rw [clsAt_eq hC] at b1 b2
  exact ⟨b1, sameB_eq b2⟩
theorem isV_of (q : isVs K exs = true) : IsV K exs := by
  refine L2.o_A (and2 q) fun b c => ?_
  refine ⟨fun cls hc C hC => ?_, isFa_eq c⟩
  refine L2.o_A (and2 (List.all_eq_true.mp b cls hc)) fun b1 b2 => ?_
  rw [clsAt_eq hC] at b1 b2
  exact ⟨b1, isTr_eq b2⟩
inductive ExcAt (K : PySem.W.Frag) (x : Str) : Prop
  | mk (C : Addr) (ns : PySem.W.nsIn K mainGlobals x = some (some (.ref C))) (e : XNo K C) : ExcAt K x
theorem xcd_of (X : K.In h) (G : h.Ns mainGlobals mg) (q : ExcAt K x) : XCD K mg x (clsAt K x) := by
  obtain ⟨C, ns, e⟩ := q
  rw [clsAt_eq ns]
  exact ⟨PySem.W.mg_of X G ns, ns, e⟩
theorem caught_of (X : K.In h) (G : h.Ns mainGlobals mg) (a : isCls K x = true) (q : exAll K exs (clsAt K x) = true) : mg x = some (.ref (clsAt K x)) ∧ Caught K exs (clsAt K x) :=
  ⟨PySem.W.mg_of X G (isCls_eq a), fun cls hc C hC => by
    have b := List.all_eq_true.mp q cls hc
    rw [clsAt_eq hC] at b
    exact isTr_eq b⟩
end L2
namespace L2
open PySem PySem.Spec PyProof.Rows
variable [Reg]
section
variable {X : Cx} {O : Ow}
theorem run_lend {f : Addr} {A' : Around} {pins : List (Addr × Obj)} {σ : St} {H : Hp} {s : Shared} {Q : VK} {us : List Value} {E' : Value → Shared → Prop} (hfr : A'.frames = X.A.frames) (I : Inv X pins σ H s) (cs : List Addr)
    (hcs : ∀ c ∈ cs, H c = none ∧ X.s₀.heap.objs.size ≤ c ∧ c ≠ X.env.locals ∧ ∃ o u, s.heap.get? c = some o ∧ o.data = .cell u)
    (h : Env0 X.prog X.w X.K X.mg X.base A' X.stack s (withC s.heap H cs) → codeAny (model X.prog X.w) A' (.call (.ref f) ⟨us, []⟩) (CR CX0 X.stack X.prog X.w (withC s.heap H cs) s (fun v H' => Q v (noC H' cs)) E0) s) : wpAny (model X.prog X.w) A' (call (.ref f) us) (EP X pins σ Q) E' s := by
  have wc : ∀ c ∈ cs, ∃ o u, withC s.heap H cs c = some (fz c o) ∧ s.heap.get? c = some o ∧ o.data = .cell u := fun c hc => by
    refine L2.o_AAAEEA (hcs c hc) fun _ _ _ o u e d => ?_
    exact L2.i_EEAA (o) (u) (by unfold withC; rw [if_pos hc, e]; rfl) (e) (d)
  have wo : ∀ b, b ∉ cs → withC s.heap H cs b = H b := fun b hb => if_neg hb
  have nin : ∀ b u, H b = some u → b ∉ cs := fun b u e z => by rw [(hcs b z).1] at e; cases e
  have sm : Same H (withC s.heap H cs) := fun b o e => by rw [wo b (nin b o e)]; exact e
  have hok : HOk X.prog X.w (withC s.heap H cs) s.heap := fun b o e => by
    by_cases hb : b ∈ cs
    · refine L2.o_EEAA (wc b hb) fun ob u e1 e2 _ => ?_
      rw [e1] at e
      cases e
      exact fz_ok e2
    · rw [wo b hb] at e
      exact (I.hok b o e).stay (fun c v _ q => q) (fun c q => sm _ _ q) (fun c ys q => sm _ _ q) fun c ob ys _ _ q => sm _ _ q
  have low : ∀ b, b < X.s₀.heap.objs.size → b ∉ cs := fun b hb z => absurd (Nat.lt_of_lt_of_le hb (hcs b z).2.1) (Nat.lt_irrefl _)
  have i0 := I.env0
  have frn : ∀ b ∈ frs X.stack, b ∉ cs := fun b hb => by
    rcases List.mem_cons.mp (I.stkSub b hb) with e | hb
    · intro z; exact (hcs b z).2.2.1 e
    · refine L2.o_AEA (I.ok.funs.mem hb) fun _ o ho _ => ?_
      exact low b (Heap.lt_size ho)
  have e0 : Env0 X.prog X.w X.K X.mg X.base A' X.stack s (withC s.heap H cs) :=
    ⟨hfr.trans i0.frames, i0.mod, fun b o e => ⟨(i0.bs b o e).1, by rw [wo b (low b (Nat.lt_of_lt_of_le (Heap.lt_size e) I.ok.bsz))]; exact (i0.bs b o e).2⟩, i0.bsz, i0.funs, fun b hb => by rw [wo b (frn b hb)]; exact i0.frf b hb, hok, i0.bare, fun x c p h1 h2 => let z := i0.tabs x c p h1 h2; ⟨sm _ _ z.1, z.2⟩⟩
  refine wpAny_call (codeAny_mono (h e0) fun r s' hq => ?_)
  cases r with
  | error e => exact (hq : False).elim
  | ok fl =>
    cases fl with
    | next => exact False.elim hq
    | brk => exact False.elim hq
    | cont => exact False.elim hq
    | ret u =>
      refine L2.o_EEAAAAA (hq) fun v H' os bare un hok' rv q => ?_
      have wc' : ∀ c ∈ cs, ∃ o u, H' c = some (fz c o) ∧ s.heap.get? c = some o ∧ s'.heap.get? c = some o ∧ o.data = .cell u := fun c hc => by
        refine L2.o_EEAA (wc c hc) fun o u e1 e2 e3 => ?_
        have e4 := un.frzs c o _ e1
        exact L2.i_EEAAA (o) (u) (e4) (e2) ((hok' c _ e4).1) (e3)
      have no : ∀ b, b ∉ cs → noC H' cs b = H' b := fun b hb => if_neg hb
      have nofr : ∀ {b : Addr} {o : HO}, H' b = some o → (∀ ob ub v, ob.data = .cell v → o ≠ .frz ob ub) → b ∉ cs := fun {b o} e n z => by
        refine L2.o_EEAAA (wc' b z) fun ob u e1 _ _ e2 => ?_
        rw [e] at e1
        exact n ob _ u e2 (Option.some.inj e1)
      refine I.after ⟨v, noC H' cs, os, bare, ⟨fun b o e n hb hx => ?_, fun b o e n hb hx => ?_, fun b o e n hx => ?_, un.there, fun b xs e => ?_, fun b o ub e => ?_, fun b ps e => ?_, fun b e => ?_⟩, fun b o e => ?_, rv, q⟩
      · by_cases hc : b ∈ cs
        · refine L2.o_EEAAA (wc' b hc) fun o' _ _ e1 e2 _ => ?_
          rw [e] at e1; cases e1
          exact e2
        · exact un.keep b o e (by rw [wo b hc]; exact n) hb hx
      · exact un.slot b o e (by rw [wo b (frn b hb)]; exact n) hb hx
      · by_cases hc : b ∈ cs
        · exact if_pos hc
        · rw [no b hc]
          exact un.free b o e (by rw [wo b hc]; exact n) hx
      · rw [no b (nin b _ e)]; exact un.tups b xs (sm _ _ e)
      · rw [no b (nin b _ e)]; exact un.frzs b o ub (sm _ _ e)
      · rw [no b (nin b _ e)]; exact un.tbls b ps (sm _ _ e)
      · rw [no b (nin b _ e)]; exact un.tabs b (sm _ _ e)
      · have hc : b ∉ cs := fun z => by
          have e' : noC H' cs b = none := if_pos z
          rw [e'] at e; cases e
        rw [no b hc] at e
        refine (hok' b o e).stay (fun c v _ q => q) (fun c q => ?_) (fun c ys q => ?_) fun c ob ys fs hf q => ?_
        · rw [no c (nofr q fun _ _ _ _ z => by cases z)]; exact q
        · rw [no c (nofr q fun _ _ _ _ z => by cases z)]; exact q
        · rw [no c (nofr q fun ob2 ub v hv z => by cases z; rw [hf] at hv; cases hv)]; exact q
theorem lam_call {L : Lam} {tag : Str} {g : Addr} {k : Nat} {F : List PyData → Option PyData} {pins : List (Addr × Obj)} {σ : St} {H1 H0 : Hp} {s1 : Shared} {hid : Addr → Prop} {ρ : Rho} {ow : List Addr} {caps ds : List PyData} {r : PyData} {us : List Value} {vs : List V} {A' : Around} {E' : Value → Shared → Prop} (ix : List Nat) (hreg : Reg.reg tag = some L) (S : LamSc L) (M : LamAtX X L ix)
    (FV : FvOk X.prog X.w X.K X.mg X.base k tag F) (hr : Room k A') (hfr : A'.frames = X.A.frames) (I : Inv X pins σ H1 s1) (E1 : EnvOk X.K O hid H0 σ H1 ρ ow) (hc : capsD ix ρ = some caps) (md : Made H1 L (cloOf L.scope X.env) g) (rr : Vals vs us) (D : DenL X.K (del H1 hid) vs ds) (h2 : F (ds ++ caps) = some r) (hnf : nf r = true) :
    wpAny (model X.prog X.w) A' (call (.ref g) us) (EP X pins σ fun v H' => Same H1 H' ∧ Den X.K (del H' hid) v r) E' s1 := by
  have I1 := I
  have fre : ∀ z ∈ L.scope.names, z.2 = .free → z.1 ∈ L.free := fun z hz e => by
    rw [← S.fr]
    exact List.mem_reverse.mpr (List.mem_map.mpr ⟨z, List.mem_filter.mpr ⟨hz, by rw [e]; rfl⟩, rfl⟩)
  have hcl : ∀ z ∈ L.scope.names, z.2 = .free → ∃ c, X.env.cells.lookup z.1 = some c := fun z hz e => I.ok.has z.1 (.inl (M.cell z.1 (fre z hz e)))
  have names : (cloOf L.scope X.env).map (fun z => z.1) = L.free := by
    rw [← S.fr]
    have := clo_names (env := X.env) L.scope.names []
    simpa [cloOf] using this
  have lookc : ∀ (j : Nat) (z : Str × Addr), (cloOf L.scope X.env)[j]? = some z → X.env.cells.lookup z.1 = some z.2 := fun j z e => clo_in hcl (look_at (by rw [names]; exact S.ndf) e)
  have inF : ∀ z ∈ cloOf L.scope X.env, z.1 ∈ L.free := fun z hz => by rw [← names]; exact List.mem_map.mpr ⟨z, hz, rfl⟩
  have lookm : ∀ z ∈ cloOf L.scope X.env, X.env.cells.lookup z.1 = some z.2 := fun z hz => by
    refine L2.o_E (List.getElem?_of_mem hz) fun j e => ?_
    exact lookc j z e
  have ndc : ((cloOf L.scope X.env).map (fun z => z.2)).Nodup := nodup_snd (by rw [names]; exact S.ndf) fun x y c a b => I.ok.inj x y c (lookm _ a) (lookm _ b)
  refine L2.o_EAA (caps_ok E1 ix caps hc) fun cv cl cd cs => ?_
  have lens : ix.length = L.free.length := by have := congrArg List.length M.sl; simpa using this
  have lenc : (cloOf L.scope X.env).length = L.free.length := by rw [← names, List.length_map]
  have inC : ∀ (j : Nat) (z : Str × Addr) (v : V), (cloOf L.scope X.env)[j]? = some z → cv[j]? = some v → ∃ u o, s1.heap.get? z.2 = some o ∧ o.data = .cell (some u) ∧ RelV v u := fun j z v e1 e2 => by
    have hj : j < ix.length := by rw [← cl]; exact (List.getElem?_eq_some_iff.mp e2).1
    have e3 := List.getElem?_eq_getElem hj
    have hN : X.N[ix[j]]? = some z.1 := by
      have a1 : (ix.map (fun i => X.N[i]?))[j]? = some (X.N[ix[j]]?) := by rw [List.getElem?_map, e3]; rfl
      have a2 : (L.free.map some)[j]? = some (some z.1) := by rw [← names, List.getElem?_map, List.getElem?_map, e1]; rfl
      rw [M.sl, a2] at a1
      exact (Option.some.inj a1).symm
    have hk : X.env.scope.names.lookup z.1 = some .cell := M.cell z.1 (inF z (List.mem_of_getElem? e1))
    refine L2.o_EA (I1.loc) fun m hn hl => ?_
    refine L2.o_EA (hl ix[j] z.1 v hN (cs j _ v e3 e2) (.inr (.inl hk))) fun u rv lk => ?_
    rcases lk with ⟨k1, _⟩ | ⟨_, c2, k2, o, k3, k4⟩
    · have k1' : X.env.scope.names.lookup z.1 = some .local := k1
      rw [hk] at k1'; cases k1'
    · rw [lookc j z e1] at k2
      cases k2
      exact L2.i_EEAA (u) (o) (k3) (k4) (rv)
  have hcs : ∀ c ∈ (cloOf L.scope X.env).map (fun z => z.2), H1 c = none ∧ X.s₀.heap.objs.size ≤ c ∧ c ≠ X.env.locals ∧ ∃ o u, s1.heap.get? c = some o ∧ o.data = .cell u := fun c hc => by
    refine L2.o_EA (List.mem_map.mp hc) fun z hz zq2 => ?_
    subst zq2
    have lk := lookm z hz
    have fnz := M.fn z.1 (inF z hz)
    refine L2.o_EEA (I1.cell z.1 z.2 lk) fun v o e1 e2 => ?_
    exact L2.i_AAAEEA ((I1.freeC z.1 z.2 lk).resolve_right (fun w => by have w1 := w.1; rw [fnz] at w1; cases w1)) (I.ok.cab z.1 z.2 fnz lk) (I.cne z.1 z.2 lk) (o) (v) (e1) (e2)
  have nin : ∀ b u, H1 b = some u → b ∉ (cloOf L.scope X.env).map (fun z => z.2) := fun b u e z => by rw [(hcs b z).1] at e; cases e
  have smC : Same H1 (withC s1.heap H1 ((cloOf L.scope X.env).map (fun z => z.2))) := fun b o e => by unfold withC; rw [if_neg (nin b o e)]; exact e
  have nh : ∀ b, H1 b = none → ¬ hid b := fun b e z => E1.ish b z e
  have nhz : ∀ b ob ub, H1 b = some (.frz ob ub) → ¬ hid b := fun b ob ub e z => by
    refine L2.o_E (E1.ishL b z) fun vs e2 => ?_
    rw [e] at e2; cases e2
  have LA : LamAt (del (withC s1.heap H1 ((cloOf L.scope X.env).map (fun z => z.2))) hid) g L cv := by
    refine L2.o_EEEEEEEEAAA (md) fun pm c' ctv oc fs' q' t' φ a1 a2 a3 a4 => ?_
    refine L2.i_EEEEEEEEEAAAAAAA (cloOf L.scope X.env) (pm) (c') (ctv) (oc) (fs') (q') (t') (φ) ?_ ?_ (a3) (a4) (by omega) (names) (ndc) (fun j z v e1 e2 => ?_)
    · rw [del_out (nhz g _ _ a1)]; exact smC _ _ a1
    · rw [del_out (nhz c' _ _ a2)]; exact smC _ _ a2
    · refine L2.o_EEAA (inC j z v e1 e2) fun u o b1 b2 b3 => ?_
      have hz : z.2 ∈ (cloOf L.scope X.env).map (fun z => z.2) := List.mem_map.mpr ⟨z, List.mem_of_getElem? e1, rfl⟩
      refine L2.i_EEAA (u) (o) ?_ (b2) (b3)
      rw [del_out (nh z.2 (hcs z.2 hz).1)]
      unfold withC
      rw [if_pos hz, b1]
      rfl
  refine run_lend hfr I1 ((cloOf L.scope X.env).map (fun z => z.2)) hcs fun e0 => ?_
  have fv : FnV X.K (withC s1.heap H1 ((cloOf L.scope X.env).map (fun z => z.2))) g tag cv := .inr ⟨L, hreg, LA.mono (del_same _ _)⟩
  refine FV.run A' X.stack s1 _ g cv us vs _ E0 hr e0 fv rr ⟨hid, ds ++ caps, r, fun b hb => ?_, (D.mono (del_mono smC _)).append (cd.mono (del_mono smC _)), h2, fun v as H2 s2 n2 D2 => ?_⟩
  · refine L2.o_E (E1.ishL b hb) fun ls e => ?_
    exact ⟨ls, smC _ _ e⟩
  · have sm2 : Same H1 (noC H2 ((cloOf L.scope X.env).map (fun z => z.2))) := fun b o e => by unfold noC; rw [if_neg (nin b o e)]; exact s2 _ _ (smC _ _ e)
    refine ⟨sm2, ?_⟩
    have D3 : Den X.K (del H2 hid) v r := D2.raw (del_uni _ _ _) fun b hb o e => by
      rw [del_out fun z => ?_]
      · exact e
      · refine L2.o_E (E1.ishL b z) fun ls e2 => ?_
        have := n2 b hb
        rw [smC _ _ e2] at this
        cases this
    refine D3.sub (fun b o e n => ?_) hnf
    by_cases hh : hid b
    · rw [del_in hh] at e; cases e
    · rw [del_out hh] at e ⊢
      unfold noC
      rw [if_neg fun z => ?_]
      · exact e
      · refine L2.o_AAAEEA (hcs b z) fun _ _ _ ob u e1 _ => ?_
        have e2 : withC s1.heap H1 ((cloOf L.scope X.env).map (fun z => z.2)) b = some (fz b ob) := by unfold withC; rw [if_pos z, e1]; rfl
        have e3 := s2 _ _ e2
        rw [e] at e3
        exact n _ _ (Option.some.inj e3)
theorem Inv.swap {pins pl pl' : List (Addr × Obj)} {σ : St} {H : Hp} {s : Shared} {a : Addr} {h' : Heap} {t' : Nat} (I : Inv X (pins ++ pl) σ H s) (f : FpOk X pins H a) (k : ∀ b o, b ≠ a → s.heap.get? b = some o → h'.get? b = some o)
    (hp : ∀ p ∈ pl', (p ∈ pl ∧ p.1 ≠ a) ∨ (p.1 = a ∧ h'.get? a = some p.2 ∧ ∀ v, p.2.data ≠ .cell v)) : Inv X (pins ++ pl') σ H { s with heap := h', toks := t' } := by
  refine L2.o_AAAAA (f) fun f0 f1 f2 f3 f4 f5 => ?_
  have I1 : Inv X pins σ H { s with heap := h', toks := t' } := I.unpinned.turned (t' := t') k f0 f1 f3 f4 f5
  refine I1.pins_of fun p hm => ?_
  rcases List.mem_append.mp hm with hm | hm
  · exact I1.pin p (List.mem_append_right _ hm)
  · rcases hp p hm with ⟨h1, h2⟩ | ⟨h1, h2, h3⟩
    · refine L2.o_A (I.pin p (List.mem_append_right _ (List.mem_append_right _ h1))) fun g1 g2 => ?_
      exact ⟨k _ _ h2 g1, g2⟩
    · exact ⟨by rw [h1]; exact h2, by rw [h1]; exact f0, by rw [h1]; exact f1, by rw [h1]; exact f2, h3⟩
noncomputable def keyI (F : PyData → Option PyData) (d : PyData) : Option Int := (F d).bind intO
noncomputable def minKgo (F : PyData → Option PyData) : PyData → Int → List PyData → Option PyData
  | b, _, [] => some b
  | b, kb, d :: r => (keyI F d).bind fun k => if k < kb then minKgo F d k r else minKgo F b kb r
noncomputable def minKD (F : PyData → Option PyData) : PyData → Option PyData
  | .list (d :: r) => (keyI F d).bind fun k => minKgo F d k r
  | _ => none
theorem seq_nocell {c : String} {xs : Array Value} {n : Nat} : ∀ v, (seqObj c xs n).data ≠ .cell v := fun v z => by cases z
noncomputable def KeyOk (X : Cx) (σ : St) (Hb : Hp) (hid : Addr → Prop) (F : PyData → Option PyData) (g : Addr) : Prop :=
  ∀ (pins' : List (Addr × Obj)) (H1 : Hp) (s1 : Shared) (v : V) (u : Value) (d : PyData) (k : Int), Inv X pins' σ H1 s1 → Same Hb H1 → RelV v u → Den X.K (del H1 hid) v d → keyI F d = some k →
      wpAny (model X.prog X.w) X.A.in1 (call (.ref g) [u]) (EP X pins' σ fun w H' => Same H1 H' ∧ w = .int k) (fun _ _ => False) s1
theorem minK_loop {F : PyData → Option PyData} {g S it l : Addr} {pins : List (Addr × Obj)} {σ : St} {Hb : Hp} {hid : Addr → Prop} {xs : List V} {R : Result → Shared → Prop} {r : PyData}
    (hh : X.A.handled = none) (key : KeyOk X σ Hb hid F g) (hSi : S ≠ it) (fS : ∀ H, H S = none → FpOk X pins H S) (fI : ∀ H, H it = none → FpOk X pins H it) (hl : SqL X.K Hb l xs)
    (hR : ∀ v u H' s', Inv X pins σ H' s' → RelV v u → Same Hb H' → Den X.K (del H' hid) v r → R (.ok (.ret u)) s') :
    ∀ (ds : List PyData) (j : Nat) (s : Shared) (H : Hp) (b : PyData) (kb : Int) (x : V) (vb : Value) (tb : Tok) (c : Nat) (oI : Obj), Inv X (pins ++ [(S, seqObj "list" #[vb, .int kb tb] c), (it, oI)]) σ H s → Same Hb H → s.heap.IsListIter it l j → DenL X.K (del H hid) (xs.drop j) ds → RelV x vb → Den X.K (del H hid) x b → minKgo F b kb ds = some r →
      codeAny (model X.prog X.w) X.A (.builtin "min.loop" ⟨[.ref it, .ref g, .ref S], []⟩) R s := by
  have hname : (toString "min" ++ toString ".loop" : String) = "min.loop" := by decide
  intro ds
  induction ds with
  | nil =>
    intro j s H b kb x vb tb c oI I sm hit D rv D1 hm
    cases hm
    have pS := I.pin (S, seqObj "list" #[vb, .int kb tb] c) (by simp)
    have pI := I.pin (it, oI) (by simp)
    refine L2.o_EAA (I.list (sm.seq hl)) fun its rs pl hz => ?_
    have hlen := rs.length
    have hdl := D.length
    rw [List.length_drop] at hdl
    refine codeAny_builtin PySem.F.entry_min_loop ?_
    rw [Around.under_plainId PySem.F.plain_min_loop _]
    show wpAny _ X.A.in1 (seqItems? (.ref S) >>= _) _ _ _
    refine wpAny_bind (wpAny_seqItems pS.1 rfl ?_)
    show wpAny _ X.A.in1 (tryCatch (pyNext (.ref it)) _ >>= _) _ _ _
    refine wpAny_bind (wpAny_tryCatch (wpAny_pyNext_list_end (A := X.A.in1) hh hit pl.isList (by simp at hdl ⊢; omega) fun h' eb => ?_))
    have I1 : Inv X (pins ++ [(S, seqObj "list" #[vb, .int kb tb] c)]) σ H { s with heap := h' } := I.swap (t' := s.toks) (fI H pI.2.1) (fun b o hb e => eb b o hb e) fun p hp => by
      obtain rfl : p = _ := List.mem_singleton.mp hp
      exact .inl ⟨by simp, hSi⟩
    have pS1 := I1.pin (S, seqObj "list" #[vb, .int kb tb] c) (by simp)
    have s1 := Heap.SameBut.update h' S (Obj.mapSeq fun _ => (#[] : Array Value))
    show wpAny _ X.A.in1 (updateSeq S (fun _ => #[]) >>= _) _ _ _
    refine wpAny_bind ?_
    refine wpAny_updateSeq pS1.1 rfl (wpAny_bind (wpAny_letGo (wpAny_pure ?_)))
    have I2 := I1.swap (pl' := []) (t' := s.toks) (h' := h'.update S (Obj.mapSeq fun _ => (#[] : Array Value))) (fS H pS.2.1) (fun b o hb e => (s1.2 b hb).trans e) fun p hp => by cases hp
    rw [List.append_nil] at I2
    exact hR x vb H _ I2 rv sm D1
  | cons d ds ih =>
    intro j s H b kb x vb tb c oI I sm hit D rv D1 hm
    unfold minKgo at hm
    obtain ⟨k, hk, hm⟩ := bind_some hm
    have pS := I.pin (S, seqObj "list" #[vb, .int kb tb] c) (by simp)
    have pI := I.pin (it, oI) (by simp)
    refine L2.o_EAA (I.list (sm.seq hl)) fun its rs pl hz => ?_
    obtain ⟨y, ys, hxs, Dy, Dr⟩ : ∃ y ys, xs.drop j = y :: ys ∧ Den X.K (del H hid) y d ∧ DenL X.K (del H hid) ys ds := by
      generalize xs.drop j = zs at D
      cases D with
      | cons a b => exact ⟨_, _, rfl, a, b⟩
    have hy : xs[j]? = some y := by
      have := congrArg (fun l : List V => l[0]?) hxs
      simpa using this
    have hys : xs.drop (j + 1) = ys := by
      have := congrArg List.tail hxs
      simpa using this
    refine L2.o_EA (rs.get hy) fun u hu ru => ?_
    refine codeAny_builtin PySem.F.entry_min_loop ?_
    rw [Around.under_plainId PySem.F.plain_min_loop _]
    show wpAny _ X.A.in1 (seqItems? (.ref S) >>= _) _ _ _
    refine wpAny_bind (wpAny_seqItems pS.1 rfl ?_)
    show wpAny _ X.A.in1 (tryCatch (pyNext (.ref it)) _ >>= _) _ _ _
    refine wpAny_bind (wpAny_tryCatch (wpAny_pyNext_list_item hit pl.isList (x := u) (by simpa using hu) fun h' st' sb => ?_))
    refine L2.o_EAA (id st') fun oI' e1 e2 e3 => ?_
    have I1 : Inv X (pins ++ [(S, seqObj "list" #[vb, .int kb tb] c), (it, oI')]) σ H { s with heap := h' } := I.swap (t' := s.toks) (fI H pI.2.1) (fun b o hb e => (sb.2 b hb).trans e) fun p hp => by
      rcases List.mem_cons.mp hp with rfl | hp
      · exact .inl ⟨by simp, hSi⟩
      · obtain rfl : p = _ := List.mem_singleton.mp hp
        exact .inr ⟨rfl, e1, fun v z => by rw [e3] at z; cases z⟩
    show wpAny _ X.A.in1 (tryCatch (holding [u] (call (.ref g) [u])) _ >>= _) _ _ _
    refine wpAny_bind (wpAny_tryCatch (wpAny_holding (wpAny_mono (key _ H _ y u d k I1 sm ru Dy hk) (fun uk s2 hq => ?_) fun _ _ hF => hF.elim)))
    obtain ⟨w, H2, I2, rw2, sm2, rfl⟩ := hq
    obtain ⟨t2, rfl⟩ : ∃ t2, uk = .int k t2 := rw2
    have pS2 := I2.pin (S, seqObj "list" #[vb, .int kb tb] c) (by simp)
    have pI2 := I2.pin (it, oI') (by simp)
    have hit2 : s2.heap.IsListIter it l (j + 1) := ⟨oI', pI2.1, e2, e3⟩
    show wpAny _ X.A.in1 (tryCatch (holding [u, .int k t2] (richCompare .Lt (.int k t2) (.int kb tb) >>= _)) _ >>= _) _ _ _
    refine wpAny_bind (wpAny_tryCatch (wpAny_holding (wpAny_bind (CmpOf.ints_lt (prog := X.prog) (w := X.w) (A := X.A.in1) (P := fun i v => ∃ t, v = .int (if i = 0 then k else kb) t) (fun i => if i = 0 then k else kb) (fun i v h => h) 0 1 _ _ _ _ _ ⟨t2, rfl⟩ ⟨tb, rfl⟩ ?_))))
    refine wpAny_bind (wpAny_holding (wpAny_truthy_bool ?_))
    refine wpAny_bind (wpAny_letGo (wpAny_pure ?_))
    have Dr2 : DenL X.K (del H2 hid) (xs.drop (j + 1)) ds := by rw [hys]; exact Dr.mono (del_mono sm2 _)
    by_cases hb' : k < kb
    · have s1 := Heap.SameBut.update s2.heap S (Obj.mapSeq fun _ => #[u, .int k t2])
      obtain ⟨c2, hc2⟩ : ∃ c2, (s2.heap.update S (Obj.mapSeq fun _ => #[u, .int k t2])).get? S = some (seqObj "list" #[u, .int k t2] c2) := ⟨_, get?_update_seq pS2.1 fun _ => #[u, .int k t2]⟩
      rw [if_pos hb'] at hm
      simp only [hb', decide_true, if_true, if_neg (show ¬ (1 = 0) by decide)]
      refine wpAny_bind ?_
      refine wpAny_updateSeq pS2.1 rfl (wpAny_bind (wpAny_letGo ?_))
      rw [hname]
      have I3 : Inv X (pins ++ [(S, seqObj "list" #[u, .int k t2] c2), (it, oI')]) σ H2 { s2 with heap := s2.heap.update S (Obj.mapSeq fun _ => #[u, .int k t2]) } := I2.swap (t' := s2.toks) (fS H2 pS2.2.1) (fun b o hb e => (s1.2 b hb).trans e) fun p hp => by
        rcases List.mem_cons.mp hp with rfl | hp
        · exact .inr ⟨rfl, hc2, seq_nocell⟩
        · obtain rfl : p = _ := List.mem_singleton.mp hp
          exact .inl ⟨by simp, hSi.symm⟩
      exact wpAny_pure ⟨plainId_quiet PySem.F.plain_min_loop _, ih (j + 1) _ H2 d k y u t2 c2 oI' I3 (sm.trans sm2) ⟨oI', (s1.2 it hSi.symm).trans pI2.1, e2, e3⟩ Dr2 ru (Dy.mono (del_mono sm2 _)) hm⟩
    · rw [if_neg hb'] at hm
      simp only [hb', decide_false, Bool.false_eq_true, if_false, if_true, if_neg (show ¬ (1 = 0) by decide)]
      refine wpAny_bind (wpAny_letGo ?_)
      rw [hname]
      exact wpAny_pure ⟨plainId_quiet PySem.F.plain_min_loop _, ih (j + 1) _ H2 b kb x vb tb c oI' I2 (sm.trans sm2) hit2 Dr2 rv (D1.mono (del_mono sm2 _)) hm⟩
theorem call_minK {F : PyData → Option PyData} {g l : Addr} {pins : List (Addr × Obj)} {σ : St} {H : Hp} {s : Shared} {hid : Addr → Prop} {xs : List V} {ds : List PyData} {r : PyData} {Q : VK} {E' : Value → Shared → Prop}
    (hh : X.A.handled = none) (I : Inv X pins σ H s) (key : KeyOk X σ H hid F g) (hl : SqL X.K H l xs) (D : DenL X.K (del H hid) xs ds) (hm : minKD F (.list ds) = some r) (q : ∀ v H', Same H H' → Den X.K (del H' hid) v r → Q v H') :
    wpAny (model X.prog X.w) X.A (call (.builtin "min") [.ref l] [(Str.ofString "key", .ref g)]) (EP X pins σ Q) E' s := by
  have hname : (toString "min" ++ toString ".loop" : String) = "min.loop" := by decide
  cases D with
  | nil => cases hm
  | @cons y d ys ds' Dy Dr =>
  unfold minKD at hm
  obtain ⟨k, hk, hm⟩ := bind_some hm
  refine L2.o_EAA (I.list hl) fun its rs pl hz => ?_
  refine kmk_tree PySem.F.kind_min PySem.F.plain_min PySem.F.entry_min (kmk_min_key _ _) ?_
  show wpAny _ X.A.in1 (Builtin.Builtins.bindParams "min" ["key", "default"] 0 ⟨[], [(Str.ofString "key", .ref g)]⟩ >>= _) _ _ s
  refine wpAny_bind (wpAny_of_eq (show Builtin.Builtins.bindParams "min" ["key", "default"] 0 ⟨[], [(Str.ofString "key", .ref g)]⟩ = pure [some (.ref g), none] from rfl) ?_)
  refine wpAny_bind (wpAny_pure ?_)
  refine wpAny_bind (wpAny_pyIter_list pl.isList ?_)
  refine wpAny_bind (wpAny_newList ?_ (Nat.zero_le _))
  rw [hname]
  generalize hI1 : s.heap.push { cls := .type "list_iterator", data := .fields #[.ref l, .int 0 0] } = h1
  have z1 : h1.objs.size = s.heap.objs.size + 1 := by rw [← hI1]; exact size_push' ..
  have k1 : ∀ b o, s.heap.get? b = some o → h1.get? b = some o := fun b o e => by rw [← hI1]; exact Heap.get?_push_of_some _ e
  have g1 : h1.get? s.heap.objs.size = some { cls := .type "list_iterator", data := .fields #[.ref l, .int 0 0] } := by rw [← hI1]; exact Heap.get?_push_size _ rfl
  have hSi : h1.objs.size ≠ s.heap.objs.size := by omega
  have fI : ∀ H', H' s.heap.objs.size = none → FpOk X pins H' s.heap.objs.size := fun H' hn => I.fpOk (Nat.le_refl _) hn
  have fS : ∀ H', H' h1.objs.size = none → FpOk X pins H' h1.objs.size := fun H' hn => I.fpOk (by omega) hn
  have nI : H s.heap.objs.size = none := I.hok.fresh (Nat.le_refl _)
  have nS : H h1.objs.size = none := I.hok.fresh (by omega)
  have gS : (h1.push { cls := .type "list", data := .seq ([] : List Value).toArray }).get? h1.objs.size = some (seqObj "list" #[] 0) := Heap.get?_push_size _ rfl
  have gI : (h1.push { cls := .type "list", data := .seq ([] : List Value).toArray }).get? s.heap.objs.size = some { cls := .type "list_iterator", data := .fields #[.ref l, .int 0 0] } := Heap.get?_push_of_some _ g1
  have I0 : Inv X (pins ++ [(h1.objs.size, seqObj "list" #[] 0), (s.heap.objs.size, { cls := .type "list_iterator", data := .fields #[.ref l, .int 0 0] })]) σ H { s with heap := h1.push { cls := .type "list", data := .seq ([] : List Value).toArray } } := by
    have J : Inv X pins σ H { s with heap := h1.push { cls := .type "list", data := .seq ([] : List Value).toArray } } := I.kept (t' := s.toks) fun b o e => Heap.get?_push_of_some _ (k1 b o e)
    refine J.pins_of fun p hp => ?_
    rcases List.mem_append.mp hp with hp | hp
    · exact J.pin p (List.mem_append_right _ hp)
    · rcases List.mem_cons.mp hp with rfl | hp
      · refine L2.o_AAA (fS H nS) fun f0 f1 f2 _ => ?_
        exact ⟨gS, f0, f1, f2, seq_nocell⟩
      · obtain rfl : p = _ := List.mem_singleton.mp hp
        refine L2.o_AAA (fI H nI) fun f0 f1 f2 _ => ?_
        exact ⟨gI, f0, f1, f2, fun v z => by cases z⟩
  refine wpAny_pure ⟨plainId_quiet PySem.F.plain_min_loop _, ?_⟩
  refine L2.o_EA (rs.get (show (y :: ys)[0]? = some y from rfl)) fun u hu ru => ?_
  refine L2.o_EAA (I0.list hl) fun its0 rs0 pl0 hz0 => ?_
  refine L2.o_EA (rs0.get (show (y :: ys)[0]? = some y from rfl)) fun u0 hu0 ru0 => ?_
  have hit : (h1.push { cls := .type "list", data := .seq ([] : List Value).toArray }).IsListIter s.heap.objs.size l 0 := ⟨_, gI, rfl, rfl⟩
  refine codeAny_builtin PySem.F.entry_min_loop ?_
  rw [Around.under_plainId PySem.F.plain_min_loop _]
  show wpAny _ X.A.in1 (seqItems? (.ref _) >>= _) _ _ _
  refine wpAny_bind (wpAny_seqItems gS rfl ?_)
  show wpAny _ X.A.in1 (tryCatch (pyNext (.ref s.heap.objs.size)) _ >>= _) _ _ _
  refine wpAny_bind (wpAny_tryCatch (wpAny_pyNext_list_item hit pl0.isList (x := u0) (by simpa using hu0) fun h' st' sb => ?_))
  refine L2.o_EAA (id st') fun oI' e1 e2 e3 => ?_
  have I1 : Inv X (pins ++ [(h1.objs.size, seqObj "list" #[] 0), (s.heap.objs.size, oI')]) σ H { s with heap := h' } := I0.swap (t' := s.toks) (fI H nI) (fun b o hb e => (sb.2 b hb).trans e) fun p hp => by
    rcases List.mem_cons.mp hp with rfl | hp
    · exact .inl ⟨by simp, hSi⟩
    · obtain rfl : p = _ := List.mem_singleton.mp hp
      exact .inr ⟨rfl, e1, fun v z => by rw [e3] at z; cases z⟩
  show wpAny _ X.A.in1 (tryCatch (holding [u0] (call (.ref g) [u0])) _ >>= _) _ _ _
  refine wpAny_bind (wpAny_tryCatch (wpAny_holding (wpAny_mono (key _ H _ y u0 d k I1 (Same.refl H) ru0 Dy hk) (fun uk s2 hq => ?_) fun _ _ hF => hF.elim)))
  obtain ⟨w, H2, I2, rw2, sm2, rfl⟩ := hq
  obtain ⟨t2, rfl⟩ : ∃ t2, uk = .int k t2 := rw2
  have pS2 := I2.pin (h1.objs.size, seqObj "list" #[] 0) (by simp)
  have pI2 := I2.pin (s.heap.objs.size, oI') (by simp)
  have s1 := Heap.SameBut.update s2.heap h1.objs.size (Obj.mapSeq fun _ => #[u0, .int k t2])
  obtain ⟨c2, hc2⟩ : ∃ c2, (s2.heap.update h1.objs.size (Obj.mapSeq fun _ => #[u0, .int k t2])).get? h1.objs.size = some (seqObj "list" #[u0, .int k t2] c2) := ⟨_, get?_update_seq pS2.1 fun _ => #[u0, .int k t2]⟩
  show wpAny _ X.A.in1 (updateSeq h1.objs.size (fun _ => #[u0, .int k t2]) >>= _) _ _ _
  refine wpAny_bind ?_
  refine wpAny_updateSeq pS2.1 rfl ?_
  rw [hname]
  have I3 : Inv X (pins ++ [(h1.objs.size, seqObj "list" #[u0, .int k t2] c2), (s.heap.objs.size, oI')]) σ H2 { s2 with heap := s2.heap.update h1.objs.size (Obj.mapSeq fun _ => #[u0, .int k t2]) } := I2.swap (t' := s2.toks) (fS H2 pS2.2.1) (fun b o hb e => (s1.2 b hb).trans e) fun p hp => by
    rcases List.mem_cons.mp hp with rfl | hp
    · exact .inr ⟨rfl, hc2, seq_nocell⟩
    · obtain rfl : p = _ := List.mem_singleton.mp hp
      exact .inl ⟨by simp, hSi.symm⟩
  exact wpAny_pure ⟨plainId_quiet PySem.F.plain_min_loop _, minK_loop hh key hSi fS fI hl (fun v u' H' s' J rv sm' D' => ⟨v, H', J, rv, q v H' sm' D'⟩) ds' 1 _ H2 d k y u0 t2 c2 oI' I3 sm2 ⟨oI', (s1.2 _ hSi.symm).trans pI2.1, e2, e3⟩ (Dr.mono (del_mono sm2 _)) ru0 (Dy.mono (del_mono sm2 _)) hm⟩
theorem r_minK {L : Lam} {tag : Str} {p lpos kp pos : Pos} {a : Expr} {fa : Rho → Option PyData} {k : Nat} {F : List PyData → Option PyData} (ix : List Nat) (hreg : Reg.reg tag = some L) (S : LamSc L) (M : LamAtX X L ix)
    (FV : FvOk X.prog X.w X.K X.mg X.base k tag F) (hr : Room (k + 1) X.A) (hg : Gl X "min") (hm : X.mg "min" = none) (ha : PR X O a fa) (hv : bootBuiltins "min" = some (.builtin "min") := by decide +kernel)
    (he : starEach [a] X.env = (false, eval a X.env) :: starEach [] X.env := by rfl)
    (he' : backTo pos (starEach [a] X.env) = (false, eval a X.env) :: backTo pos (starEach [] X.env) := by rfl)
    (hpl : (backTo pos (starEach [a] X.env)).any (·.1) = false := by rfl)
    (hkl : (backToKw pos (keywordEach [⟨some "key", .Lambda L.params L.body L.scope lpos, kp⟩] X.env)).all (·.1.isSome) = true := by rfl)
    (hkn : (backToKw pos (keywordEach [⟨some "key", .Lambda L.params L.body L.scope lpos, kp⟩] X.env)).any (·.1.isNone) = false := by rfl) :
    PR X O (.Call (.Name "min" p) [a] [⟨some "key", .Lambda L.params L.body L.scope lpos, kp⟩] pos) (fun ρ => (capsD ix ρ).bind fun cs => (fa ρ).bind fun d => minKD (fun z => F ([z] ++ cs)) d) := by
  intro pins s σ H Q I ⟨hid, H0, ρ, ow, r, E, hf, q⟩
  obtain ⟨caps, hc, hf⟩ := bind_some hf
  obtain ⟨d, h1, h2⟩ := bind_some hf
  refine L2.o_EEEAA (M.tab) fun y c p0 t1 t2 t3 => ?_
  have fre : ∀ z ∈ L.scope.names, z.2 = .free → z.1 ∈ L.free := fun z hz e => by
    rw [← S.fr]
    exact List.mem_reverse.mpr (List.mem_map.mpr ⟨z, List.mem_filter.mpr ⟨hz, by rw [e]; rfl⟩, rfl⟩)
  have hcl : ∀ z ∈ L.scope.names, z.2 = .free → ∃ c, X.env.cells.lookup z.1 = some c := fun z hz e => I.ok.has z.1 (.inl (M.cell z.1 (fre z hz e)))
  refine wpAny_Call_Name_kw (ld_blt I hg hm hv ?_ (by decide) (by decide))
  refine callWith_kw ?_ he' hpl hkl hkn
  have A1 := (pa_cons ha pa_nil he) pos pins s σ H (fun vs H1 => ∃ v, vs = [v] ∧ Same H H1 ∧ Den X.K (del H1 hid) v d) I ⟨hid, H0, ρ, ow, d, E, h1, fun v H1 s1 D1 => ⟨v, rfl, s1, D1⟩⟩
  refine thn A1 fun us s1 zpat => ?_
  obtain ⟨vs, H1, I1, rr, v, e, sm1, D1⟩ := zpat
  subst e
  refine L2.o_EA (vals1 rr) fun u zq1 ru => ?_
  subst zq1
  refine kws_cons (thn ((pe_lam (pos := lpos) t1 t2 t3 M.qual M.dfl (closure_is hcl)) pins s1 σ H1 (fun v H2 => ∃ g, v = .ref g ∧ Same H1 H2 ∧ Made H2 L (cloOf L.scope X.env) g) I1 (fun g H2 s2 n2 m2 => ⟨g, rfl, s2, m2⟩)) fun ug s2 ⟨vg, H2, I2, rg, g, e, sm2, md⟩ => kws_nil ?_)
  subst e
  obtain rfl : ug = Value.ref g := rg
  cases d with
  | list ds =>
    obtain ⟨l, xs, rfl, q1, D2⟩ := den_lst D1
    obtain rfl : u = Value.ref l := ru
    have D3 := D2.mono (del_mono sm2 hid)
    have q3 : SqL X.K H2 l xs := sm2.seq ((del_same _ _).seq q1)
    have E2 := (E.mono sm1).mono sm2
    refine call_minK (X := X) (hid := hid) (F := fun z => F ([z] ++ caps)) hr.hd I2 (fun pins' H3 s3 v' u' d' k' J sm3 rv' D' hk' => ?_) q3 D3 h2 fun v' H3 sm3 D' => q v' H3 ((sm1.trans sm2).trans sm3) D'
    obtain ⟨r', hr1, hr2⟩ := bind_some hk'
    have := intO_some hr2
    subst this
    refine wpAny_mono (lam_call ix hreg S M FV hr.in1 rfl J (E2.mono sm3) hc (md.mono sm3) (.cons rv' .nil) (.cons D' .nil) hr1 rfl) (fun u2 s4 hq => ?_) fun _ _ z => z
    obtain ⟨v4, H4, J4, rv4, sm4, D4⟩ := hq
    cases D4
    exact ⟨_, H4, J4, rv4, sm4, rfl⟩
  | _ => cases h2
noncomputable def minI (n : Int) (ns : List Int) : Int := ns.foldl (fun a b => if b < a then b else a) n
noncomputable def maxI (n : Int) (ns : List Int) : Int := ns.foldl (fun a b => if b > a then b else a) n
theorem minI_is : ∀ (ns : List Int) (n : Int), minI n ns ∈ n :: ns ∧ ∀ a ∈ n :: ns, minI n ns ≤ a
  | [], n => ⟨by simp [minI], fun a h => by simp at h; subst h; exact Int.le_refl _⟩
  | m :: r, n => by
    by_cases hmn : m < n
    · have e : minI n (m :: r) = minI m r := by unfold minI; rw [List.foldl_cons, if_pos hmn]
      rw [e]
      refine L2.o_A (minI_is r m) fun h1 h2 => ?_
      have h3 := h2 _ List.mem_cons_self
      refine ⟨List.mem_cons_of_mem _ h1, fun a ha => ?_⟩
      rcases List.mem_cons.mp ha with rfl | ha
      · omega
      · exact h2 a ha
    · have e : minI n (m :: r) = minI n r := by unfold minI; rw [List.foldl_cons, if_neg hmn]
      rw [e]
      refine L2.o_A (minI_is r n) fun h1 h2 => ?_
      have h3 := h2 _ List.mem_cons_self
      refine ⟨?_, fun a ha => ?_⟩
      · rcases List.mem_cons.mp h1 with h1 | h1
        · rw [h1]; exact List.mem_cons_self
        · exact List.mem_cons_of_mem _ (List.mem_cons_of_mem _ h1)
      · rcases List.mem_cons.mp ha with rfl | ha
        · exact h3
        · rcases List.mem_cons.mp ha with rfl | ha
          · omega
          · exact h2 a (List.mem_cons_of_mem _ ha)
theorem maxI_is : ∀ (ns : List Int) (n : Int), maxI n ns ∈ n :: ns ∧ ∀ a ∈ n :: ns, a ≤ maxI n ns
  | [], n => ⟨by simp [maxI], fun a h => by simp at h; subst h; exact Int.le_refl _⟩
  | m :: r, n => by
    by_cases hmn : m > n
    · have e : maxI n (m :: r) = maxI m r := by unfold maxI; rw [List.foldl_cons, if_pos hmn]
      rw [e]
      refine L2.o_A (maxI_is r m) fun h1 h2 => ?_
      have h3 := h2 _ List.mem_cons_self
      refine ⟨List.mem_cons_of_mem _ h1, fun a ha => ?_⟩
      rcases List.mem_cons.mp ha with rfl | ha
      · omega
      · exact h2 a ha
    · have e : maxI n (m :: r) = maxI n r := by unfold maxI; rw [List.foldl_cons, if_neg hmn]
      rw [e]
      refine L2.o_A (maxI_is r n) fun h1 h2 => ?_
      have h3 := h2 _ List.mem_cons_self
      refine ⟨?_, fun a ha => ?_⟩
      · rcases List.mem_cons.mp h1 with h1 | h1
        · rw [h1]; exact List.mem_cons_self
        · exact List.mem_cons_of_mem _ (List.mem_cons_of_mem _ h1)
      · rcases List.mem_cons.mp ha with rfl | ha
        · exact h3
        · rcases List.mem_cons.mp ha with rfl | ha
          · omega
          · exact h2 a (List.mem_cons_of_mem _ ha)
noncomputable def minLD : PyData → Option PyData
  | .list ds => (intsO ds).bind fun ns => match ns with | [] => none | n :: r => some (.int (minI n r))
  | _ => none
noncomputable def maxLD : PyData → Option PyData
  | .list ds => (intsO ds).bind fun ns => match ns with | [] => none | n :: r => some (.int (maxI n r))
  | _ => none
section
variable {a : Expr} {fa : Rho → Option PyData} {pos p : Pos}
theorem call_minL (hc : X.calm = true) : CallR X (.builtin "min") (fun xs H Q => ∃ (a : Addr) (n : Int) (ns : List Int), xs = [.ref a] ∧ SqL X.K H a ((n :: ns).map V.int) ∧ Q (.int (minI n ns)) H) := by
  intro pins s σ H xs us Q I r h
  revert h
  refine fun zqq => L2.o_EEEAA zqq fun q n ns zq3 hq k => ?_
  clear zqq
  subst zq3
  refine L2.o_EA (vals1 r) fun u zq1 rx => ?_
  subst zq1
  cases rx
  refine L2.o_EAA (I.list hq) fun its r' pl hz => ?_
  have hI := intsAre_of r'
  refine L2.o_E (hI.allInts.items) fun zs e => ?_
  have hns : n :: ns = zs.toList.map (·.1) := by
    rw [← hI.numsOf, ← nums_intItems, ← e]
  have hsz : 0 < zs.size := by
    have h3 : (n :: ns).length = (zs.toList.map (·.1)).length := by rw [hns]
    rw [List.length_map] at h3; simp at h3; omega
  have hl := pl.isList
  rw [e] at hl
  refine min_intList (I.ok.hd hc) hl hsz fun v h' tk hv hk => ?_
  refine L2.o_E (intItems_at hv) fun t zq1 => ?_
  subst zq1
  refine L2.o_A (argBest_lt (numAt zs) (zs.size - 1)) fun h1 h2 => ?_
  refine L2.o_A (minI_is ns n) fun g1 g2 => ?_
  have a1 : numAt zs (argBest (fun i j => decide (numAt zs i < numAt zs j)) (zs.size - 1)) ∈ n :: ns := by rw [hns, numAt_eq]; exact getD_mem (by rw [List.length_map, Array.length_toList]; omega)
  have a2 := g2 _ a1
  rw [hns] at g1
  refine L2.o_EA (mem_getD g1) fun j hj ej => ?_
  rw [List.length_map, Array.length_toList] at hj
  rw [← numAt_eq] at ej
  have a3 := h2 j (by omega)
  have a4 : numAt zs (argBest (fun i j => decide (numAt zs i < numAt zs j)) (zs.size - 1)) = minI n ns := by rw [← ej] at a2 ⊢; omega
  rw [a4]
  exact ⟨.int _, H, I.kept (t' := tk) hk, ⟨t, rfl⟩, k⟩
theorem v_minL (hc : X.calm = true) (hg : Gl X "min") (hm : X.mg "min" = none) (ha : PR X O a fa) (he : starEach [a] X.env = (false, eval a X.env) :: starEach [] X.env := by rfl) (hpl : (backTo pos (starEach [] X.env)).any (·.1) = false := by rfl)
    (hv : bootBuiltins "min" = some (.builtin "min") := by decide +kernel) : PV X O (.Call (.Name "min" p) [a] [] pos) (fun ρ => (fa ρ).bind minLD) :=
  (pe_callB (call_minL hc) hg hm hv (pa_cons ha pa_nil he) (by decide) (by decide) he hpl).imp fun σ H Q zpat => by
    obtain ⟨hid, H0, ρ, ow, r, E, hf, k⟩ := zpat
    obtain ⟨d, h1, h2⟩ := bind_some hf
    refine ⟨hid, H0, ρ, ow, d, E, h1, fun x H1 s1 D1 => ?_⟩
    unfold minLD at h2
    split at h2
    case h_2 => cases h2
    obtain ⟨ns, h3, h4⟩ := bind_some h2
    cases ns with
    | nil => cases h4
    | cons n ns =>
      cases h4
      have e := intsO_some h3
      subst e
      obtain ⟨q, vs, rfl, q1, r1⟩ := den_lst D1
      have e2 := r1.isInts
      subst e2
      exact L2.i_EEEAA (q) (n) (ns) (rfl) ((del_same _ _).seq q1) (k _ H1 s1 (.int _))
theorem call_maxL (hc : X.calm = true) : CallR X (.builtin "max") (fun xs H Q => ∃ (a : Addr) (n : Int) (ns : List Int), xs = [.ref a] ∧ SqL X.K H a ((n :: ns).map V.int) ∧ Q (.int (maxI n ns)) H) := by
  intro pins s σ H xs us Q I r h
  revert h
  refine fun zqq => L2.o_EEEAA zqq fun q n ns zq3 hq k => ?_
  clear zqq
  subst zq3
  refine L2.o_EA (vals1 r) fun u zq1 rx => ?_
  subst zq1
  cases rx
  refine L2.o_EAA (I.list hq) fun its r' pl hz => ?_
  have hI := intsAre_of r'
  refine L2.o_E (hI.allInts.items) fun zs e => ?_
  have hns : n :: ns = zs.toList.map (·.1) := by
    rw [← hI.numsOf, ← nums_intItems, ← e]
  have hsz : 0 < zs.size := by
    have h3 : (n :: ns).length = (zs.toList.map (·.1)).length := by rw [hns]
    rw [List.length_map] at h3; simp at h3; omega
  have hl := pl.isList
  rw [e] at hl
  refine max_intList (I.ok.hd hc) hl hsz fun v h' tk hv hk => ?_
  refine L2.o_E (intItems_at hv) fun t zq1 => ?_
  subst zq1
  refine L2.o_A (argBest_gt (numAt zs) (zs.size - 1)) fun h1 h2 => ?_
  refine L2.o_A (maxI_is ns n) fun g1 g2 => ?_
  have a1 : numAt zs (argBest (fun i j => decide (numAt zs i > numAt zs j)) (zs.size - 1)) ∈ n :: ns := by rw [hns, numAt_eq]; exact getD_mem (by rw [List.length_map, Array.length_toList]; omega)
  have a2 := g2 _ a1
  rw [hns] at g1
  refine L2.o_EA (mem_getD g1) fun j hj ej => ?_
  rw [List.length_map, Array.length_toList] at hj
  rw [← numAt_eq] at ej
  have a3 := h2 j (by omega)
  have a4 : numAt zs (argBest (fun i j => decide (numAt zs i > numAt zs j)) (zs.size - 1)) = maxI n ns := by rw [← ej] at a2 ⊢; omega
  rw [a4]
  exact ⟨.int _, H, I.kept (t' := tk) hk, ⟨t, rfl⟩, k⟩
theorem v_maxL (hc : X.calm = true) (hg : Gl X "max") (hm : X.mg "max" = none) (ha : PR X O a fa) (he : starEach [a] X.env = (false, eval a X.env) :: starEach [] X.env := by rfl) (hpl : (backTo pos (starEach [] X.env)).any (·.1) = false := by rfl)
    (hv : bootBuiltins "max" = some (.builtin "max") := by decide +kernel) : PV X O (.Call (.Name "max" p) [a] [] pos) (fun ρ => (fa ρ).bind maxLD) :=
  (pe_callB (call_maxL hc) hg hm hv (pa_cons ha pa_nil he) (by decide) (by decide) he hpl).imp fun σ H Q zpat => by
    obtain ⟨hid, H0, ρ, ow, r, E, hf, k⟩ := zpat
    obtain ⟨d, h1, h2⟩ := bind_some hf
    refine ⟨hid, H0, ρ, ow, d, E, h1, fun x H1 s1 D1 => ?_⟩
    unfold maxLD at h2
    split at h2
    case h_2 => cases h2
    obtain ⟨ns, h3, h4⟩ := bind_some h2
    cases ns with
    | nil => cases h4
    | cons n ns =>
      cases h4
      have e := intsO_some h3
      subst e
      obtain ⟨q, vs, rfl, q1, r1⟩ := den_lst D1
      have e2 := r1.isInts
      subst e2
      exact L2.i_EEEAA (q) (n) (ns) (rfl) ((del_same _ _).seq q1) (k _ H1 s1 (.int _))
end
end
end L2
namespace L2
open PySem PySem.Spec PyProof.Rows
variable [Reg]
section
variable {X : Cx} {O : Ow} {e : Expr} {pos : Pos}
end
end L2
namespace NW
open PySem PySem.Spec PyProof.Rows L2
noncomputable def top (i : Nat) : Stmt := PySem.Challenge.pw_nearposts_k33_whole_squares_turned.main.body.getD i (.Pass ⟨0, 0, 0, 0⟩)
noncomputable abbrev s_l_mix : Stmt := top 33
noncomputable abbrev s_l_cell_at : Stmt := top 32
noncomputable abbrev s_l_plane : Stmt := top 39
noncomputable abbrev s_p_check_many : Stmt := top 19
noncomputable abbrev s_p_check_one_or_two : Stmt := top 21
noncomputable abbrev s_p_common_divisor : Stmt := top 16
noncomputable abbrev s_p_fraction_of : Stmt := top 17
noncomputable abbrev s_p_opposite_corners : Stmt := top 23
noncomputable abbrev s_p_side_between : Stmt := top 22
noncomputable abbrev s_p_side_of_two : Stmt := top 24
noncomputable abbrev s_p_best_corners : Stmt := top 25
noncomputable abbrev s_p_least_side : Stmt := top 26
noncomputable abbrev s_p_square_least : Stmt := top 27
noncomputable abbrev s_l_less : Stmt := top 36
noncomputable abbrev s_l_shared : Stmt := top 34
noncomputable abbrev s_l_lowest : Stmt := top 35
noncomputable abbrev s_l_class : Stmt := top 42
noncomputable abbrev s_p_square_posts : Stmt := top 30
noncomputable abbrev s_l_caught : Stmt := top 43
noncomputable abbrev s_law : Stmt := top 44
noncomputable def lam_p_best_corners_L0 : Lam := ⟨(("best_corners" : Str) ++ ".<locals>.") ++ "<lambda>", (lamOf (stExpr ((defBody s_p_best_corners).getD 0 (.Pass ⟨0, 0, 0, 0⟩)))).1, (lamOf (stExpr ((defBody s_p_best_corners).getD 0 (.Pass ⟨0, 0, 0, 0⟩)))).2.1, (lamOf (stExpr ((defBody s_p_best_corners).getD 0 (.Pass ⟨0, 0, 0, 0⟩)))).2.2, ["corners"], ["folk"]⟩
noncomputable def lamTab : List (Str × Lam) := [("best_corners@0", lam_p_best_corners_L0)]
noncomputable instance : Reg := ⟨fun t => lamTab.lookup t⟩
noncomputable def exNames : List Str := ["NoMany"]
noncomputable def B_l_mix : Rho → Option Out := seqF (fun ρ => condO (testD (bind2 ((ρ[0]?).join) (bind2 (some (.int 10)) (some (.int 18)) powD) geD)) ((bind2 ((ρ[0]?).join) (bind2 (some (.int 10)) (some (.int 18)) powD) subD).map .rt) (some (.nx ρ))) (seqF (fun ρ => setO 2 ρ (bind2 ((ρ[0]?).join) (bind2 (some (.int 10)) (some (.int 60)) powD) modD)) (seqF (fun ρ => setO 2 ρ (bind2 (bind2 (bind2 (bind2 (bind2 ((ρ[2]?).join) ((ρ[2]?).join) mulD) (bind2 (bind2 (some (.int 40503)) ((ρ[1]?).join) mulD) ((ρ[1]?).join) mulD) addD) (some (.int 7919)) addD) (some (.int 1812433253982451697)) mulD) (bind2 (bind2 (some (.int 10)) (some (.int 18)) powD) (some (.int 9)) addD) modD)) (fun ρ => (bind2 (bind2 (bind2 (bind2 ((ρ[2]?).join) ((ρ[2]?).join) mulD) ((ρ[1]?).join) addD) (some (.int 739108512309184756019283746561)) mulD) (bind2 (bind2 (some (.int 10)) (some (.int 40)) powD) (some (.int 121)) addD) modD).map .rt)))
noncomputable def F_l_mix : List PyData → Option PyData := runD 2 1 B_l_mix
noncomputable def B_l_cell_at : Rho → Option Out := seqF (fun ρ => condO (testD (bind2 ((ρ[1]?).join) ((consD ((ρ[0]?).join) (some [])).bind lenD) ltD)) ((bind2 ((ρ[0]?).join) ((ρ[1]?).join) ixD).map .rt) (some (.nx ρ))) (fun ρ => (some (.int 0)).map .rt)
noncomputable def F_l_cell_at : List PyData → Option PyData := runD 2 0 B_l_cell_at
noncomputable def L_l_plane_0 : Rho → Option Out := seqF (fun ρ => setO 6 ρ ((consD ((consD ((ρ[0]?).join) (consD (bind2 (bind2 ((ρ[1]?).join) (some (.int 1)) addD) ((ρ[5]?).join) addD) (some []))).bind F_l_cell_at) (consD (some (.int 7)) (some []))).bind F_l_mix)) (seqF (fun ρ => setO 7 ρ ((bind2 ((shortL (consD (some (.int 19)) (consD (some (.int 19)) (consD (some (.int 201)) (consD (bind2 (some (.int 10)) (some (.int 19)) powD) (some [])))))).map .list) (bind2 (bind2 ((ρ[3]?).join) (some (.int 20)) fdivD) (some (.int 4)) modD) ixD).filter lf)) (seqF (fun ρ => setO 8 ρ (shortD .tuple (consD (bind2 (bind2 ((ρ[6]?).join) ((ρ[7]?).join) modD) (bind2 ((ρ[7]?).join) (some (.int 2)) fdivD) subD) (consD (bind2 (bind2 (bind2 ((ρ[6]?).join) (bind2 (some (.int 10)) (some (.int 19)) powD) fdivD) ((ρ[7]?).join) modD) (bind2 ((ρ[7]?).join) (some (.int 2)) fdivD) subD) (some []))))) (seqF (fun ρ => condO (andB (testD (bind2 (bind2 (bind2 ((ρ[6]?).join) (bind2 (some (.int 10)) (some (.int 38)) powD) fdivD) (some (.int 4)) modD) (some (.int 1)) eqD)) (testD (bind2 ((consD ((ρ[4]?).join) (some [])).bind lenD) (some (.int 0)) gtD))) (setO 8 ρ ((bind2 ((shortL (consD (bind2 ((ρ[4]?).join) (some (.int 0)) ixD) (consD (shortD .tuple (consD (bind2 (bind2 ((ρ[4]?).join) (some (.int 0)) ixD) (some (.int 0)) ixD) (consD (bind2 ((ρ[8]?).join) (some (.int 1)) ixD) (some [])))) (some [])))).map .list) (bind2 (bind2 ((ρ[6]?).join) (bind2 (some (.int 10)) (some (.int 39)) powD) fdivD) (some (.int 2)) modD) ixD).filter lf)) (some (.nx ρ))) (fun ρ => ((ρ[8]?).join).bind (appD 4 ρ)))))
noncomputable def B_l_plane : Rho → Option Out := seqF (fun ρ => setO 3 ρ ((consD ((consD ((ρ[0]?).join) (consD ((ρ[1]?).join) (some []))).bind F_l_cell_at) (consD ((ρ[1]?).join) (some []))).bind F_l_mix)) (seqF (fun ρ => setLO 4 ρ (shortL (some []))) (seqF (fun ρ => forO (setS 5) L_l_plane_0 ((consD (bind2 ((ρ[3]?).join) (bind2 ((ρ[2]?).join) (some (.int 1)) addD) modD) (some [])).bind rng1D) ρ) (fun ρ => ((ρ[4]?).join).map .rt)))
noncomputable def F_l_plane : List PyData → Option PyData := runD 3 6 B_l_plane
noncomputable def BX_p_check_many : Rho → Option OutX := fun ρ => condO (testD (bind2 ((ρ[0]?).join) (some (.int 1)) ltD)) (some (.ex (excD "NoMany" []) ρ)) (some (.nx ρ))
noncomputable def FX_p_check_many : List PyData → Option RX := runX 1 0 BX_p_check_many
noncomputable def BX_p_check_one_or_two : Rho → Option OutX := seqX (fun ρ => dropX ρ ((consD ((ρ[0]?).join) (some [])).bind FX_p_check_many)) (fun ρ => condO (testD (bind2 ((ρ[0]?).join) (some (.int 2)) gtD)) (some (.ex (excD "NoMany" []) ρ)) (some (.nx ρ)))
noncomputable def FX_p_check_one_or_two : List PyData → Option RX := runX 1 0 BX_p_check_one_or_two
noncomputable def W_p_common_divisor_0 : Rho → Option Bool := fun ρ => testD (bind2 ((ρ[1]?).join) (some (.int 0)) neD)
noncomputable def L_p_common_divisor_1 : Rho → Option Out := seqF (fun ρ => setO 2 ρ (bind2 ((ρ[0]?).join) ((ρ[1]?).join) modD)) (seqF (fun ρ => setO 0 ρ ((ρ[1]?).join)) (fun ρ => setO 1 ρ ((ρ[2]?).join)))
noncomputable def B_p_common_divisor : Rho → Option Out := seqF (fun ρ => whileD W_p_common_divisor_0 L_p_common_divisor_1 ((fun ρ => natAt ρ 1 + 1) ρ) ρ) (fun ρ => ((ρ[0]?).join).map .rt)
noncomputable def F_p_common_divisor : List PyData → Option PyData := runD 2 1 B_p_common_divisor
noncomputable def B_p_fraction_of : Rho → Option Out := seqF (fun ρ => setO 2 ρ ((consD ((ρ[0]?).join) (consD ((ρ[1]?).join) (some []))).bind F_p_common_divisor)) (fun ρ => (shortD .tuple (consD (bind2 ((ρ[0]?).join) ((ρ[2]?).join) fdivD) (consD (bind2 ((ρ[1]?).join) ((ρ[2]?).join) fdivD) (some [])))).map .rt)
noncomputable def F_p_fraction_of : List PyData → Option PyData := runD 2 1 B_p_fraction_of
noncomputable def E_p_opposite_corners_0 : Rho → Option PyData := fun ρ => bind2 ((ρ[0]?).join) (some (.int 0)) ixD
noncomputable def E_p_opposite_corners_1 : Rho → Option PyData := fun ρ => bind2 ((ρ[0]?).join) (some (.int 0)) ixD
noncomputable def E_p_opposite_corners_2 : Rho → Option PyData := fun ρ => bind2 ((ρ[0]?).join) (some (.int 1)) ixD
noncomputable def E_p_opposite_corners_3 : Rho → Option PyData := fun ρ => bind2 ((ρ[0]?).join) (some (.int 1)) ixD
noncomputable def B_p_opposite_corners : Rho → Option Out := seqF (fun ρ => setO 1 ρ (((compO (setS 0) (fun _ => some true) E_p_opposite_corners_0 (((ρ[0]?).join).bind listD) (frees 1 [] ρ)).map .list).bind minLD)) (seqF (fun ρ => setO 2 ρ (((compO (setS 0) (fun _ => some true) E_p_opposite_corners_1 (((ρ[0]?).join).bind listD) (frees 1 [] ρ)).map .list).bind maxLD)) (seqF (fun ρ => setO 3 ρ (((compO (setS 0) (fun _ => some true) E_p_opposite_corners_2 (((ρ[0]?).join).bind listD) (frees 1 [] ρ)).map .list).bind minLD)) (seqF (fun ρ => setO 4 ρ (((compO (setS 0) (fun _ => some true) E_p_opposite_corners_3 (((ρ[0]?).join).bind listD) (frees 1 [] ρ)).map .list).bind maxLD)) (fun ρ => ((shortL (consD (shortD .tuple (consD (shortD .tuple (consD ((ρ[1]?).join) (consD ((ρ[3]?).join) (some [])))) (consD (shortD .tuple (consD ((ρ[2]?).join) (consD ((ρ[4]?).join) (some [])))) (some [])))) (consD (shortD .tuple (consD (shortD .tuple (consD ((ρ[1]?).join) (consD ((ρ[4]?).join) (some [])))) (consD (shortD .tuple (consD ((ρ[2]?).join) (consD ((ρ[3]?).join) (some [])))) (some [])))) (some [])))).map .list).map .rt))))
noncomputable def F_p_opposite_corners : List PyData → Option PyData := runD 1 4 B_p_opposite_corners
noncomputable def B_p_side_between : Rho → Option Out := fun ρ => ((consD ((consD (bind2 (bind2 ((ρ[0]?).join) (some (.int 0)) ixD) (bind2 ((ρ[1]?).join) (some (.int 0)) ixD) subD) (some [])).bind absD) (consD ((consD (bind2 (bind2 ((ρ[0]?).join) (some (.int 1)) ixD) (bind2 ((ρ[1]?).join) (some (.int 1)) ixD) subD) (some [])).bind absD) (some []))).bind maxD).map .rt
noncomputable def F_p_side_between : List PyData → Option PyData := runD 2 0 B_p_side_between
noncomputable def E_p_side_of_two_0 : Rho → Option PyData := fun ρ => (consD ((consD ((ρ[0]?).join) (consD (bind2 ((ρ[1]?).join) (some (.int 0)) ixD) (some []))).bind F_p_side_between) (consD ((consD ((ρ[0]?).join) (consD (bind2 ((ρ[1]?).join) (some (.int 1)) ixD) (some []))).bind F_p_side_between) (some []))).bind minD
noncomputable def B_p_side_of_two : Rho → Option Out := fun ρ => (((compO (setS 0) (fun _ => some true) E_p_side_of_two_0 (((ρ[0]?).join).bind listD) (frees 1 [1] ρ)).map .list).bind maxLD).map .rt
noncomputable def F_p_side_of_two : List PyData → Option PyData := runD 2 0 B_p_side_of_two
noncomputable def E_p_best_corners_L0 : Rho → Option PyData := fun ρ => (consD ((ρ[1]?).join) (consD ((ρ[0]?).join) (some []))).bind F_p_side_of_two
noncomputable def F_p_best_corners_L0 : List PyData → Option PyData := runL 2 E_p_best_corners_L0
noncomputable def B_p_best_corners : Rho → Option Out := fun ρ => ((capsD [0] ρ).bind fun cs => ((consD ((ρ[0]?).join) (some [])).bind F_p_opposite_corners).bind fun d => minKD (fun z => F_p_best_corners_L0 ([z] ++ cs)) d).map .rt
noncomputable def F_p_best_corners : List PyData → Option PyData := runD 1 0 B_p_best_corners
noncomputable def B_p_least_side : Rho → Option Out := seqF (fun ρ => condO (testD (bind2 ((consD ((ρ[0]?).join) (some [])).bind lenD) (some (.int 0)) eqD)) ((some (.int 0)).map .rt) (some (.nx ρ))) (seqF (fun ρ => setO 2 ρ ((consD ((ρ[0]?).join) (some [])).bind F_p_best_corners)) (seqF (fun ρ => condO (testD (bind2 ((ρ[1]?).join) (some (.int 1)) eqD)) (((consD (bind2 ((ρ[2]?).join) (some (.int 0)) ixD) (consD (bind2 ((ρ[2]?).join) (some (.int 1)) ixD) (some []))).bind F_p_side_between).map .rt) (some (.nx ρ))) (fun ρ => ((consD ((ρ[0]?).join) (consD ((ρ[2]?).join) (some []))).bind F_p_side_of_two).map .rt)))
noncomputable def F_p_least_side : List PyData → Option PyData := runD 2 1 B_p_least_side
noncomputable def BX_p_square_least : Rho → Option OutX := seqX (fun ρ => dropX ρ ((consD ((ρ[1]?).join) (some [])).bind FX_p_check_one_or_two)) (fun ρ => (((consD ((consD ((ρ[0]?).join) (consD ((ρ[1]?).join) (some []))).bind F_p_least_side) (consD (some (.int 2)) (some []))).bind F_p_fraction_of).map .rt).map Out.x)
noncomputable def FX_p_square_least : List PyData → Option RX := runX 2 0 BX_p_square_least
noncomputable def F_p_square_least : List PyData → Option PyData := pureX FX_p_square_least
noncomputable def B_l_less : Rho → Option Out := fun ρ => (bind2 (bind2 (bind2 ((ρ[0]?).join) (some (.int 0)) ixD) (bind2 ((ρ[1]?).join) (some (.int 1)) ixD) mulD) (bind2 (bind2 ((ρ[1]?).join) (some (.int 0)) ixD) (bind2 ((ρ[0]?).join) (some (.int 1)) ixD) mulD) ltD).map .rt
noncomputable def F_l_less : List PyData → Option PyData := runD 2 0 B_l_less
noncomputable def W_l_shared_0 : Rho → Option Bool := fun ρ => testD (bind2 ((ρ[1]?).join) (some (.int 0)) neD)
noncomputable def L_l_shared_1 : Rho → Option Out := fun ρ => (consD ((ρ[1]?).join) (consD (bind2 ((ρ[0]?).join) ((ρ[1]?).join) modD) (some []))).bind (pairS 0 1 ρ)
noncomputable def B_l_shared : Rho → Option Out := seqF (fun ρ => whileD W_l_shared_0 L_l_shared_1 ((fun ρ => natAt ρ 1 + 1) ρ) ρ) (fun ρ => ((consD ((ρ[0]?).join) (some [])).bind absD).map .rt)
noncomputable def F_l_shared : List PyData → Option PyData := runD 2 0 B_l_shared
noncomputable def B_l_lowest : Rho → Option Out := seqF (fun ρ => setO 2 ρ ((consD ((ρ[0]?).join) (consD ((ρ[1]?).join) (some []))).bind F_l_shared)) (fun ρ => (shortD .tuple (consD (bind2 ((ρ[0]?).join) ((ρ[2]?).join) fdivD) (consD (bind2 ((ρ[1]?).join) ((ρ[2]?).join) fdivD) (some [])))).map .rt)
noncomputable def F_l_lowest : List PyData → Option PyData := runD 2 1 B_l_lowest
noncomputable def E_l_class_0 : Rho → Option PyData := fun ρ => (consD ((ρ[0]?).join) (some [])).bind intD
noncomputable def B_l_class : Rho → Option Out := seqF (fun ρ => setO 1 ρ ((shortL (consD (((ρ[0]?).join).bind (isC exNames "NoFolk")) (consD (((ρ[0]?).join).bind (isC exNames "NoLine")) (consD (((ρ[0]?).join).bind (isC exNames "NoMany")) (consD (((ρ[0]?).join).bind (isC exNames "NoName")) (some [])))))).map .list)) (seqF (fun ρ => setO 1 ρ ((catL ((ρ[1]?).join) ((shortL (consD (((ρ[0]?).join).bind (isC exNames "NoPost")) (consD (((ρ[0]?).join).bind (isC exNames "NoPosts")) (consD (((ρ[0]?).join).bind (isC exNames "NoReach")) (some []))))).map .list)).map .list)) (seqF (fun ρ => setO 1 ρ ((catL ((ρ[1]?).join) ((shortL (consD (((ρ[0]?).join).bind (isC exNames "NoRing")) (consD (((ρ[0]?).join).bind (isC exNames "NoTable")) (consD (((ρ[0]?).join).bind (isC exNames "NoText")) (some []))))).map .list)).map .list)) (seqF (fun ρ => setO 1 ρ ((catL ((ρ[1]?).join) ((shortL (consD (((ρ[0]?).join).bind (isC exNames "NoThing")) (consD (((ρ[0]?).join).bind (isC exNames "NoWay")) (consD (((ρ[0]?).join).bind (isC exNames "NoWord")) (some []))))).map .list)).map .list)) (seqF (fun ρ => condO (orB ((testD (((ρ[0]?).join).bind (isC exNames "PostError"))).map not) (orB ((testD (((ρ[0]?).join).bind (isC exNames "ValueError"))).map not) (testD (bind2 (((compO (setS 0) (fun _ => some true) E_l_class_0 (((ρ[1]?).join).bind listD) (frees 1 [] ρ)).map .list).bind sumD) (some (.int 1)) neD)))) ((some (.str (Str.ofString ""))).map .rt) (some (.nx ρ))) (seqF (fun ρ => setO 2 ρ ((shortL (consD (some (.str (Str.ofString "NoFolk"))) (consD (some (.str (Str.ofString "NoLine"))) (consD (some (.str (Str.ofString "NoMany"))) (consD (some (.str (Str.ofString "NoName"))) (consD (some (.str (Str.ofString "NoPost"))) (consD (some (.str (Str.ofString "NoPosts"))) (consD (some (.str (Str.ofString "NoReach"))) (consD (some (.str (Str.ofString "NoRing"))) (consD (some (.str (Str.ofString "NoTable"))) (consD (some (.str (Str.ofString "NoText"))) (some [])))))))))))).map .list)) (fun ρ => (bind2 ((catL ((ρ[2]?).join) ((shortL (consD (some (.str (Str.ofString "NoThing"))) (consD (some (.str (Str.ofString "NoWay"))) (consD (some (.str (Str.ofString "NoWord"))) (some []))))).map .list)).map .list) (bind2 ((ρ[1]?).join) (some (.bool true)) indexD) ixD).map .rt))))))
noncomputable def F_l_class : List PyData → Option PyData := runD 1 2 B_l_class
noncomputable def BX_p_square_posts : Rho → Option OutX := seqX (fun ρ => dropX ρ ((consD ((ρ[1]?).join) (some [])).bind FX_p_check_one_or_two)) (fun ρ => ((fun _ => none : Rho → Option Out) ρ).map Out.x)
noncomputable def FX_p_square_posts : List PyData → Option RX := runX 2 3 BX_p_square_posts
noncomputable def H_l_caught_0 : Rho → Option Out := fun ρ => setO 3 ρ ((ρ[4]?).join)
noncomputable def B_l_caught : Rho → Option Out := seqF (fun ρ => setO 3 ρ (some .none)) (seqF (fun ρ => tryF 4 exNames H_l_caught_0 (condO (testD ((ρ[2]?).join)) (dropX ρ ((consD ((ρ[0]?).join) (consD ((ρ[1]?).join) (some []))).bind FX_p_square_posts)) (dropX ρ ((consD ((ρ[0]?).join) (consD ((ρ[1]?).join) (some []))).bind FX_p_square_least)))) (fun ρ => ((ρ[3]?).join).map .rt))
noncomputable def F_l_caught : List PyData → Option PyData := runD 3 2 B_l_caught
noncomputable def E_law_0 : Rho → Option PyData := fun ρ => shortD .tuple (consD (bind2 ((ρ[0]?).join) (bind2 ((ρ[2]?).join) (some (.int 0)) ixD) addD) (consD (bind2 ((ρ[1]?).join) (bind2 ((ρ[2]?).join) (some (.int 1)) ixD) subD) (some [])))
noncomputable def E_law_1 : Rho → Option PyData := fun ρ => shortD .tuple (consD ((ρ[1]?).join) (consD (bind2 (some (.int 0)) ((ρ[0]?).join) subD) (some [])))
noncomputable def E_law_2 : Rho → Option PyData := fun ρ => shortD .tuple (consD (bind2 ((ρ[0]?).join) ((ρ[2]?).join) mulD) (consD (bind2 ((ρ[1]?).join) ((ρ[2]?).join) mulD) (some [])))
noncomputable def E_law_3 : Rho → Option PyData := fun ρ => (consD ((consD ((ρ[1]?).join) (consD ((ρ[2]?).join) (consD ((ρ[0]?).join) (some [])))).bind F_l_caught) (some [])).bind F_l_class
noncomputable def B_law : Rho → Option Out := seqF (fun ρ => setO 1 ρ ((consD ((ρ[0]?).join) (consD (some (.int 0)) (consD (some (.int 7)) (some [])))).bind F_l_plane)) (seqF (fun ρ => setO 2 ρ ((consD ((consD ((ρ[0]?).join) (consD (some (.int 9)) (some []))).bind F_l_cell_at) (consD (some (.int 1)) (some []))).bind F_l_mix)) (seqF (fun ρ => setO 3 ρ (bind2 (some (.int 1)) (bind2 ((ρ[2]?).join) (some (.int 2)) modD) addD)) (seqF (fun ρ => setO 4 ρ (shortD .tuple (consD (bind2 (bind2 (bind2 ((ρ[2]?).join) (some (.int 2)) fdivD) (some (.int 2001)) modD) (some (.int 1000)) subD) (consD (bind2 (bind2 ((ρ[2]?).join) (some (.int 5000)) fdivD) (bind2 (some (.int 10)) (some (.int 20)) powD) modD) (some []))))) (seqF (fun ρ => setO 5 ρ (bind2 (some (.int 1)) (bind2 (bind2 ((ρ[2]?).join) (bind2 (some (.int 10)) (some (.int 25)) powD) fdivD) (some (.int 30)) modD) addD)) (seqF (fun ρ => setO 6 ρ ((consD ((ρ[1]?).join) (consD ((ρ[3]?).join) (some []))).bind F_p_square_least)) (seqF (fun ρ => condO (testD (bind2 ((consD ((compO (tupS 2 (consS (setS 0) (consS (setS 1) (nilS)))) (fun _ => some true) E_law_0 (((ρ[1]?).join).bind listD) (frees 2 [4] ρ)).map .list) (consD ((ρ[3]?).join) (some []))).bind F_p_square_least) ((ρ[6]?).join) neD)) ((some (.bool false)).map .rt) (some (.nx ρ))) (seqF (fun ρ => condO (testD (bind2 ((consD ((compO (tupS 2 (consS (setS 0) (consS (setS 1) (nilS)))) (fun _ => some true) E_law_1 (((((ρ[1]?).join).bind revD).map .list).bind listD) (frees 2 [] ρ)).map .list) (consD ((ρ[3]?).join) (some []))).bind F_p_square_least) ((ρ[6]?).join) neD)) ((some (.bool false)).map .rt) (some (.nx ρ))) (seqF (fun ρ => condO (testD (bind2 ((consD ((compO (tupS 2 (consS (setS 0) (consS (setS 1) (nilS)))) (fun _ => some true) E_law_2 (((ρ[1]?).join).bind listD) (frees 2 [5] ρ)).map .list) (consD ((ρ[3]?).join) (some []))).bind F_p_square_least) ((consD (bind2 (bind2 ((ρ[6]?).join) (some (.int 0)) ixD) ((ρ[5]?).join) mulD) (consD (bind2 ((ρ[6]?).join) (some (.int 1)) ixD) (some []))).bind F_l_lowest) neD)) ((some (.bool false)).map .rt) (some (.nx ρ))) (seqF (fun ρ => condO (testD ((consD ((consD ((ρ[1]?).join) (consD (some (.int 1)) (some []))).bind F_p_square_least) (consD ((consD ((ρ[1]?).join) (consD (some (.int 2)) (some []))).bind F_p_square_least) (some []))).bind F_l_less)) ((some (.bool false)).map .rt) (some (.nx ρ))) (seqF (fun ρ => setO 7 ρ (bind2 ((shortL (consD (some (.int 0)) (consD (some (.int 3)) (consD (bind2 ((some (.int 1)).bind negD) (bind2 ((ρ[4]?).join) (some (.int 1)) ixD) subD) (consD (bind2 (some (.int 3)) (bind2 ((ρ[4]?).join) (some (.int 1)) ixD) addD) (some [])))))).map .list) (bind2 (bind2 ((ρ[2]?).join) (bind2 (some (.int 10)) (some (.int 28)) powD) fdivD) (some (.int 4)) modD) ixD)) (fun ρ => (bind2 ((compO (setS 0) (fun _ => some true) E_law_3 (((shortL (consD (some (.bool true)) (consD (some (.bool false)) (some [])))).map .list).bind listD) (frees 1 [1, 7] ρ)).map .list) ((shortL (consD (some (.str (Str.ofString "NoMany"))) (consD (some (.str (Str.ofString "NoMany"))) (some [])))).map .list) eqD).map .rt)))))))))))
noncomputable def F_law : List PyData → Option PyData := runD 1 7 B_law
end NW
namespace NW
open PySem PySem.Spec PyProof.Rows L2
theorem less_eq (p q : Int × Int) (h1 : bd p.1 500) (h2 : bd p.2 500) (h3 : bd q.1 500) (h4 : bd q.2 500) : F_l_less [encP p, encP q] = some (.bool (decide (p.1 * q.2 < q.1 * p.2))) := by
  rw [F_l_less]
  try simp only [runD, seqF_def, thenO_nx, thenO_rt, List.length_cons, List.length_nil, Nat.reduceAdd, reduceIte, List.map_cons, List.map_nil, List.reduceReplicate, List.append_nil, List.nil_append, List.cons_append, List.getElem?_cons_zero, List.getElem?_cons_succ, List.set_cons_zero, List.set_cons_succ, Option.join_some, Option.bind_some, Option.map_some, Option.filter_some, consD_ss, testD_s, condO_t, condO_f, andB_t, andB_f, orB_t, orB_f, andV_t, andV_f, orV_t, orV_f, notV_s, setO_s, setLO_s, dropO_s, forO_s, asgO_s, bind2_ss, addD_ok, subD_ok, ltD_ok, leD_ok, gtD_ok, geD_ok, eqD_int, neD_int, ix_pair0, ix_pair1, setS, negD, lenD_l, lenD_t, listD_l, tupD_t, seqD_l, short2, shortL0, shortL1, shortL2, shortL3, shortL4, outD_rt, outD_nx, Bool.not_true, Bool.not_false]
  simp only [B_l_less, encP]
  try simp only [runD, seqF_def, thenO_nx, thenO_rt, List.length_cons, List.length_nil, Nat.reduceAdd, reduceIte, List.map_cons, List.map_nil, List.reduceReplicate, List.append_nil, List.nil_append, List.cons_append, List.getElem?_cons_zero, List.getElem?_cons_succ, List.set_cons_zero, List.set_cons_succ, Option.join_some, Option.bind_some, Option.map_some, Option.filter_some, consD_ss, testD_s, condO_t, condO_f, andB_t, andB_f, orB_t, orB_f, andV_t, andV_f, orV_t, orV_f, notV_s, setO_s, setLO_s, dropO_s, forO_s, asgO_s, bind2_ss, addD_ok, subD_ok, ltD_ok, leD_ok, gtD_ok, geD_ok, eqD_int, neD_int, ix_pair0, ix_pair1, setS, negD, lenD_l, lenD_t, listD_l, tupD_t, seqD_l, short2, shortL0, shortL1, shortL2, shortL3, shortL4, outD_rt, outD_nx, Bool.not_true, Bool.not_false]
  simp only [mulD_ok (h1.big (by decide)) (h4.big (by decide)), mulD_ok (h3.big (by decide)) (h2.big (by decide))]
  try simp only [runD, seqF_def, thenO_nx, thenO_rt, List.length_cons, List.length_nil, Nat.reduceAdd, reduceIte, List.map_cons, List.map_nil, List.reduceReplicate, List.append_nil, List.nil_append, List.cons_append, List.getElem?_cons_zero, List.getElem?_cons_succ, List.set_cons_zero, List.set_cons_succ, Option.join_some, Option.bind_some, Option.map_some, Option.filter_some, consD_ss, testD_s, condO_t, condO_f, andB_t, andB_f, orB_t, orB_f, andV_t, andV_f, orV_t, orV_f, notV_s, setO_s, setLO_s, dropO_s, forO_s, asgO_s, bind2_ss, addD_ok, subD_ok, ltD_ok, leD_ok, gtD_ok, geD_ok, eqD_int, neD_int, ix_pair0, ix_pair1, setS, negD, lenD_l, lenD_t, listD_l, tupD_t, seqD_l, short2, shortL0, shortL1, shortL2, shortL3, shortL4, outD_rt, outD_nx, Bool.not_true, Bool.not_false]
theorem cd_loop : ∀ (n : Nat) (a b : Int) (c : Option PyData), 0 ≤ b → b.natAbs < n → ∃ c', whileD W_p_common_divisor_0 L_p_common_divisor_1 n [some (.int a), some (.int b), c] = some (.nx [some (.int (if b = 0 then a else (Int.gcd a b : Int))), some (.int 0), c'])
  | 0, a, b, c, _, h => by omega
  | n + 1, a, b, c, h0, h => by
    by_cases hb : b = 0
    · subst hb
      refine ⟨c, ?_⟩
      have e1 : W_p_common_divisor_0 [some (.int a), some (.int 0), c] = some false := rfl
      rw [whileD, e1]
      rfl
    · have hp : 0 < b := by omega
      have hm : 0 ≤ a % b := Int.emod_nonneg a hb
      have hl : a % b < b := Int.emod_lt_of_pos a hp
      obtain ⟨c', e⟩ := cd_loop n b (a % b) (some (.int (a % b))) hm (by omega)
      refine ⟨c', ?_⟩
      have hbb : (b == 0) = false := by simpa using hb
      have e1 : W_p_common_divisor_0 [some (.int a), some (.int b), c] = some true := by simp only [W_p_common_divisor_0]; try simp only [runD, seqF_def, thenO_nx, thenO_rt, List.length_cons, List.length_nil, Nat.reduceAdd, reduceIte, List.map_cons, List.map_nil, List.reduceReplicate, List.append_nil, List.nil_append, List.cons_append, List.getElem?_cons_zero, List.getElem?_cons_succ, List.set_cons_zero, List.set_cons_succ, Option.join_some, Option.bind_some, Option.map_some, Option.filter_some, consD_ss, testD_s, condO_t, condO_f, andB_t, andB_f, orB_t, orB_f, andV_t, andV_f, orV_t, orV_f, notV_s, setO_s, setLO_s, dropO_s, forO_s, asgO_s, bind2_ss, addD_ok, subD_ok, ltD_ok, leD_ok, gtD_ok, geD_ok, eqD_int, neD_int, ix_pair0, ix_pair1, setS, negD, lenD_l, lenD_t, listD_l, tupD_t, seqD_l, short2, shortL0, shortL1, shortL2, shortL3, shortL4, outD_rt, outD_nx, Bool.not_true, Bool.not_false]; simp only [hbb]; rfl
      have e2 : L_p_common_divisor_1 [some (.int a), some (.int b), c] = some (.nx [some (.int b), some (.int (a % b)), some (.int (a % b))]) := by
        simp only [L_p_common_divisor_1]; try simp only [runD, seqF_def, thenO_nx, thenO_rt, List.length_cons, List.length_nil, Nat.reduceAdd, reduceIte, List.map_cons, List.map_nil, List.reduceReplicate, List.append_nil, List.nil_append, List.cons_append, List.getElem?_cons_zero, List.getElem?_cons_succ, List.set_cons_zero, List.set_cons_succ, Option.join_some, Option.bind_some, Option.map_some, Option.filter_some, consD_ss, testD_s, condO_t, condO_f, andB_t, andB_f, orB_t, orB_f, andV_t, andV_f, orV_t, orV_f, notV_s, setO_s, setLO_s, dropO_s, forO_s, asgO_s, bind2_ss, addD_ok, subD_ok, ltD_ok, leD_ok, gtD_ok, geD_ok, eqD_int, neD_int, ix_pair0, ix_pair1, setS, negD, lenD_l, lenD_t, listD_l, tupD_t, seqD_l, short2, shortL0, shortL1, shortL2, shortL3, shortL4, outD_rt, outD_nx, Bool.not_true, Bool.not_false]; simp only [modD_ok hp]; try simp only [runD, seqF_def, thenO_nx, thenO_rt, List.length_cons, List.length_nil, Nat.reduceAdd, reduceIte, List.map_cons, List.map_nil, List.reduceReplicate, List.append_nil, List.nil_append, List.cons_append, List.getElem?_cons_zero, List.getElem?_cons_succ, List.set_cons_zero, List.set_cons_succ, Option.join_some, Option.bind_some, Option.map_some, Option.filter_some, consD_ss, testD_s, condO_t, condO_f, andB_t, andB_f, orB_t, orB_f, andV_t, andV_f, orV_t, orV_f, notV_s, setO_s, setLO_s, dropO_s, forO_s, asgO_s, bind2_ss, addD_ok, subD_ok, ltD_ok, leD_ok, gtD_ok, geD_ok, eqD_int, neD_int, ix_pair0, ix_pair1, setS, negD, lenD_l, lenD_t, listD_l, tupD_t, seqD_l, short2, shortL0, shortL1, shortL2, shortL3, shortL4, outD_rt, outD_nx, Bool.not_true, Bool.not_false]
      rw [whileD, e1, Option.bind_some, if_pos rfl, e2, Option.bind_some]
      dsimp only
      rw [e, if_neg hb]
      by_cases hz : a % b = 0
      · have := gcd_step (a := a) hp
        rw [hz] at this ⊢
        simp at this ⊢
        omega
      · simp [hz, gcd_step hp]
theorem cd_eq (a b : Int) (h : 0 < b) : F_p_common_divisor [.int a, .int b] = some (.int (Int.gcd a b : Int)) := by
  obtain ⟨c', e⟩ := cd_loop (b.natAbs + 1) a b none (by omega) (by omega)
  have hb : b ≠ 0 := by omega
  have e1 : natAt [some (.int a), some (.int b), none] 1 = b.natAbs := rfl
  rw [F_p_common_divisor]
  try simp only [runD, seqF_def, thenO_nx, thenO_rt, List.length_cons, List.length_nil, Nat.reduceAdd, reduceIte, List.map_cons, List.map_nil, List.reduceReplicate, List.append_nil, List.nil_append, List.cons_append, List.getElem?_cons_zero, List.getElem?_cons_succ, List.set_cons_zero, List.set_cons_succ, Option.join_some, Option.bind_some, Option.map_some, Option.filter_some, consD_ss, testD_s, condO_t, condO_f, andB_t, andB_f, orB_t, orB_f, andV_t, andV_f, orV_t, orV_f, notV_s, setO_s, setLO_s, dropO_s, forO_s, asgO_s, bind2_ss, addD_ok, subD_ok, ltD_ok, leD_ok, gtD_ok, geD_ok, eqD_int, neD_int, ix_pair0, ix_pair1, setS, negD, lenD_l, lenD_t, listD_l, tupD_t, seqD_l, short2, shortL0, shortL1, shortL2, shortL3, shortL4, outD_rt, outD_nx, Bool.not_true, Bool.not_false]
  simp only [B_p_common_divisor]
  try simp only [runD, seqF_def, thenO_nx, thenO_rt, List.length_cons, List.length_nil, Nat.reduceAdd, reduceIte, List.map_cons, List.map_nil, List.reduceReplicate, List.append_nil, List.nil_append, List.cons_append, List.getElem?_cons_zero, List.getElem?_cons_succ, List.set_cons_zero, List.set_cons_succ, Option.join_some, Option.bind_some, Option.map_some, Option.filter_some, consD_ss, testD_s, condO_t, condO_f, andB_t, andB_f, orB_t, orB_f, andV_t, andV_f, orV_t, orV_f, notV_s, setO_s, setLO_s, dropO_s, forO_s, asgO_s, bind2_ss, addD_ok, subD_ok, ltD_ok, leD_ok, gtD_ok, geD_ok, eqD_int, neD_int, ix_pair0, ix_pair1, setS, negD, lenD_l, lenD_t, listD_l, tupD_t, seqD_l, short2, shortL0, shortL1, shortL2, shortL3, shortL4, outD_rt, outD_nx, Bool.not_true, Bool.not_false]
  rw [e1, e, if_neg hb]
  try simp only [runD, seqF_def, thenO_nx, thenO_rt, List.length_cons, List.length_nil, Nat.reduceAdd, reduceIte, List.map_cons, List.map_nil, List.reduceReplicate, List.append_nil, List.nil_append, List.cons_append, List.getElem?_cons_zero, List.getElem?_cons_succ, List.set_cons_zero, List.set_cons_succ, Option.join_some, Option.bind_some, Option.map_some, Option.filter_some, consD_ss, testD_s, condO_t, condO_f, andB_t, andB_f, orB_t, orB_f, andV_t, andV_f, orV_t, orV_f, notV_s, setO_s, setLO_s, dropO_s, forO_s, asgO_s, bind2_ss, addD_ok, subD_ok, ltD_ok, leD_ok, gtD_ok, geD_ok, eqD_int, neD_int, ix_pair0, ix_pair1, setS, negD, lenD_l, lenD_t, listD_l, tupD_t, seqD_l, short2, shortL0, shortL1, shortL2, shortL3, shortL4, outD_rt, outD_nx, Bool.not_true, Bool.not_false]
theorem sh_loop : ∀ (n : Nat) (a b : Int), 0 ≤ b → b.natAbs < n → whileD W_l_shared_0 L_l_shared_1 n [some (.int a), some (.int b)] = some (.nx [some (.int (if b = 0 then a else (Int.gcd a b : Int))), some (.int 0)])
  | 0, a, b, _, h => by omega
  | n + 1, a, b, h0, h => by
    by_cases hb : b = 0
    · subst hb
      have e1 : W_l_shared_0 [some (.int a), some (.int 0)] = some false := rfl
      rw [whileD, e1]
      rfl
    · have hp : 0 < b := by omega
      have hm : 0 ≤ a % b := Int.emod_nonneg a hb
      have hl : a % b < b := Int.emod_lt_of_pos a hp
      have e := sh_loop n b (a % b) hm (by omega)
      have hbb : (b == 0) = false := by simpa using hb
      have e1 : W_l_shared_0 [some (.int a), some (.int b)] = some true := by simp only [W_l_shared_0]; try simp only [runD, seqF_def, thenO_nx, thenO_rt, List.length_cons, List.length_nil, Nat.reduceAdd, reduceIte, List.map_cons, List.map_nil, List.reduceReplicate, List.append_nil, List.nil_append, List.cons_append, List.getElem?_cons_zero, List.getElem?_cons_succ, List.set_cons_zero, List.set_cons_succ, Option.join_some, Option.bind_some, Option.map_some, Option.filter_some, consD_ss, testD_s, condO_t, condO_f, andB_t, andB_f, orB_t, orB_f, andV_t, andV_f, orV_t, orV_f, notV_s, setO_s, setLO_s, dropO_s, forO_s, asgO_s, bind2_ss, addD_ok, subD_ok, ltD_ok, leD_ok, gtD_ok, geD_ok, eqD_int, neD_int, ix_pair0, ix_pair1, setS, negD, lenD_l, lenD_t, listD_l, tupD_t, seqD_l, short2, shortL0, shortL1, shortL2, shortL3, shortL4, outD_rt, outD_nx, Bool.not_true, Bool.not_false]; simp only [hbb]; rfl
      have e2 : L_l_shared_1 [some (.int a), some (.int b)] = some (.nx [some (.int b), some (.int (a % b))]) := by
        simp only [L_l_shared_1]; try simp only [runD, seqF_def, thenO_nx, thenO_rt, List.length_cons, List.length_nil, Nat.reduceAdd, reduceIte, List.map_cons, List.map_nil, List.reduceReplicate, List.append_nil, List.nil_append, List.cons_append, List.getElem?_cons_zero, List.getElem?_cons_succ, List.set_cons_zero, List.set_cons_succ, Option.join_some, Option.bind_some, Option.map_some, Option.filter_some, consD_ss, testD_s, condO_t, condO_f, andB_t, andB_f, orB_t, orB_f, andV_t, andV_f, orV_t, orV_f, notV_s, setO_s, setLO_s, dropO_s, forO_s, asgO_s, bind2_ss, addD_ok, subD_ok, ltD_ok, leD_ok, gtD_ok, geD_ok, eqD_int, neD_int, ix_pair0, ix_pair1, setS, negD, lenD_l, lenD_t, listD_l, tupD_t, seqD_l, short2, shortL0, shortL1, shortL2, shortL3, shortL4, outD_rt, outD_nx, Bool.not_true, Bool.not_false]; simp only [modD_ok hp]; try simp only [runD, seqF_def, thenO_nx, thenO_rt, List.length_cons, List.length_nil, Nat.reduceAdd, reduceIte, List.map_cons, List.map_nil, List.reduceReplicate, List.append_nil, List.nil_append, List.cons_append, List.getElem?_cons_zero, List.getElem?_cons_succ, List.set_cons_zero, List.set_cons_succ, Option.join_some, Option.bind_some, Option.map_some, Option.filter_some, consD_ss, testD_s, condO_t, condO_f, andB_t, andB_f, orB_t, orB_f, andV_t, andV_f, orV_t, orV_f, notV_s, setO_s, setLO_s, dropO_s, forO_s, asgO_s, bind2_ss, addD_ok, subD_ok, ltD_ok, leD_ok, gtD_ok, geD_ok, eqD_int, neD_int, ix_pair0, ix_pair1, setS, negD, lenD_l, lenD_t, listD_l, tupD_t, seqD_l, short2, shortL0, shortL1, shortL2, shortL3, shortL4, outD_rt, outD_nx, Bool.not_true, Bool.not_false]; rfl
      rw [whileD, e1, Option.bind_some, if_pos rfl, e2, Option.bind_some]
      dsimp only
      rw [e, if_neg hb]
      by_cases hz : a % b = 0
      · have := gcd_step (a := a) hp
        rw [hz] at this ⊢
        simp at this ⊢
        omega
      · simp [hz, gcd_step hp]
theorem sh_eq (a b : Int) (h : 0 < b) : F_l_shared [.int a, .int b] = some (.int (Int.gcd a b : Int)) := by
  have e := sh_loop (b.natAbs + 1) a b (by omega) (by omega)
  have hb : b ≠ 0 := by omega
  have hg := gcd_pos_of (t := a) h
  have e1 : natAt [some (.int a), some (.int b)] 1 = b.natAbs := rfl
  have e2 : absD [.int (Int.gcd a b : Int)] = some (.int (Int.gcd a b : Int)) := by rw [absD, if_neg (by omega)]
  rw [F_l_shared]
  try simp only [runD, seqF_def, thenO_nx, thenO_rt, List.length_cons, List.length_nil, Nat.reduceAdd, reduceIte, List.map_cons, List.map_nil, List.reduceReplicate, List.append_nil, List.nil_append, List.cons_append, List.getElem?_cons_zero, List.getElem?_cons_succ, List.set_cons_zero, List.set_cons_succ, Option.join_some, Option.bind_some, Option.map_some, Option.filter_some, consD_ss, testD_s, condO_t, condO_f, andB_t, andB_f, orB_t, orB_f, andV_t, andV_f, orV_t, orV_f, notV_s, setO_s, setLO_s, dropO_s, forO_s, asgO_s, bind2_ss, addD_ok, subD_ok, ltD_ok, leD_ok, gtD_ok, geD_ok, eqD_int, neD_int, ix_pair0, ix_pair1, setS, negD, lenD_l, lenD_t, listD_l, tupD_t, seqD_l, short2, shortL0, shortL1, shortL2, shortL3, shortL4, outD_rt, outD_nx, Bool.not_true, Bool.not_false]
  simp only [B_l_shared]
  try simp only [runD, seqF_def, thenO_nx, thenO_rt, List.length_cons, List.length_nil, Nat.reduceAdd, reduceIte, List.map_cons, List.map_nil, List.reduceReplicate, List.append_nil, List.nil_append, List.cons_append, List.getElem?_cons_zero, List.getElem?_cons_succ, List.set_cons_zero, List.set_cons_succ, Option.join_some, Option.bind_some, Option.map_some, Option.filter_some, consD_ss, testD_s, condO_t, condO_f, andB_t, andB_f, orB_t, orB_f, andV_t, andV_f, orV_t, orV_f, notV_s, setO_s, setLO_s, dropO_s, forO_s, asgO_s, bind2_ss, addD_ok, subD_ok, ltD_ok, leD_ok, gtD_ok, geD_ok, eqD_int, neD_int, ix_pair0, ix_pair1, setS, negD, lenD_l, lenD_t, listD_l, tupD_t, seqD_l, short2, shortL0, shortL1, shortL2, shortL3, shortL4, outD_rt, outD_nx, Bool.not_true, Bool.not_false]
  rw [e1, e, if_neg hb]
  try simp only [runD, seqF_def, thenO_nx, thenO_rt, List.length_cons, List.length_nil, Nat.reduceAdd, reduceIte, List.map_cons, List.map_nil, List.reduceReplicate, List.append_nil, List.nil_append, List.cons_append, List.getElem?_cons_zero, List.getElem?_cons_succ, List.set_cons_zero, List.set_cons_succ, Option.join_some, Option.bind_some, Option.map_some, Option.filter_some, consD_ss, testD_s, condO_t, condO_f, andB_t, andB_f, orB_t, orB_f, andV_t, andV_f, orV_t, orV_f, notV_s, setO_s, setLO_s, dropO_s, forO_s, asgO_s, bind2_ss, addD_ok, subD_ok, ltD_ok, leD_ok, gtD_ok, geD_ok, eqD_int, neD_int, ix_pair0, ix_pair1, setS, negD, lenD_l, lenD_t, listD_l, tupD_t, seqD_l, short2, shortL0, shortL1, shortL2, shortL3, shortL4, outD_rt, outD_nx, Bool.not_true, Bool.not_false]
  rw [e2]
  rfl
theorem isBig_gcd {t b : Int} {n : Nat} (h : 0 < b) (hb : bd b n) (hn : n ≤ 1000) : isBig (Int.gcd t b : Int) = true := by
  refine (bd.of_le hb (by omega) ?_).big hn
  exact Int.le_of_dvd h (Int.gcd_dvd_right ..)
theorem frac_eq (t b : Int) (h : 0 < b) (hb : bd b 500) : F_p_fraction_of [.int t, .int b] = some (encP (red t b)) := by
  have hg := gcd_pos_of (t := t) h
  rw [F_p_fraction_of]
  try simp only [runD, seqF_def, thenO_nx, thenO_rt, List.length_cons, List.length_nil, Nat.reduceAdd, reduceIte, List.map_cons, List.map_nil, List.reduceReplicate, List.append_nil, List.nil_append, List.cons_append, List.getElem?_cons_zero, List.getElem?_cons_succ, List.set_cons_zero, List.set_cons_succ, Option.join_some, Option.bind_some, Option.map_some, Option.filter_some, consD_ss, testD_s, condO_t, condO_f, andB_t, andB_f, orB_t, orB_f, andV_t, andV_f, orV_t, orV_f, notV_s, setO_s, setLO_s, dropO_s, forO_s, asgO_s, bind2_ss, addD_ok, subD_ok, ltD_ok, leD_ok, gtD_ok, geD_ok, eqD_int, neD_int, ix_pair0, ix_pair1, setS, negD, lenD_l, lenD_t, listD_l, tupD_t, seqD_l, short2, shortL0, shortL1, shortL2, shortL3, shortL4, outD_rt, outD_nx, Bool.not_true, Bool.not_false]
  simp only [B_p_fraction_of]
  try simp only [runD, seqF_def, thenO_nx, thenO_rt, List.length_cons, List.length_nil, Nat.reduceAdd, reduceIte, List.map_cons, List.map_nil, List.reduceReplicate, List.append_nil, List.nil_append, List.cons_append, List.getElem?_cons_zero, List.getElem?_cons_succ, List.set_cons_zero, List.set_cons_succ, Option.join_some, Option.bind_some, Option.map_some, Option.filter_some, consD_ss, testD_s, condO_t, condO_f, andB_t, andB_f, orB_t, orB_f, andV_t, andV_f, orV_t, orV_f, notV_s, setO_s, setLO_s, dropO_s, forO_s, asgO_s, bind2_ss, addD_ok, subD_ok, ltD_ok, leD_ok, gtD_ok, geD_ok, eqD_int, neD_int, ix_pair0, ix_pair1, setS, negD, lenD_l, lenD_t, listD_l, tupD_t, seqD_l, short2, shortL0, shortL1, shortL2, shortL3, shortL4, outD_rt, outD_nx, Bool.not_true, Bool.not_false]
  rw [cd_eq t b h]
  try simp only [runD, seqF_def, thenO_nx, thenO_rt, List.length_cons, List.length_nil, Nat.reduceAdd, reduceIte, List.map_cons, List.map_nil, List.reduceReplicate, List.append_nil, List.nil_append, List.cons_append, List.getElem?_cons_zero, List.getElem?_cons_succ, List.set_cons_zero, List.set_cons_succ, Option.join_some, Option.bind_some, Option.map_some, Option.filter_some, consD_ss, testD_s, condO_t, condO_f, andB_t, andB_f, orB_t, orB_f, andV_t, andV_f, orV_t, orV_f, notV_s, setO_s, setLO_s, dropO_s, forO_s, asgO_s, bind2_ss, addD_ok, subD_ok, ltD_ok, leD_ok, gtD_ok, geD_ok, eqD_int, neD_int, ix_pair0, ix_pair1, setS, negD, lenD_l, lenD_t, listD_l, tupD_t, seqD_l, short2, shortL0, shortL1, shortL2, shortL3, shortL4, outD_rt, outD_nx, Bool.not_true, Bool.not_false]
  simp only [fdivD_ok hg (isBig_gcd h hb (by decide))]
  try simp only [runD, seqF_def, thenO_nx, thenO_rt, List.length_cons, List.length_nil, Nat.reduceAdd, reduceIte, List.map_cons, List.map_nil, List.reduceReplicate, List.append_nil, List.nil_append, List.cons_append, List.getElem?_cons_zero, List.getElem?_cons_succ, List.set_cons_zero, List.set_cons_succ, Option.join_some, Option.bind_some, Option.map_some, Option.filter_some, consD_ss, testD_s, condO_t, condO_f, andB_t, andB_f, orB_t, orB_f, andV_t, andV_f, orV_t, orV_f, notV_s, setO_s, setLO_s, dropO_s, forO_s, asgO_s, bind2_ss, addD_ok, subD_ok, ltD_ok, leD_ok, gtD_ok, geD_ok, eqD_int, neD_int, ix_pair0, ix_pair1, setS, negD, lenD_l, lenD_t, listD_l, tupD_t, seqD_l, short2, shortL0, shortL1, shortL2, shortL3, shortL4, outD_rt, outD_nx, Bool.not_true, Bool.not_false]
  rfl
theorem low_eq (t b : Int) (h : 0 < b) (hb : bd b 500) : F_l_lowest [.int t, .int b] = some (encP (red t b)) := by
  have hg := gcd_pos_of (t := t) h
  rw [F_l_lowest]
  try simp only [runD, seqF_def, thenO_nx, thenO_rt, List.length_cons, List.length_nil, Nat.reduceAdd, reduceIte, List.map_cons, List.map_nil, List.reduceReplicate, List.append_nil, List.nil_append, List.cons_append, List.getElem?_cons_zero, List.getElem?_cons_succ, List.set_cons_zero, List.set_cons_succ, Option.join_some, Option.bind_some, Option.map_some, Option.filter_some, consD_ss, testD_s, condO_t, condO_f, andB_t, andB_f, orB_t, orB_f, andV_t, andV_f, orV_t, orV_f, notV_s, setO_s, setLO_s, dropO_s, forO_s, asgO_s, bind2_ss, addD_ok, subD_ok, ltD_ok, leD_ok, gtD_ok, geD_ok, eqD_int, neD_int, ix_pair0, ix_pair1, setS, negD, lenD_l, lenD_t, listD_l, tupD_t, seqD_l, short2, shortL0, shortL1, shortL2, shortL3, shortL4, outD_rt, outD_nx, Bool.not_true, Bool.not_false]
  simp only [B_l_lowest]
  try simp only [runD, seqF_def, thenO_nx, thenO_rt, List.length_cons, List.length_nil, Nat.reduceAdd, reduceIte, List.map_cons, List.map_nil, List.reduceReplicate, List.append_nil, List.nil_append, List.cons_append, List.getElem?_cons_zero, List.getElem?_cons_succ, List.set_cons_zero, List.set_cons_succ, Option.join_some, Option.bind_some, Option.map_some, Option.filter_some, consD_ss, testD_s, condO_t, condO_f, andB_t, andB_f, orB_t, orB_f, andV_t, andV_f, orV_t, orV_f, notV_s, setO_s, setLO_s, dropO_s, forO_s, asgO_s, bind2_ss, addD_ok, subD_ok, ltD_ok, leD_ok, gtD_ok, geD_ok, eqD_int, neD_int, ix_pair0, ix_pair1, setS, negD, lenD_l, lenD_t, listD_l, tupD_t, seqD_l, short2, shortL0, shortL1, shortL2, shortL3, shortL4, outD_rt, outD_nx, Bool.not_true, Bool.not_false]
  rw [sh_eq t b h]
  try simp only [runD, seqF_def, thenO_nx, thenO_rt, List.length_cons, List.length_nil, Nat.reduceAdd, reduceIte, List.map_cons, List.map_nil, List.reduceReplicate, List.append_nil, List.nil_append, List.cons_append, List.getElem?_cons_zero, List.getElem?_cons_succ, List.set_cons_zero, List.set_cons_succ, Option.join_some, Option.bind_some, Option.map_some, Option.filter_some, consD_ss, testD_s, condO_t, condO_f, andB_t, andB_f, orB_t, orB_f, andV_t, andV_f, orV_t, orV_f, notV_s, setO_s, setLO_s, dropO_s, forO_s, asgO_s, bind2_ss, addD_ok, subD_ok, ltD_ok, leD_ok, gtD_ok, geD_ok, eqD_int, neD_int, ix_pair0, ix_pair1, setS, negD, lenD_l, lenD_t, listD_l, tupD_t, seqD_l, short2, shortL0, shortL1, shortL2, shortL3, shortL4, outD_rt, outD_nx, Bool.not_true, Bool.not_false]
  simp only [fdivD_ok hg (isBig_gcd h hb (by decide))]
  try simp only [runD, seqF_def, thenO_nx, thenO_rt, List.length_cons, List.length_nil, Nat.reduceAdd, reduceIte, List.map_cons, List.map_nil, List.reduceReplicate, List.append_nil, List.nil_append, List.cons_append, List.getElem?_cons_zero, List.getElem?_cons_succ, List.set_cons_zero, List.set_cons_succ, Option.join_some, Option.bind_some, Option.map_some, Option.filter_some, consD_ss, testD_s, condO_t, condO_f, andB_t, andB_f, orB_t, orB_f, andV_t, andV_f, orV_t, orV_f, notV_s, setO_s, setLO_s, dropO_s, forO_s, asgO_s, bind2_ss, addD_ok, subD_ok, ltD_ok, leD_ok, gtD_ok, geD_ok, eqD_int, neD_int, ix_pair0, ix_pair1, setS, negD, lenD_l, lenD_t, listD_l, tupD_t, seqD_l, short2, shortL0, shortL1, shortL2, shortL3, shortL4, outD_rt, outD_nx, Bool.not_true, Bool.not_false]
  rfl
noncomputable def far (o p : Int × Int) : Int × Int := red (o.2 * (if o.1 * p.2 - p.1 < 0 then -(o.1 * p.2 - p.1) else o.1 * p.2 - p.1)) p.2
structure Sm (o : Int × Int) : Prop where
  a : bd o.1 100
  b : bd o.2 100
structure Sp (o : Int × Int) : Prop where
  a : bd o.1 200
  b : bd o.2 200
structure Fb (q : Int × Int) : Prop where
  fr : Fr1 q
  nn : 0 ≤ q.1
  a : bd q.1 500
  b : bd q.2 500
noncomputable def lo (x y : Int × Int) : Int × Int := if y.1 * x.2 < x.1 * y.2 then y else x
noncomputable def hi (x y : Int × Int) : Int × Int := if x.1 * y.2 < y.1 * x.2 then y else x
theorem ix_first (x : Int × Int) (r : List (Int × Int)) : ixD (encL (x :: r)) (.int 0) = some (encP x) := by rw [encL, List.map_cons, ixD, atI_zero]
theorem listD_encL (ps : List (Int × Int)) : listD (encL ps) = some (ps.map encP) := rfl
theorem lenD_encs (ps : List (Int × Int)) : lenD [encL ps] = some (.int ps.length) := by simp [encL, lenD]
structure Folk (p : Int × Int) : Prop where
  sm : Sm p
  w : 1 ≤ p.2
structure Post (p : Int × Int) : Prop where
  sm : Sp p
  b : 0 < p.2
theorem cell_eq (ns : List Int) (k : Int) (h : 0 ≤ k) : F_l_cell_at [.list (ns.map .int), .int k] = some (.int (ns.getD k.toNat 0)) := by
  rw [F_l_cell_at]
  try simp only [runD, seqF_def, thenO_nx, thenO_rt, List.length_cons, List.length_nil, Nat.reduceAdd, reduceIte, List.map_cons, List.map_nil, List.reduceReplicate, List.append_nil, List.nil_append, List.cons_append, List.getElem?_cons_zero, List.getElem?_cons_succ, List.set_cons_zero, List.set_cons_succ, Option.join_some, Option.bind_some, Option.map_some, Option.filter_some, consD_ss, testD_s, condO_t, condO_f, andB_t, andB_f, orB_t, orB_f, andV_t, andV_f, orV_t, orV_f, notV_s, setO_s, setLO_s, dropO_s, forO_s, asgO_s, bind2_ss, addD_ok, subD_ok, ltD_ok, leD_ok, gtD_ok, geD_ok, eqD_int, neD_int, ix_pair0, ix_pair1, setS, negD, lenD_l, lenD_t, listD_l, tupD_t, seqD_l, short2, shortL0, shortL1, shortL2, shortL3, shortL4, outD_rt, outD_nx, Bool.not_true, Bool.not_false]
  simp only [B_l_cell_at]
  try simp only [runD, seqF_def, thenO_nx, thenO_rt, List.length_cons, List.length_nil, Nat.reduceAdd, reduceIte, List.map_cons, List.map_nil, List.reduceReplicate, List.append_nil, List.nil_append, List.cons_append, List.getElem?_cons_zero, List.getElem?_cons_succ, List.set_cons_zero, List.set_cons_succ, Option.join_some, Option.bind_some, Option.map_some, Option.filter_some, consD_ss, testD_s, condO_t, condO_f, andB_t, andB_f, orB_t, orB_f, andV_t, andV_f, orV_t, orV_f, notV_s, setO_s, setLO_s, dropO_s, forO_s, asgO_s, bind2_ss, addD_ok, subD_ok, ltD_ok, leD_ok, gtD_ok, geD_ok, eqD_int, neD_int, ix_pair0, ix_pair1, setS, negD, lenD_l, lenD_t, listD_l, tupD_t, seqD_l, short2, shortL0, shortL1, shortL2, shortL3, shortL4, outD_rt, outD_nx, Bool.not_true, Bool.not_false]
  rw [List.length_map]
  by_cases hk : k < ns.length
  · rw [decide_eq_true hk]
    try simp only [runD, seqF_def, thenO_nx, thenO_rt, List.length_cons, List.length_nil, Nat.reduceAdd, reduceIte, List.map_cons, List.map_nil, List.reduceReplicate, List.append_nil, List.nil_append, List.cons_append, List.getElem?_cons_zero, List.getElem?_cons_succ, List.set_cons_zero, List.set_cons_succ, Option.join_some, Option.bind_some, Option.map_some, Option.filter_some, consD_ss, testD_s, condO_t, condO_f, andB_t, andB_f, orB_t, orB_f, andV_t, andV_f, orV_t, orV_f, notV_s, setO_s, setLO_s, dropO_s, forO_s, asgO_s, bind2_ss, addD_ok, subD_ok, ltD_ok, leD_ok, gtD_ok, geD_ok, eqD_int, neD_int, ix_pair0, ix_pair1, setS, negD, lenD_l, lenD_t, listD_l, tupD_t, seqD_l, short2, shortL0, shortL1, shortL2, shortL3, shortL4, outD_rt, outD_nx, Bool.not_true, Bool.not_false]
    rw [cell_get h hk]
    try simp only [runD, seqF_def, thenO_nx, thenO_rt, List.length_cons, List.length_nil, Nat.reduceAdd, reduceIte, List.map_cons, List.map_nil, List.reduceReplicate, List.append_nil, List.nil_append, List.cons_append, List.getElem?_cons_zero, List.getElem?_cons_succ, List.set_cons_zero, List.set_cons_succ, Option.join_some, Option.bind_some, Option.map_some, Option.filter_some, consD_ss, testD_s, condO_t, condO_f, andB_t, andB_f, orB_t, orB_f, andV_t, andV_f, orV_t, orV_f, notV_s, setO_s, setLO_s, dropO_s, forO_s, asgO_s, bind2_ss, addD_ok, subD_ok, ltD_ok, leD_ok, gtD_ok, geD_ok, eqD_int, neD_int, ix_pair0, ix_pair1, setS, negD, lenD_l, lenD_t, listD_l, tupD_t, seqD_l, short2, shortL0, shortL1, shortL2, shortL3, shortL4, outD_rt, outD_nx, Bool.not_true, Bool.not_false]
  · rw [decide_eq_false hk]
    try simp only [runD, seqF_def, thenO_nx, thenO_rt, List.length_cons, List.length_nil, Nat.reduceAdd, reduceIte, List.map_cons, List.map_nil, List.reduceReplicate, List.append_nil, List.nil_append, List.cons_append, List.getElem?_cons_zero, List.getElem?_cons_succ, List.set_cons_zero, List.set_cons_succ, Option.join_some, Option.bind_some, Option.map_some, Option.filter_some, consD_ss, testD_s, condO_t, condO_f, andB_t, andB_f, orB_t, orB_f, andV_t, andV_f, orV_t, orV_f, notV_s, setO_s, setLO_s, dropO_s, forO_s, asgO_s, bind2_ss, addD_ok, subD_ok, ltD_ok, leD_ok, gtD_ok, geD_ok, eqD_int, neD_int, ix_pair0, ix_pair1, setS, negD, lenD_l, lenD_t, listD_l, tupD_t, seqD_l, short2, shortL0, shortL1, shortL2, shortL3, shortL4, outD_rt, outD_nx, Bool.not_true, Bool.not_false]
    have : ns.length ≤ k.toNat := by omega
    simp [List.getD, this]
theorem mix_ok (u k : Int) (hk : bd k 60) : ∃ m : Int, 0 ≤ m ∧ F_l_mix [.int u, .int k] = some (.int m) := by
  rw [F_l_mix]
  try simp only [runD, seqF_def, thenO_nx, thenO_rt, List.length_cons, List.length_nil, Nat.reduceAdd, reduceIte, List.map_cons, List.map_nil, List.reduceReplicate, List.append_nil, List.nil_append, List.cons_append, List.getElem?_cons_zero, List.getElem?_cons_succ, List.set_cons_zero, List.set_cons_succ, Option.join_some, Option.bind_some, Option.map_some, Option.filter_some, consD_ss, testD_s, condO_t, condO_f, andB_t, andB_f, orB_t, orB_f, andV_t, andV_f, orV_t, orV_f, notV_s, setO_s, setLO_s, dropO_s, forO_s, asgO_s, bind2_ss, addD_ok, subD_ok, ltD_ok, leD_ok, gtD_ok, geD_ok, eqD_int, neD_int, ix_pair0, ix_pair1, setS, negD, lenD_l, lenD_t, listD_l, tupD_t, seqD_l, short2, shortL0, shortL1, shortL2, shortL3, shortL4, outD_rt, outD_nx, Bool.not_true, Bool.not_false]
  simp only [B_l_mix]
  try simp only [runD, seqF_def, thenO_nx, thenO_rt, List.length_cons, List.length_nil, Nat.reduceAdd, reduceIte, List.map_cons, List.map_nil, List.reduceReplicate, List.append_nil, List.nil_append, List.cons_append, List.getElem?_cons_zero, List.getElem?_cons_succ, List.set_cons_zero, List.set_cons_succ, Option.join_some, Option.bind_some, Option.map_some, Option.filter_some, consD_ss, testD_s, condO_t, condO_f, andB_t, andB_f, orB_t, orB_f, andV_t, andV_f, orV_t, orV_f, notV_s, setO_s, setLO_s, dropO_s, forO_s, asgO_s, bind2_ss, addD_ok, subD_ok, ltD_ok, leD_ok, gtD_ok, geD_ok, eqD_int, neD_int, ix_pair0, ix_pair1, setS, negD, lenD_l, lenD_t, listD_l, tupD_t, seqD_l, short2, shortL0, shortL1, shortL2, shortL3, shortL4, outD_rt, outD_nx, Bool.not_true, Bool.not_false]
  try simp only [pow10_7, pow10_9, pow10_18, pow10_20, pow10_21, pow10_31, pow10_32, pow10_40, pow10_60]
  try simp only [runD, seqF_def, thenO_nx, thenO_rt, List.length_cons, List.length_nil, Nat.reduceAdd, reduceIte, List.map_cons, List.map_nil, List.reduceReplicate, List.append_nil, List.nil_append, List.cons_append, List.getElem?_cons_zero, List.getElem?_cons_succ, List.set_cons_zero, List.set_cons_succ, Option.join_some, Option.bind_some, Option.map_some, Option.filter_some, consD_ss, testD_s, condO_t, condO_f, andB_t, andB_f, orB_t, orB_f, andV_t, andV_f, orV_t, orV_f, notV_s, setO_s, setLO_s, dropO_s, forO_s, asgO_s, bind2_ss, addD_ok, subD_ok, ltD_ok, leD_ok, gtD_ok, geD_ok, eqD_int, neD_int, ix_pair0, ix_pair1, setS, negD, lenD_l, lenD_t, listD_l, tupD_t, seqD_l, short2, shortL0, shortL1, shortL2, shortL3, shortL4, outD_rt, outD_nx, Bool.not_true, Bool.not_false]
  by_cases hu : (10 : Int) ^ 18 ≤ u
  · refine ⟨u - 10 ^ 18, by omega, ?_⟩
    rw [decide_eq_true hu]
    try simp only [runD, seqF_def, thenO_nx, thenO_rt, List.length_cons, List.length_nil, Nat.reduceAdd, reduceIte, List.map_cons, List.map_nil, List.reduceReplicate, List.append_nil, List.nil_append, List.cons_append, List.getElem?_cons_zero, List.getElem?_cons_succ, List.set_cons_zero, List.set_cons_succ, Option.join_some, Option.bind_some, Option.map_some, Option.filter_some, consD_ss, testD_s, condO_t, condO_f, andB_t, andB_f, orB_t, orB_f, andV_t, andV_f, orV_t, orV_f, notV_s, setO_s, setLO_s, dropO_s, forO_s, asgO_s, bind2_ss, addD_ok, subD_ok, ltD_ok, leD_ok, gtD_ok, geD_ok, eqD_int, neD_int, ix_pair0, ix_pair1, setS, negD, lenD_l, lenD_t, listD_l, tupD_t, seqD_l, short2, shortL0, shortL1, shortL2, shortL3, shortL4, outD_rt, outD_nx, Bool.not_true, Bool.not_false]
  · rw [decide_eq_false hu]
    try simp only [runD, seqF_def, thenO_nx, thenO_rt, List.length_cons, List.length_nil, Nat.reduceAdd, reduceIte, List.map_cons, List.map_nil, List.reduceReplicate, List.append_nil, List.nil_append, List.cons_append, List.getElem?_cons_zero, List.getElem?_cons_succ, List.set_cons_zero, List.set_cons_succ, Option.join_some, Option.bind_some, Option.map_some, Option.filter_some, consD_ss, testD_s, condO_t, condO_f, andB_t, andB_f, orB_t, orB_f, andV_t, andV_f, orV_t, orV_f, notV_s, setO_s, setLO_s, dropO_s, forO_s, asgO_s, bind2_ss, addD_ok, subD_ok, ltD_ok, leD_ok, gtD_ok, geD_ok, eqD_int, neD_int, ix_pair0, ix_pair1, setS, negD, lenD_l, lenD_t, listD_l, tupD_t, seqD_l, short2, shortL0, shortL1, shortL2, shortL3, shortL4, outD_rt, outD_nx, Bool.not_true, Bool.not_false]
    try simp only [pow10_7, pow10_9, pow10_18, pow10_20, pow10_21, pow10_31, pow10_32, pow10_40, pow10_60]
    try simp only [runD, seqF_def, thenO_nx, thenO_rt, List.length_cons, List.length_nil, Nat.reduceAdd, reduceIte, List.map_cons, List.map_nil, List.reduceReplicate, List.append_nil, List.nil_append, List.cons_append, List.getElem?_cons_zero, List.getElem?_cons_succ, List.set_cons_zero, List.set_cons_succ, Option.join_some, Option.bind_some, Option.map_some, Option.filter_some, consD_ss, testD_s, condO_t, condO_f, andB_t, andB_f, orB_t, orB_f, andV_t, andV_f, orV_t, orV_f, notV_s, setO_s, setLO_s, dropO_s, forO_s, asgO_s, bind2_ss, addD_ok, subD_ok, ltD_ok, leD_ok, gtD_ok, geD_ok, eqD_int, neD_int, ix_pair0, ix_pair1, setS, negD, lenD_l, lenD_t, listD_l, tupD_t, seqD_l, short2, shortL0, shortL1, shortL2, shortL3, shortL4, outD_rt, outD_nx, Bool.not_true, Bool.not_false]
    rw [modD_ok (by decide)]
    try simp only [runD, seqF_def, thenO_nx, thenO_rt, List.length_cons, List.length_nil, Nat.reduceAdd, reduceIte, List.map_cons, List.map_nil, List.reduceReplicate, List.append_nil, List.nil_append, List.cons_append, List.getElem?_cons_zero, List.getElem?_cons_succ, List.set_cons_zero, List.set_cons_succ, Option.join_some, Option.bind_some, Option.map_some, Option.filter_some, consD_ss, testD_s, condO_t, condO_f, andB_t, andB_f, orB_t, orB_f, andV_t, andV_f, orV_t, orV_f, notV_s, setO_s, setLO_s, dropO_s, forO_s, asgO_s, bind2_ss, addD_ok, subD_ok, ltD_ok, leD_ok, gtD_ok, geD_ok, eqD_int, neD_int, ix_pair0, ix_pair1, setS, negD, lenD_l, lenD_t, listD_l, tupD_t, seqD_l, short2, shortL0, shortL1, shortL2, shortL3, shortL4, outD_rt, outD_nx, Bool.not_true, Bool.not_false]
    have b0 : bd (u % 10 ^ 60) 200 := by
      have h1 : 0 ≤ u % 10 ^ 60 := Int.emod_nonneg _ (by decide)
      have h2 : u % 10 ^ 60 < 10 ^ 60 := Int.emod_lt_of_pos _ (by decide)
      have : bd (10 ^ 60) 200 := by unfold bd; decide
      exact this.of_le h1 (by omega)
    have b1 : bd 40503 60 := by unfold bd; decide
    have b2 : bd 1812433253982451697 100 := by unfold bd; decide
    have b3 : bd 7919 400 := (show bd 7919 60 by unfold bd; decide).mono (by decide)
    have b4 : bd 739108512309184756019283746561 100 := by unfold bd; decide
    simp only [mulD_ok (b0.big (by decide)) (b0.big (by decide)), mulD_ok (b1.big (by decide)) (hk.big (by decide))]
    try simp only [runD, seqF_def, thenO_nx, thenO_rt, List.length_cons, List.length_nil, Nat.reduceAdd, reduceIte, List.map_cons, List.map_nil, List.reduceReplicate, List.append_nil, List.nil_append, List.cons_append, List.getElem?_cons_zero, List.getElem?_cons_succ, List.set_cons_zero, List.set_cons_succ, Option.join_some, Option.bind_some, Option.map_some, Option.filter_some, consD_ss, testD_s, condO_t, condO_f, andB_t, andB_f, orB_t, orB_f, andV_t, andV_f, orV_t, orV_f, notV_s, setO_s, setLO_s, dropO_s, forO_s, asgO_s, bind2_ss, addD_ok, subD_ok, ltD_ok, leD_ok, gtD_ok, geD_ok, eqD_int, neD_int, ix_pair0, ix_pair1, setS, negD, lenD_l, lenD_t, listD_l, tupD_t, seqD_l, short2, shortL0, shortL1, shortL2, shortL3, shortL4, outD_rt, outD_nx, Bool.not_true, Bool.not_false]
    simp only [mulD_ok ((b1.mul hk).big (by decide)) (hk.big (by decide))]
    try simp only [runD, seqF_def, thenO_nx, thenO_rt, List.length_cons, List.length_nil, Nat.reduceAdd, reduceIte, List.map_cons, List.map_nil, List.reduceReplicate, List.append_nil, List.nil_append, List.cons_append, List.getElem?_cons_zero, List.getElem?_cons_succ, List.set_cons_zero, List.set_cons_succ, Option.join_some, Option.bind_some, Option.map_some, Option.filter_some, consD_ss, testD_s, condO_t, condO_f, andB_t, andB_f, orB_t, orB_f, andV_t, andV_f, orV_t, orV_f, notV_s, setO_s, setLO_s, dropO_s, forO_s, asgO_s, bind2_ss, addD_ok, subD_ok, ltD_ok, leD_ok, gtD_ok, geD_ok, eqD_int, neD_int, ix_pair0, ix_pair1, setS, negD, lenD_l, lenD_t, listD_l, tupD_t, seqD_l, short2, shortL0, shortL1, shortL2, shortL3, shortL4, outD_rt, outD_nx, Bool.not_true, Bool.not_false]
    try simp only [pow10_7, pow10_9, pow10_18, pow10_20, pow10_21, pow10_31, pow10_32, pow10_40, pow10_60]
    try simp only [runD, seqF_def, thenO_nx, thenO_rt, List.length_cons, List.length_nil, Nat.reduceAdd, reduceIte, List.map_cons, List.map_nil, List.reduceReplicate, List.append_nil, List.nil_append, List.cons_append, List.getElem?_cons_zero, List.getElem?_cons_succ, List.set_cons_zero, List.set_cons_succ, Option.join_some, Option.bind_some, Option.map_some, Option.filter_some, consD_ss, testD_s, condO_t, condO_f, andB_t, andB_f, orB_t, orB_f, andV_t, andV_f, orV_t, orV_f, notV_s, setO_s, setLO_s, dropO_s, forO_s, asgO_s, bind2_ss, addD_ok, subD_ok, ltD_ok, leD_ok, gtD_ok, geD_ok, eqD_int, neD_int, ix_pair0, ix_pair1, setS, negD, lenD_l, lenD_t, listD_l, tupD_t, seqD_l, short2, shortL0, shortL1, shortL2, shortL3, shortL4, outD_rt, outD_nx, Bool.not_true, Bool.not_false]
    have b5 := (((b0.mul b0).add (((b1.mul hk).mul hk).mono (by decide))).add (b3.mono (by decide)))
    simp only [mulD_ok (b5.big (by decide)) (b2.big (by decide))]
    try simp only [runD, seqF_def, thenO_nx, thenO_rt, List.length_cons, List.length_nil, Nat.reduceAdd, reduceIte, List.map_cons, List.map_nil, List.reduceReplicate, List.append_nil, List.nil_append, List.cons_append, List.getElem?_cons_zero, List.getElem?_cons_succ, List.set_cons_zero, List.set_cons_succ, Option.join_some, Option.bind_some, Option.map_some, Option.filter_some, consD_ss, testD_s, condO_t, condO_f, andB_t, andB_f, orB_t, orB_f, andV_t, andV_f, orV_t, orV_f, notV_s, setO_s, setLO_s, dropO_s, forO_s, asgO_s, bind2_ss, addD_ok, subD_ok, ltD_ok, leD_ok, gtD_ok, geD_ok, eqD_int, neD_int, ix_pair0, ix_pair1, setS, negD, lenD_l, lenD_t, listD_l, tupD_t, seqD_l, short2, shortL0, shortL1, shortL2, shortL3, shortL4, outD_rt, outD_nx, Bool.not_true, Bool.not_false]
    rw [modD_ok (by decide)]
    try simp only [runD, seqF_def, thenO_nx, thenO_rt, List.length_cons, List.length_nil, Nat.reduceAdd, reduceIte, List.map_cons, List.map_nil, List.reduceReplicate, List.append_nil, List.nil_append, List.cons_append, List.getElem?_cons_zero, List.getElem?_cons_succ, List.set_cons_zero, List.set_cons_succ, Option.join_some, Option.bind_some, Option.map_some, Option.filter_some, consD_ss, testD_s, condO_t, condO_f, andB_t, andB_f, orB_t, orB_f, andV_t, andV_f, orV_t, orV_f, notV_s, setO_s, setLO_s, dropO_s, forO_s, asgO_s, bind2_ss, addD_ok, subD_ok, ltD_ok, leD_ok, gtD_ok, geD_ok, eqD_int, neD_int, ix_pair0, ix_pair1, setS, negD, lenD_l, lenD_t, listD_l, tupD_t, seqD_l, short2, shortL0, shortL1, shortL2, shortL3, shortL4, outD_rt, outD_nx, Bool.not_true, Bool.not_false]
    generalize hn : (u % 10 ^ 60 * (u % 10 ^ 60) + 40503 * k * k + 7919) * 1812433253982451697 % (10 ^ 18 + 9) = n
    have b6 : bd n 100 := by
      have h1 : 0 ≤ n := by rw [← hn]; exact Int.emod_nonneg _ (by decide)
      have h2 : n < 10 ^ 18 + 9 := by rw [← hn]; exact Int.emod_lt_of_pos _ (by decide)
      have : bd (10 ^ 18 + 9) 100 := by unfold bd; decide
      exact this.of_le h1 (by omega)
    simp only [mulD_ok (b6.big (by decide)) (b6.big (by decide))]
    try simp only [runD, seqF_def, thenO_nx, thenO_rt, List.length_cons, List.length_nil, Nat.reduceAdd, reduceIte, List.map_cons, List.map_nil, List.reduceReplicate, List.append_nil, List.nil_append, List.cons_append, List.getElem?_cons_zero, List.getElem?_cons_succ, List.set_cons_zero, List.set_cons_succ, Option.join_some, Option.bind_some, Option.map_some, Option.filter_some, consD_ss, testD_s, condO_t, condO_f, andB_t, andB_f, orB_t, orB_f, andV_t, andV_f, orV_t, orV_f, notV_s, setO_s, setLO_s, dropO_s, forO_s, asgO_s, bind2_ss, addD_ok, subD_ok, ltD_ok, leD_ok, gtD_ok, geD_ok, eqD_int, neD_int, ix_pair0, ix_pair1, setS, negD, lenD_l, lenD_t, listD_l, tupD_t, seqD_l, short2, shortL0, shortL1, shortL2, shortL3, shortL4, outD_rt, outD_nx, Bool.not_true, Bool.not_false]
    have b7 := (b6.mul b6).add (hk.mono (n := 100 + 100) (by decide))
    simp only [mulD_ok (b7.big (by decide)) (b4.big (by decide))]
    try simp only [pow10_7, pow10_9, pow10_18, pow10_20, pow10_21, pow10_31, pow10_32, pow10_40, pow10_60]
    try simp only [runD, seqF_def, thenO_nx, thenO_rt, List.length_cons, List.length_nil, Nat.reduceAdd, reduceIte, List.map_cons, List.map_nil, List.reduceReplicate, List.append_nil, List.nil_append, List.cons_append, List.getElem?_cons_zero, List.getElem?_cons_succ, List.set_cons_zero, List.set_cons_succ, Option.join_some, Option.bind_some, Option.map_some, Option.filter_some, consD_ss, testD_s, condO_t, condO_f, andB_t, andB_f, orB_t, orB_f, andV_t, andV_f, orV_t, orV_f, notV_s, setO_s, setLO_s, dropO_s, forO_s, asgO_s, bind2_ss, addD_ok, subD_ok, ltD_ok, leD_ok, gtD_ok, geD_ok, eqD_int, neD_int, ix_pair0, ix_pair1, setS, negD, lenD_l, lenD_t, listD_l, tupD_t, seqD_l, short2, shortL0, shortL1, shortL2, shortL3, shortL4, outD_rt, outD_nx, Bool.not_true, Bool.not_false]
    rw [modD_ok (by decide)]
    exact ⟨_, Int.emod_nonneg _ (by decide), rfl⟩
theorem bd_small {a : Int} (h1 : -(10 ^ 24) ≤ a) (h2 : a ≤ 10 ^ 24) : bd a 100 := by
  unfold bd
  have : (2 : Nat) ^ 100 = 1267650600228229401496703205376 := by decide
  omega
structure FolkB (p : Int × Int) : Prop where
  l : -(10 ^ 20) ≤ p.1
  u : p.1 ≤ 10 ^ 20
  w : 1 ≤ p.2
  v : p.2 ≤ 10 ^ 9
noncomputable def gapI (o p : Int × Int) : Int := if o.1 - p.1 < 0 then -(o.1 - p.1) else o.1 - p.1
noncomputable def metf (o p : Int × Int) : Int × Int := red (o.2 * p.2 * gapI o p) (o.2 + p.2)
theorem red_eq {x y x' y' : Int} (hy : 0 < y) (hy' : 0 < y') (h : x * y' = x' * y) : red x y = red x' y' := by
  refine fr1_eq (red_fr hy) (red_fr hy') ?_
  have e1 := red_val (t := x) hy
  have e2 := red_val (t := x') hy'
  generalize (red x y).1 = r1 at e1 ⊢
  generalize (red x y).2 = r2 at e1 ⊢
  generalize (red x' y').1 = s1 at e2 ⊢
  generalize (red x' y').2 = s2 at e2 ⊢
  have hyy : y * y' ≠ 0 := Int.mul_ne_zero (by omega) (by omega)
  refine Int.eq_of_mul_eq_mul_right hyy ?_
  calc r1 * s2 * (y * y') = (r1 * y) * (s2 * y') := by ac_rfl
    _ = (x * r2) * (s2 * y') := by rw [e1]
    _ = (x * y') * (r2 * s2) := by ac_rfl
    _ = (x' * y) * (r2 * s2) := by rw [h]
    _ = (x' * s2) * (r2 * y) := by ac_rfl
    _ = (s1 * y') * (r2 * y) := by rw [e2]
    _ = s1 * r2 * (y * y') := by ac_rfl
noncomputable def absI (a : Int) : Int := if a < 0 then -a else a
theorem absI_mul (a k : Int) (hk : 0 < k) : absI (a * k) = absI a * k := by
  unfold absI
  by_cases h : a < 0
  · have : a * k < 0 := Int.mul_neg_of_neg_of_pos h hk
    rw [if_pos h, if_pos this, Int.neg_mul]
  · have : ¬ a * k < 0 := by
      have := Int.mul_nonneg (a := a) (b := k) (by omega) (by omega)
      omega
    rw [if_neg h, if_neg this]
noncomputable def ltq (p q : Int × Int) : Prop := p.1 * q.2 < q.1 * p.2
noncomputable instance (p q : Int × Int) : Decidable (ltq p q) := by unfold ltq; exact inferInstance
theorem mul_lt_iff {a b c : Int} (h : 0 < c) : a * c < b * c ↔ a < b := ⟨fun x => Int.lt_of_mul_lt_mul_right x (by omega), fun x => Int.mul_lt_mul_of_pos_right x h⟩
theorem red_ltq {p : Int × Int} {t c : Int} (hc : 0 < c) : ltq (red t c) p ↔ t * p.2 < p.1 * c := by
  unfold ltq
  have e := red_val (t := t) hc
  have h2 := (red_fr (t := t) hc).pos
  generalize (red t c).1 = x at e ⊢
  generalize (red t c).2 = y at e h2 ⊢
  rw [← mul_lt_iff hc, ← mul_lt_iff (a := t * p.2) h2]
  have e1 : p.1 * y * c = p.1 * c * y := by ac_rfl
  have e2 : x * p.2 * c = t * p.2 * y := by
    calc x * p.2 * c = (x * c) * p.2 := by ac_rfl
      _ = (t * y) * p.2 := by rw [e]
      _ = t * p.2 * y := by ac_rfl
  rw [e1, e2]
noncomputable def high (r o : Int × Int) : Int × Int := red (o.1 * (r.2 * o.2) + r.1) (r.2 * o.2)
structure Few (r : Int × Int) (g : Nat → Int × Int) (ks : List Nat) (ns : List Nat) : Prop where
  sub : ∀ n ∈ ns, n ∈ ks
  some : ks ≠ [] → ns ≠ []
  nod : ns.Nodup
  apart : ns.Pairwise fun n m => ltq r (metf (g n) (g m))
  rise : (ns.map fun n => high r (g n)).Pairwise ltq
  cov : ∀ k ∈ ks, ∃ n ∈ ns, ¬ ltq r (far (g k) (high r (g n)))
structure Rch (r : Int × Int) : Prop where
  nn : 0 ≤ r.1
  pos : 0 < r.2
  a : bd r.1 150
  b : bd r.2 60
noncomputable def atF (fk : List (Int × Int)) (k : Nat) : Int × Int := fk.getD k (0, 1)
noncomputable def keep (fk : List (Int × Int)) (r p : Int × Int) (ks : List Nat) : List Nat := ks.filter fun z => decide (ltq r (far (atF fk z) p))
noncomputable def minR (i j : Int) : Int := if j < i then j else i
structure Ring (a : Int) : Prop where
  l : 1 ≤ a
  u : a ≤ 10 ^ 20
structure RPl (a x : Int) : Prop where
  l : 0 ≤ x
  u : x < a
structure RPo (a : Int) (p : Int × Int) : Prop where
  sm : Sp p
  b : 0 < p.2
  l : 0 ≤ p.1
  u : p.1 < a * p.2
structure RchB (r : Int × Int) : Prop where
  a : bd r.1 500
  b : bd r.2 500
noncomputable def encPP (q : (Int × Int) × (Int × Int)) : PyData := .tuple [encP q.1, encP q.2]
structure Pl (p : Int × Int) : Prop where
  l1 : -(10 ^ 20) ≤ p.1
  u1 : p.1 ≤ 10 ^ 20
  l2 : -(10 ^ 20) ≤ p.2
  u2 : p.2 ≤ 10 ^ 20
structure PP1 (p : Int × Int) : Prop where
  sm : Sp p
  b : 0 < p.2
structure PP (q : (Int × Int) × (Int × Int)) : Prop where
  a : PP1 q.1
  b : PP1 q.2
theorem Pl.b1 {p : Int × Int} (h : Pl p) : bd p.1 100 := bd_small (by have := h.l1; omega) (by have := h.u1; omega)
theorem Pl.b2 {p : Int × Int} (h : Pl p) : bd p.2 100 := bd_small (by have := h.l2; omega) (by have := h.u2; omega)
theorem ix_enc0 (p : Int × Int) : ixD (encP p) (.int 0) = some (.int p.1) := rfl
theorem ix_enc1 (p : Int × Int) : ixD (encP p) (.int 1) = some (.int p.2) := rfl
theorem ix_pp0 (q : (Int × Int) × (Int × Int)) : ixD (encPP q) (.int 0) = some (encP q.1) := rfl
theorem ix_pp1 (q : (Int × Int) × (Int × Int)) : ixD (encPP q) (.int 1) = some (encP q.2) := rfl
theorem pow10_19 : powD (.int 10) (.int 19) = some (.int (10 ^ 19)) := rfl
theorem pow10_38 : powD (.int 10) (.int 38) = some (.int (10 ^ 38)) := rfl
theorem pow10_39 : powD (.int 10) (.int 39) = some (.int (10 ^ 39)) := rfl
theorem plane_step (ns : List Int) (at0 head : Int) (most : Option PyData) (ha : 0 ≤ at0) (hh : 0 ≤ head) (i : Nat) (ps : List (Int × Int)) (hl : ps.length < 900) (hp : ∀ p ∈ ps, Pl p) (c6 c7 c8 : Option PyData) :
    ∃ p c6' c7' c8', Pl p ∧ L_l_plane_0 [some (.list (ns.map .int)), some (.int at0), most, some (.int head), some (encL ps), some (.int (i : Nat)), c6, c7, c8] = some (.nx [some (.list (ns.map .int)), some (.int at0), most, some (.int head), some (encL (ps ++ [p])), some (.int (i : Nat)), c6', c7', c8']) := by
  obtain ⟨m, hm, em⟩ := mix_ok (ns.getD (at0 + 1 + (i : Nat)).toNat 0) 7 (by unfold bd; decide)
  have bg : ∀ n : Int, 0 < n → n ≤ 10 ^ 40 → isBig n = true := fun n h1 h2 => (show bd n 200 by
    have : bd (10 ^ 40) 200 := by unfold bd; decide
    exact this.of_le (by omega) h2).big (by decide)
  have fin : ∀ (p : Int × Int) (u v w : Option PyData), appD 4 [some (.list (ns.map .int)), some (.int at0), most, some (.int head), some (encL ps), some (.int (i : Nat)), u, v, w] (encP p) = some (.nx [some (.list (ns.map .int)), some (.int at0), most, some (.int head), some (encL (ps ++ [p])), some (.int (i : Nat)), u, v, w]) := fun p u v w => by
    rw [appD_ok (ds := ps.map encP) rfl (by rw [List.length_map]; omega)]
    try simp only [runD, seqF_def, thenO_nx, thenO_rt, List.length_cons, List.length_nil, Nat.reduceAdd, reduceIte, List.map_cons, List.map_nil, List.reduceReplicate, List.append_nil, List.nil_append, List.cons_append, List.getElem?_cons_zero, List.getElem?_cons_succ, List.set_cons_zero, List.set_cons_succ, Option.join_some, Option.bind_some, Option.map_some, Option.filter_some, consD_ss, testD_s, condO_t, condO_f, andB_t, andB_f, orB_t, orB_f, andV_t, andV_f, orV_t, orV_f, notV_s, setO_s, setLO_s, dropO_s, forO_s, asgO_s, bind2_ss, addD_ok, subD_ok, ltD_ok, leD_ok, gtD_ok, geD_ok, eqD_int, neD_int, ix_pair0, ix_pair1, setS, negD, lenD_l, lenD_t, listD_l, tupD_t, seqD_l, short2, shortL0, shortL1, shortL2, shortL3, shortL4, outD_rt, outD_nx, Bool.not_true, Bool.not_false]
    simp [encL]
  obtain ⟨sz, hsz, esz⟩ : ∃ sz : Int, (1 ≤ sz ∧ sz ≤ 10 ^ 19) ∧ ixD (.list [.int 19, .int 19, .int 201, .int (10 ^ 19)]) (.int (head / 20 % 4)) = some (.int sz) := by
    obtain ⟨x, hx, ex⟩ := ix4 (.int 19) (.int 19) (.int 201) (.int (10 ^ 19)) (j := head / 20 % 4) (Int.emod_nonneg _ (by decide)) (Int.emod_lt_of_pos _ (by decide))
    rcases hx with rfl | rfl | rfl | rfl
    · exact ⟨19, by decide, ex⟩
    · exact ⟨19, by decide, ex⟩
    · exact ⟨201, by decide, ex⟩
    · exact ⟨10 ^ 19, by decide, ex⟩
  simp only [L_l_plane_0]
  try simp only [runD, seqF_def, thenO_nx, thenO_rt, List.length_cons, List.length_nil, Nat.reduceAdd, reduceIte, List.map_cons, List.map_nil, List.reduceReplicate, List.append_nil, List.nil_append, List.cons_append, List.getElem?_cons_zero, List.getElem?_cons_succ, List.set_cons_zero, List.set_cons_succ, Option.join_some, Option.bind_some, Option.map_some, Option.filter_some, consD_ss, testD_s, condO_t, condO_f, andB_t, andB_f, orB_t, orB_f, andV_t, andV_f, orV_t, orV_f, notV_s, setO_s, setLO_s, dropO_s, forO_s, asgO_s, bind2_ss, addD_ok, subD_ok, ltD_ok, leD_ok, gtD_ok, geD_ok, eqD_int, neD_int, ix_pair0, ix_pair1, setS, negD, lenD_l, lenD_t, listD_l, tupD_t, seqD_l, short2, shortL0, shortL1, shortL2, shortL3, shortL4, outD_rt, outD_nx, Bool.not_true, Bool.not_false]
  rw [cell_eq ns _ (by omega)]
  try simp only [runD, seqF_def, thenO_nx, thenO_rt, List.length_cons, List.length_nil, Nat.reduceAdd, reduceIte, List.map_cons, List.map_nil, List.reduceReplicate, List.append_nil, List.nil_append, List.cons_append, List.getElem?_cons_zero, List.getElem?_cons_succ, List.set_cons_zero, List.set_cons_succ, Option.join_some, Option.bind_some, Option.map_some, Option.filter_some, consD_ss, testD_s, condO_t, condO_f, andB_t, andB_f, orB_t, orB_f, andV_t, andV_f, orV_t, orV_f, notV_s, setO_s, setLO_s, dropO_s, forO_s, asgO_s, bind2_ss, addD_ok, subD_ok, ltD_ok, leD_ok, gtD_ok, geD_ok, eqD_int, neD_int, ix_pair0, ix_pair1, setS, negD, lenD_l, lenD_t, listD_l, tupD_t, seqD_l, short2, shortL0, shortL1, shortL2, shortL3, shortL4, outD_rt, outD_nx, Bool.not_true, Bool.not_false]
  rw [em]
  try simp only [runD, seqF_def, thenO_nx, thenO_rt, List.length_cons, List.length_nil, Nat.reduceAdd, reduceIte, List.map_cons, List.map_nil, List.reduceReplicate, List.append_nil, List.nil_append, List.cons_append, List.getElem?_cons_zero, List.getElem?_cons_succ, List.set_cons_zero, List.set_cons_succ, Option.join_some, Option.bind_some, Option.map_some, Option.filter_some, consD_ss, testD_s, condO_t, condO_f, andB_t, andB_f, orB_t, orB_f, andV_t, andV_f, orV_t, orV_f, notV_s, setO_s, setLO_s, dropO_s, forO_s, asgO_s, bind2_ss, addD_ok, subD_ok, ltD_ok, leD_ok, gtD_ok, geD_ok, eqD_int, neD_int, ix_pair0, ix_pair1, setS, negD, lenD_l, lenD_t, listD_l, tupD_t, seqD_l, short2, shortL0, shortL1, shortL2, shortL3, shortL4, outD_rt, outD_nx, Bool.not_true, Bool.not_false]
  rw [pow10_19]
  try simp only [runD, seqF_def, thenO_nx, thenO_rt, List.length_cons, List.length_nil, Nat.reduceAdd, reduceIte, List.map_cons, List.map_nil, List.reduceReplicate, List.append_nil, List.nil_append, List.cons_append, List.getElem?_cons_zero, List.getElem?_cons_succ, List.set_cons_zero, List.set_cons_succ, Option.join_some, Option.bind_some, Option.map_some, Option.filter_some, consD_ss, testD_s, condO_t, condO_f, andB_t, andB_f, orB_t, orB_f, andV_t, andV_f, orV_t, orV_f, notV_s, setO_s, setLO_s, dropO_s, forO_s, asgO_s, bind2_ss, addD_ok, subD_ok, ltD_ok, leD_ok, gtD_ok, geD_ok, eqD_int, neD_int, ix_pair0, ix_pair1, setS, negD, lenD_l, lenD_t, listD_l, tupD_t, seqD_l, short2, shortL0, shortL1, shortL2, shortL3, shortL4, outD_rt, outD_nx, Bool.not_true, Bool.not_false]
  rw [fdivD_ok (a := head) (b := 20) (by decide) (bg 20 (by decide) (by decide))]
  try simp only [runD, seqF_def, thenO_nx, thenO_rt, List.length_cons, List.length_nil, Nat.reduceAdd, reduceIte, List.map_cons, List.map_nil, List.reduceReplicate, List.append_nil, List.nil_append, List.cons_append, List.getElem?_cons_zero, List.getElem?_cons_succ, List.set_cons_zero, List.set_cons_succ, Option.join_some, Option.bind_some, Option.map_some, Option.filter_some, consD_ss, testD_s, condO_t, condO_f, andB_t, andB_f, orB_t, orB_f, andV_t, andV_f, orV_t, orV_f, notV_s, setO_s, setLO_s, dropO_s, forO_s, asgO_s, bind2_ss, addD_ok, subD_ok, ltD_ok, leD_ok, gtD_ok, geD_ok, eqD_int, neD_int, ix_pair0, ix_pair1, setS, negD, lenD_l, lenD_t, listD_l, tupD_t, seqD_l, short2, shortL0, shortL1, shortL2, shortL3, shortL4, outD_rt, outD_nx, Bool.not_true, Bool.not_false]
  rw [modD_ok (b := 4) (by decide)]
  try simp only [runD, seqF_def, thenO_nx, thenO_rt, List.length_cons, List.length_nil, Nat.reduceAdd, reduceIte, List.map_cons, List.map_nil, List.reduceReplicate, List.append_nil, List.nil_append, List.cons_append, List.getElem?_cons_zero, List.getElem?_cons_succ, List.set_cons_zero, List.set_cons_succ, Option.join_some, Option.bind_some, Option.map_some, Option.filter_some, consD_ss, testD_s, condO_t, condO_f, andB_t, andB_f, orB_t, orB_f, andV_t, andV_f, orV_t, orV_f, notV_s, setO_s, setLO_s, dropO_s, forO_s, asgO_s, bind2_ss, addD_ok, subD_ok, ltD_ok, leD_ok, gtD_ok, geD_ok, eqD_int, neD_int, ix_pair0, ix_pair1, setS, negD, lenD_l, lenD_t, listD_l, tupD_t, seqD_l, short2, shortL0, shortL1, shortL2, shortL3, shortL4, outD_rt, outD_nx, Bool.not_true, Bool.not_false]
  rw [esz, filt (lf_int sz)]
  try simp only [runD, seqF_def, thenO_nx, thenO_rt, List.length_cons, List.length_nil, Nat.reduceAdd, reduceIte, List.map_cons, List.map_nil, List.reduceReplicate, List.append_nil, List.nil_append, List.cons_append, List.getElem?_cons_zero, List.getElem?_cons_succ, List.set_cons_zero, List.set_cons_succ, Option.join_some, Option.bind_some, Option.map_some, Option.filter_some, consD_ss, testD_s, condO_t, condO_f, andB_t, andB_f, orB_t, orB_f, andV_t, andV_f, orV_t, orV_f, notV_s, setO_s, setLO_s, dropO_s, forO_s, asgO_s, bind2_ss, addD_ok, subD_ok, ltD_ok, leD_ok, gtD_ok, geD_ok, eqD_int, neD_int, ix_pair0, ix_pair1, setS, negD, lenD_l, lenD_t, listD_l, tupD_t, seqD_l, short2, shortL0, shortL1, shortL2, shortL3, shortL4, outD_rt, outD_nx, Bool.not_true, Bool.not_false]
  rw [fdivD_ok (a := sz) (b := 2) (by decide) (bg 2 (by decide) (by decide)), fdivD_ok (a := m) (b := 10 ^ 19) (by decide) (bg _ (by decide) (by decide))]
  try simp only [runD, seqF_def, thenO_nx, thenO_rt, List.length_cons, List.length_nil, Nat.reduceAdd, reduceIte, List.map_cons, List.map_nil, List.reduceReplicate, List.append_nil, List.nil_append, List.cons_append, List.getElem?_cons_zero, List.getElem?_cons_succ, List.set_cons_zero, List.set_cons_succ, Option.join_some, Option.bind_some, Option.map_some, Option.filter_some, consD_ss, testD_s, condO_t, condO_f, andB_t, andB_f, orB_t, orB_f, andV_t, andV_f, orV_t, orV_f, notV_s, setO_s, setLO_s, dropO_s, forO_s, asgO_s, bind2_ss, addD_ok, subD_ok, ltD_ok, leD_ok, gtD_ok, geD_ok, eqD_int, neD_int, ix_pair0, ix_pair1, setS, negD, lenD_l, lenD_t, listD_l, tupD_t, seqD_l, short2, shortL0, shortL1, shortL2, shortL3, shortL4, outD_rt, outD_nx, Bool.not_true, Bool.not_false]
  rw [modD_ok (a := m) (b := sz) (by omega), modD_ok (a := m / 10 ^ 19) (b := sz) (by omega)]
  try simp only [runD, seqF_def, thenO_nx, thenO_rt, List.length_cons, List.length_nil, Nat.reduceAdd, reduceIte, List.map_cons, List.map_nil, List.reduceReplicate, List.append_nil, List.nil_append, List.cons_append, List.getElem?_cons_zero, List.getElem?_cons_succ, List.set_cons_zero, List.set_cons_succ, Option.join_some, Option.bind_some, Option.map_some, Option.filter_some, consD_ss, testD_s, condO_t, condO_f, andB_t, andB_f, orB_t, orB_f, andV_t, andV_f, orV_t, orV_f, notV_s, setO_s, setLO_s, dropO_s, forO_s, asgO_s, bind2_ss, addD_ok, subD_ok, ltD_ok, leD_ok, gtD_ok, geD_ok, eqD_int, neD_int, ix_pair0, ix_pair1, setS, negD, lenD_l, lenD_t, listD_l, tupD_t, seqD_l, short2, shortL0, shortL1, shortL2, shortL3, shortL4, outD_rt, outD_nx, Bool.not_true, Bool.not_false]
  have hr1 : 0 ≤ m % sz ∧ m % sz < sz := ⟨Int.emod_nonneg _ (by omega), Int.emod_lt_of_pos _ (by omega)⟩
  have hr2 : 0 ≤ m / 10 ^ 19 % sz ∧ m / 10 ^ 19 % sz < sz := ⟨Int.emod_nonneg _ (by omega), Int.emod_lt_of_pos _ (by omega)⟩
  have hs2 : 0 ≤ sz / 2 ∧ sz / 2 ≤ sz := by omega
  generalize hx1 : m % sz - sz / 2 = x1
  generalize hy1 : m / 10 ^ 19 % sz - sz / 2 = y1
  have hP : Pl (x1, y1) := ⟨by show -(10 ^ 20) ≤ x1; omega, by show x1 ≤ 10 ^ 20; omega, by show -(10 ^ 20) ≤ y1; omega, by show y1 ≤ 10 ^ 20; omega⟩
  rw [show (PyData.tuple [.int x1, .int y1]) = encP (x1, y1) from rfl]
  rw [pow10_38]
  try simp only [runD, seqF_def, thenO_nx, thenO_rt, List.length_cons, List.length_nil, Nat.reduceAdd, reduceIte, List.map_cons, List.map_nil, List.reduceReplicate, List.append_nil, List.nil_append, List.cons_append, List.getElem?_cons_zero, List.getElem?_cons_succ, List.set_cons_zero, List.set_cons_succ, Option.join_some, Option.bind_some, Option.map_some, Option.filter_some, consD_ss, testD_s, condO_t, condO_f, andB_t, andB_f, orB_t, orB_f, andV_t, andV_f, orV_t, orV_f, notV_s, setO_s, setLO_s, dropO_s, forO_s, asgO_s, bind2_ss, addD_ok, subD_ok, ltD_ok, leD_ok, gtD_ok, geD_ok, eqD_int, neD_int, ix_pair0, ix_pair1, setS, negD, lenD_l, lenD_t, listD_l, tupD_t, seqD_l, short2, shortL0, shortL1, shortL2, shortL3, shortL4, outD_rt, outD_nx, Bool.not_true, Bool.not_false]
  rw [fdivD_ok (a := m) (b := 10 ^ 38) (by decide) (bg _ (by decide) (by decide))]
  try simp only [runD, seqF_def, thenO_nx, thenO_rt, List.length_cons, List.length_nil, Nat.reduceAdd, reduceIte, List.map_cons, List.map_nil, List.reduceReplicate, List.append_nil, List.nil_append, List.cons_append, List.getElem?_cons_zero, List.getElem?_cons_succ, List.set_cons_zero, List.set_cons_succ, Option.join_some, Option.bind_some, Option.map_some, Option.filter_some, consD_ss, testD_s, condO_t, condO_f, andB_t, andB_f, orB_t, orB_f, andV_t, andV_f, orV_t, orV_f, notV_s, setO_s, setLO_s, dropO_s, forO_s, asgO_s, bind2_ss, addD_ok, subD_ok, ltD_ok, leD_ok, gtD_ok, geD_ok, eqD_int, neD_int, ix_pair0, ix_pair1, setS, negD, lenD_l, lenD_t, listD_l, tupD_t, seqD_l, short2, shortL0, shortL1, shortL2, shortL3, shortL4, outD_rt, outD_nx, Bool.not_true, Bool.not_false]
  rw [modD_ok (b := 4) (by decide)]
  try simp only [runD, seqF_def, thenO_nx, thenO_rt, List.length_cons, List.length_nil, Nat.reduceAdd, reduceIte, List.map_cons, List.map_nil, List.reduceReplicate, List.append_nil, List.nil_append, List.cons_append, List.getElem?_cons_zero, List.getElem?_cons_succ, List.set_cons_zero, List.set_cons_succ, Option.join_some, Option.bind_some, Option.map_some, Option.filter_some, consD_ss, testD_s, condO_t, condO_f, andB_t, andB_f, orB_t, orB_f, andV_t, andV_f, orV_t, orV_f, notV_s, setO_s, setLO_s, dropO_s, forO_s, asgO_s, bind2_ss, addD_ok, subD_ok, ltD_ok, leD_ok, gtD_ok, geD_ok, eqD_int, neD_int, ix_pair0, ix_pair1, setS, negD, lenD_l, lenD_t, listD_l, tupD_t, seqD_l, short2, shortL0, shortL1, shortL2, shortL3, shortL4, outD_rt, outD_nx, Bool.not_true, Bool.not_false]
  cases (m / 10 ^ 38 % 4 == 1) with
  | false =>
    try simp only [runD, seqF_def, thenO_nx, thenO_rt, List.length_cons, List.length_nil, Nat.reduceAdd, reduceIte, List.map_cons, List.map_nil, List.reduceReplicate, List.append_nil, List.nil_append, List.cons_append, List.getElem?_cons_zero, List.getElem?_cons_succ, List.set_cons_zero, List.set_cons_succ, Option.join_some, Option.bind_some, Option.map_some, Option.filter_some, consD_ss, testD_s, condO_t, condO_f, andB_t, andB_f, orB_t, orB_f, andV_t, andV_f, orV_t, orV_f, notV_s, setO_s, setLO_s, dropO_s, forO_s, asgO_s, bind2_ss, addD_ok, subD_ok, ltD_ok, leD_ok, gtD_ok, geD_ok, eqD_int, neD_int, ix_pair0, ix_pair1, setS, negD, lenD_l, lenD_t, listD_l, tupD_t, seqD_l, short2, shortL0, shortL1, shortL2, shortL3, shortL4, outD_rt, outD_nx, Bool.not_true, Bool.not_false]
    exact ⟨(x1, y1), _, _, _, hP, fin _ _ _ _⟩
  | true =>
    try simp only [runD, seqF_def, thenO_nx, thenO_rt, List.length_cons, List.length_nil, Nat.reduceAdd, reduceIte, List.map_cons, List.map_nil, List.reduceReplicate, List.append_nil, List.nil_append, List.cons_append, List.getElem?_cons_zero, List.getElem?_cons_succ, List.set_cons_zero, List.set_cons_succ, Option.join_some, Option.bind_some, Option.map_some, Option.filter_some, consD_ss, testD_s, condO_t, condO_f, andB_t, andB_f, orB_t, orB_f, andV_t, andV_f, orV_t, orV_f, notV_s, setO_s, setLO_s, dropO_s, forO_s, asgO_s, bind2_ss, addD_ok, subD_ok, ltD_ok, leD_ok, gtD_ok, geD_ok, eqD_int, neD_int, ix_pair0, ix_pair1, setS, negD, lenD_l, lenD_t, listD_l, tupD_t, seqD_l, short2, shortL0, shortL1, shortL2, shortL3, shortL4, outD_rt, outD_nx, Bool.not_true, Bool.not_false]
    rw [lenD_encs]
    try simp only [runD, seqF_def, thenO_nx, thenO_rt, List.length_cons, List.length_nil, Nat.reduceAdd, reduceIte, List.map_cons, List.map_nil, List.reduceReplicate, List.append_nil, List.nil_append, List.cons_append, List.getElem?_cons_zero, List.getElem?_cons_succ, List.set_cons_zero, List.set_cons_succ, Option.join_some, Option.bind_some, Option.map_some, Option.filter_some, consD_ss, testD_s, condO_t, condO_f, andB_t, andB_f, orB_t, orB_f, andV_t, andV_f, orV_t, orV_f, notV_s, setO_s, setLO_s, dropO_s, forO_s, asgO_s, bind2_ss, addD_ok, subD_ok, ltD_ok, leD_ok, gtD_ok, geD_ok, eqD_int, neD_int, ix_pair0, ix_pair1, setS, negD, lenD_l, lenD_t, listD_l, tupD_t, seqD_l, short2, shortL0, shortL1, shortL2, shortL3, shortL4, outD_rt, outD_nx, Bool.not_true, Bool.not_false]
    cases ps with
    | nil =>
      have hz : decide ((0 : Int) < (([] : List (Int × Int)).length : Nat)) = false := rfl
      rw [hz]
      try simp only [runD, seqF_def, thenO_nx, thenO_rt, List.length_cons, List.length_nil, Nat.reduceAdd, reduceIte, List.map_cons, List.map_nil, List.reduceReplicate, List.append_nil, List.nil_append, List.cons_append, List.getElem?_cons_zero, List.getElem?_cons_succ, List.set_cons_zero, List.set_cons_succ, Option.join_some, Option.bind_some, Option.map_some, Option.filter_some, consD_ss, testD_s, condO_t, condO_f, andB_t, andB_f, orB_t, orB_f, andV_t, andV_f, orV_t, orV_f, notV_s, setO_s, setLO_s, dropO_s, forO_s, asgO_s, bind2_ss, addD_ok, subD_ok, ltD_ok, leD_ok, gtD_ok, geD_ok, eqD_int, neD_int, ix_pair0, ix_pair1, setS, negD, lenD_l, lenD_t, listD_l, tupD_t, seqD_l, short2, shortL0, shortL1, shortL2, shortL3, shortL4, outD_rt, outD_nx, Bool.not_true, Bool.not_false]
      exact ⟨(x1, y1), _, _, _, hP, fin _ _ _ _⟩
    | cons p r =>
      have hz : decide ((0 : Int) < ((p :: r).length : Nat)) = true := decide_eq_true (by simp)
      rw [hz]
      try simp only [runD, seqF_def, thenO_nx, thenO_rt, List.length_cons, List.length_nil, Nat.reduceAdd, reduceIte, List.map_cons, List.map_nil, List.reduceReplicate, List.append_nil, List.nil_append, List.cons_append, List.getElem?_cons_zero, List.getElem?_cons_succ, List.set_cons_zero, List.set_cons_succ, Option.join_some, Option.bind_some, Option.map_some, Option.filter_some, consD_ss, testD_s, condO_t, condO_f, andB_t, andB_f, orB_t, orB_f, andV_t, andV_f, orV_t, orV_f, notV_s, setO_s, setLO_s, dropO_s, forO_s, asgO_s, bind2_ss, addD_ok, subD_ok, ltD_ok, leD_ok, gtD_ok, geD_ok, eqD_int, neD_int, ix_pair0, ix_pair1, setS, negD, lenD_l, lenD_t, listD_l, tupD_t, seqD_l, short2, shortL0, shortL1, shortL2, shortL3, shortL4, outD_rt, outD_nx, Bool.not_true, Bool.not_false]
      rw [ix_first]
      try simp only [runD, seqF_def, thenO_nx, thenO_rt, List.length_cons, List.length_nil, Nat.reduceAdd, reduceIte, List.map_cons, List.map_nil, List.reduceReplicate, List.append_nil, List.nil_append, List.cons_append, List.getElem?_cons_zero, List.getElem?_cons_succ, List.set_cons_zero, List.set_cons_succ, Option.join_some, Option.bind_some, Option.map_some, Option.filter_some, consD_ss, testD_s, condO_t, condO_f, andB_t, andB_f, orB_t, orB_f, andV_t, andV_f, orV_t, orV_f, notV_s, setO_s, setLO_s, dropO_s, forO_s, asgO_s, bind2_ss, addD_ok, subD_ok, ltD_ok, leD_ok, gtD_ok, geD_ok, eqD_int, neD_int, ix_pair0, ix_pair1, setS, negD, lenD_l, lenD_t, listD_l, tupD_t, seqD_l, short2, shortL0, shortL1, shortL2, shortL3, shortL4, outD_rt, outD_nx, Bool.not_true, Bool.not_false]
      rw [ix_enc0]
      try simp only [runD, seqF_def, thenO_nx, thenO_rt, List.length_cons, List.length_nil, Nat.reduceAdd, reduceIte, List.map_cons, List.map_nil, List.reduceReplicate, List.append_nil, List.nil_append, List.cons_append, List.getElem?_cons_zero, List.getElem?_cons_succ, List.set_cons_zero, List.set_cons_succ, Option.join_some, Option.bind_some, Option.map_some, Option.filter_some, consD_ss, testD_s, condO_t, condO_f, andB_t, andB_f, orB_t, orB_f, andV_t, andV_f, orV_t, orV_f, notV_s, setO_s, setLO_s, dropO_s, forO_s, asgO_s, bind2_ss, addD_ok, subD_ok, ltD_ok, leD_ok, gtD_ok, geD_ok, eqD_int, neD_int, ix_pair0, ix_pair1, setS, negD, lenD_l, lenD_t, listD_l, tupD_t, seqD_l, short2, shortL0, shortL1, shortL2, shortL3, shortL4, outD_rt, outD_nx, Bool.not_true, Bool.not_false]
      rw [pow10_39]
      try simp only [runD, seqF_def, thenO_nx, thenO_rt, List.length_cons, List.length_nil, Nat.reduceAdd, reduceIte, List.map_cons, List.map_nil, List.reduceReplicate, List.append_nil, List.nil_append, List.cons_append, List.getElem?_cons_zero, List.getElem?_cons_succ, List.set_cons_zero, List.set_cons_succ, Option.join_some, Option.bind_some, Option.map_some, Option.filter_some, consD_ss, testD_s, condO_t, condO_f, andB_t, andB_f, orB_t, orB_f, andV_t, andV_f, orV_t, orV_f, notV_s, setO_s, setLO_s, dropO_s, forO_s, asgO_s, bind2_ss, addD_ok, subD_ok, ltD_ok, leD_ok, gtD_ok, geD_ok, eqD_int, neD_int, ix_pair0, ix_pair1, setS, negD, lenD_l, lenD_t, listD_l, tupD_t, seqD_l, short2, shortL0, shortL1, shortL2, shortL3, shortL4, outD_rt, outD_nx, Bool.not_true, Bool.not_false]
      rw [fdivD_ok (a := m) (b := 10 ^ 39) (by decide) (bg _ (by decide) (by decide))]
      try simp only [runD, seqF_def, thenO_nx, thenO_rt, List.length_cons, List.length_nil, Nat.reduceAdd, reduceIte, List.map_cons, List.map_nil, List.reduceReplicate, List.append_nil, List.nil_append, List.cons_append, List.getElem?_cons_zero, List.getElem?_cons_succ, List.set_cons_zero, List.set_cons_succ, Option.join_some, Option.bind_some, Option.map_some, Option.filter_some, consD_ss, testD_s, condO_t, condO_f, andB_t, andB_f, orB_t, orB_f, andV_t, andV_f, orV_t, orV_f, notV_s, setO_s, setLO_s, dropO_s, forO_s, asgO_s, bind2_ss, addD_ok, subD_ok, ltD_ok, leD_ok, gtD_ok, geD_ok, eqD_int, neD_int, ix_pair0, ix_pair1, setS, negD, lenD_l, lenD_t, listD_l, tupD_t, seqD_l, short2, shortL0, shortL1, shortL2, shortL3, shortL4, outD_rt, outD_nx, Bool.not_true, Bool.not_false]
      rw [modD_ok (b := 2) (by decide)]
      try simp only [runD, seqF_def, thenO_nx, thenO_rt, List.length_cons, List.length_nil, Nat.reduceAdd, reduceIte, List.map_cons, List.map_nil, List.reduceReplicate, List.append_nil, List.nil_append, List.cons_append, List.getElem?_cons_zero, List.getElem?_cons_succ, List.set_cons_zero, List.set_cons_succ, Option.join_some, Option.bind_some, Option.map_some, Option.filter_some, consD_ss, testD_s, condO_t, condO_f, andB_t, andB_f, orB_t, orB_f, andV_t, andV_f, orV_t, orV_f, notV_s, setO_s, setLO_s, dropO_s, forO_s, asgO_s, bind2_ss, addD_ok, subD_ok, ltD_ok, leD_ok, gtD_ok, geD_ok, eqD_int, neD_int, ix_pair0, ix_pair1, setS, negD, lenD_l, lenD_t, listD_l, tupD_t, seqD_l, short2, shortL0, shortL1, shortL2, shortL3, shortL4, outD_rt, outD_nx, Bool.not_true, Bool.not_false]
      have hp1 := hp p List.mem_cons_self
      have r2 : m / 10 ^ 39 % 2 = 0 ∨ m / 10 ^ 39 % 2 = 1 := by omega
      rcases r2 with r2 | r2
      · rw [r2, show ixD (.list [encP p, .tuple [.int p.1, .int y1]]) (.int 0) = some (encP p) from rfl, filt (lf_encP p)]
        try simp only [runD, seqF_def, thenO_nx, thenO_rt, List.length_cons, List.length_nil, Nat.reduceAdd, reduceIte, List.map_cons, List.map_nil, List.reduceReplicate, List.append_nil, List.nil_append, List.cons_append, List.getElem?_cons_zero, List.getElem?_cons_succ, List.set_cons_zero, List.set_cons_succ, Option.join_some, Option.bind_some, Option.map_some, Option.filter_some, consD_ss, testD_s, condO_t, condO_f, andB_t, andB_f, orB_t, orB_f, andV_t, andV_f, orV_t, orV_f, notV_s, setO_s, setLO_s, dropO_s, forO_s, asgO_s, bind2_ss, addD_ok, subD_ok, ltD_ok, leD_ok, gtD_ok, geD_ok, eqD_int, neD_int, ix_pair0, ix_pair1, setS, negD, lenD_l, lenD_t, listD_l, tupD_t, seqD_l, short2, shortL0, shortL1, shortL2, shortL3, shortL4, outD_rt, outD_nx, Bool.not_true, Bool.not_false]
        exact ⟨p, _, _, _, hp1, fin _ _ _ _⟩
      · rw [r2, show ixD (.list [encP p, .tuple [.int p.1, .int y1]]) (.int 1) = some (encP (p.1, y1)) from rfl, filt (lf_encP (p.1, y1))]
        try simp only [runD, seqF_def, thenO_nx, thenO_rt, List.length_cons, List.length_nil, Nat.reduceAdd, reduceIte, List.map_cons, List.map_nil, List.reduceReplicate, List.append_nil, List.nil_append, List.cons_append, List.getElem?_cons_zero, List.getElem?_cons_succ, List.set_cons_zero, List.set_cons_succ, Option.join_some, Option.bind_some, Option.map_some, Option.filter_some, consD_ss, testD_s, condO_t, condO_f, andB_t, andB_f, orB_t, orB_f, andV_t, andV_f, orV_t, orV_f, notV_s, setO_s, setLO_s, dropO_s, forO_s, asgO_s, bind2_ss, addD_ok, subD_ok, ltD_ok, leD_ok, gtD_ok, geD_ok, eqD_int, neD_int, ix_pair0, ix_pair1, setS, negD, lenD_l, lenD_t, listD_l, tupD_t, seqD_l, short2, shortL0, shortL1, shortL2, shortL3, shortL4, outD_rt, outD_nx, Bool.not_true, Bool.not_false]
        exact ⟨(p.1, y1), _, _, _, ⟨hp1.l1, hp1.u1, hP.l2, hP.u2⟩, fin _ _ _ _⟩
theorem plane_eq (ns : List Int) (at0 most : Int) (ha : 0 ≤ at0) (hb : bd at0 60) (h1 : 0 ≤ most) (h2 : most < 800) : ∃ ps : List (Int × Int), (ps.length : Int) ≤ most ∧ (∀ p ∈ ps, Pl p) ∧ F_l_plane [.list (ns.map .int), .int at0, .int most] = some (encL ps) := by
  obtain ⟨head, hh, eh⟩ := mix_ok (ns.getD at0.toNat 0) at0 hb
  have hm0 : 0 ≤ head % (most + 1) := Int.emod_nonneg _ (by omega)
  have hm1 : head % (most + 1) < most + 1 := Int.emod_lt_of_pos _ (by omega)
  obtain ⟨ρ', e, ps, c5, c6, c7, c8, rfl, hl, hp⟩ := forD_inv (S := setS 5) (F := L_l_plane_0)
    (fun i ρ => ∃ (ps : List (Int × Int)) (c5 c6 c7 c8 : Option PyData), ρ = [some (.list (ns.map .int)), some (.int at0), some (.int most), some (.int head), some (encL ps), c5, c6, c7, c8] ∧ ps.length = i ∧ ∀ p ∈ ps, Pl p)
    (rngL 0 (head % (most + 1)).toNat) 0 [some (.list (ns.map .int)), some (.int at0), some (.int most), some (.int head), some (encL []), none, none, none, none] ⟨[], none, none, none, none, rfl, rfl, fun p hp => by cases hp⟩
    (by
      rintro i d ρ hd ⟨ps, c5, c6, c7, c8, rfl, hl, hp⟩
      obtain ⟨hi, rfl⟩ := rngL_get hd
      obtain ⟨p, c6', c7', c8', hpb, es⟩ := plane_step ns at0 head (some (.int most)) ha hh i ps (by omega) hp c6 c7 c8
      exact ⟨_, _, rfl, es, ps ++ [p], _, _, _, _, rfl, by simp [hl], fun q hq => by
        rcases List.mem_append.mp hq with h | h
        · exact hp q h
        · have : q = p := by simpa using h
          rw [this]; exact hpb⟩)
  refine ⟨ps, by rw [hl, rngL_len]; omega, hp, ?_⟩
  rw [F_l_plane]
  try simp only [runD, seqF_def, thenO_nx, thenO_rt, List.length_cons, List.length_nil, Nat.reduceAdd, reduceIte, List.map_cons, List.map_nil, List.reduceReplicate, List.append_nil, List.nil_append, List.cons_append, List.getElem?_cons_zero, List.getElem?_cons_succ, List.set_cons_zero, List.set_cons_succ, Option.join_some, Option.bind_some, Option.map_some, Option.filter_some, consD_ss, testD_s, condO_t, condO_f, andB_t, andB_f, orB_t, orB_f, andV_t, andV_f, orV_t, orV_f, notV_s, setO_s, setLO_s, dropO_s, forO_s, asgO_s, bind2_ss, addD_ok, subD_ok, ltD_ok, leD_ok, gtD_ok, geD_ok, eqD_int, neD_int, ix_pair0, ix_pair1, setS, negD, lenD_l, lenD_t, listD_l, tupD_t, seqD_l, short2, shortL0, shortL1, shortL2, shortL3, shortL4, outD_rt, outD_nx, Bool.not_true, Bool.not_false]
  simp only [B_l_plane]
  try simp only [runD, seqF_def, thenO_nx, thenO_rt, List.length_cons, List.length_nil, Nat.reduceAdd, reduceIte, List.map_cons, List.map_nil, List.reduceReplicate, List.append_nil, List.nil_append, List.cons_append, List.getElem?_cons_zero, List.getElem?_cons_succ, List.set_cons_zero, List.set_cons_succ, Option.join_some, Option.bind_some, Option.map_some, Option.filter_some, consD_ss, testD_s, condO_t, condO_f, andB_t, andB_f, orB_t, orB_f, andV_t, andV_f, orV_t, orV_f, notV_s, setO_s, setLO_s, dropO_s, forO_s, asgO_s, bind2_ss, addD_ok, subD_ok, ltD_ok, leD_ok, gtD_ok, geD_ok, eqD_int, neD_int, ix_pair0, ix_pair1, setS, negD, lenD_l, lenD_t, listD_l, tupD_t, seqD_l, short2, shortL0, shortL1, shortL2, shortL3, shortL4, outD_rt, outD_nx, Bool.not_true, Bool.not_false]
  rw [cell_eq ns at0 ha]
  try simp only [runD, seqF_def, thenO_nx, thenO_rt, List.length_cons, List.length_nil, Nat.reduceAdd, reduceIte, List.map_cons, List.map_nil, List.reduceReplicate, List.append_nil, List.nil_append, List.cons_append, List.getElem?_cons_zero, List.getElem?_cons_succ, List.set_cons_zero, List.set_cons_succ, Option.join_some, Option.bind_some, Option.map_some, Option.filter_some, consD_ss, testD_s, condO_t, condO_f, andB_t, andB_f, orB_t, orB_f, andV_t, andV_f, orV_t, orV_f, notV_s, setO_s, setLO_s, dropO_s, forO_s, asgO_s, bind2_ss, addD_ok, subD_ok, ltD_ok, leD_ok, gtD_ok, geD_ok, eqD_int, neD_int, ix_pair0, ix_pair1, setS, negD, lenD_l, lenD_t, listD_l, tupD_t, seqD_l, short2, shortL0, shortL1, shortL2, shortL3, shortL4, outD_rt, outD_nx, Bool.not_true, Bool.not_false]
  rw [eh]
  try simp only [runD, seqF_def, thenO_nx, thenO_rt, List.length_cons, List.length_nil, Nat.reduceAdd, reduceIte, List.map_cons, List.map_nil, List.reduceReplicate, List.append_nil, List.nil_append, List.cons_append, List.getElem?_cons_zero, List.getElem?_cons_succ, List.set_cons_zero, List.set_cons_succ, Option.join_some, Option.bind_some, Option.map_some, Option.filter_some, consD_ss, testD_s, condO_t, condO_f, andB_t, andB_f, orB_t, orB_f, andV_t, andV_f, orV_t, orV_f, notV_s, setO_s, setLO_s, dropO_s, forO_s, asgO_s, bind2_ss, addD_ok, subD_ok, ltD_ok, leD_ok, gtD_ok, geD_ok, eqD_int, neD_int, ix_pair0, ix_pair1, setS, negD, lenD_l, lenD_t, listD_l, tupD_t, seqD_l, short2, shortL0, shortL1, shortL2, shortL3, shortL4, outD_rt, outD_nx, Bool.not_true, Bool.not_false]
  rw [modD_ok (b := most + 1) (by omega)]
  try simp only [runD, seqF_def, thenO_nx, thenO_rt, List.length_cons, List.length_nil, Nat.reduceAdd, reduceIte, List.map_cons, List.map_nil, List.reduceReplicate, List.append_nil, List.nil_append, List.cons_append, List.getElem?_cons_zero, List.getElem?_cons_succ, List.set_cons_zero, List.set_cons_succ, Option.join_some, Option.bind_some, Option.map_some, Option.filter_some, consD_ss, testD_s, condO_t, condO_f, andB_t, andB_f, orB_t, orB_f, andV_t, andV_f, orV_t, orV_f, notV_s, setO_s, setLO_s, dropO_s, forO_s, asgO_s, bind2_ss, addD_ok, subD_ok, ltD_ok, leD_ok, gtD_ok, geD_ok, eqD_int, neD_int, ix_pair0, ix_pair1, setS, negD, lenD_l, lenD_t, listD_l, tupD_t, seqD_l, short2, shortL0, shortL1, shortL2, shortL3, shortL4, outD_rt, outD_nx, Bool.not_true, Bool.not_false]
  rw [rng1_ok hm0 (by omega)]
  try simp only [runD, seqF_def, thenO_nx, thenO_rt, List.length_cons, List.length_nil, Nat.reduceAdd, reduceIte, List.map_cons, List.map_nil, List.reduceReplicate, List.append_nil, List.nil_append, List.cons_append, List.getElem?_cons_zero, List.getElem?_cons_succ, List.set_cons_zero, List.set_cons_succ, Option.join_some, Option.bind_some, Option.map_some, Option.filter_some, consD_ss, testD_s, condO_t, condO_f, andB_t, andB_f, orB_t, orB_f, andV_t, andV_f, orV_t, orV_f, notV_s, setO_s, setLO_s, dropO_s, forO_s, asgO_s, bind2_ss, addD_ok, subD_ok, ltD_ok, leD_ok, gtD_ok, geD_ok, eqD_int, neD_int, ix_pair0, ix_pair1, setS, negD, lenD_l, lenD_t, listD_l, tupD_t, seqD_l, short2, shortL0, shortL1, shortL2, shortL3, shortL4, outD_rt, outD_nx, Bool.not_true, Bool.not_false]
  rw [show (PyData.list [] : PyData) = encL [] from rfl, e]
  try simp only [runD, seqF_def, thenO_nx, thenO_rt, List.length_cons, List.length_nil, Nat.reduceAdd, reduceIte, List.map_cons, List.map_nil, List.reduceReplicate, List.append_nil, List.nil_append, List.cons_append, List.getElem?_cons_zero, List.getElem?_cons_succ, List.set_cons_zero, List.set_cons_succ, Option.join_some, Option.bind_some, Option.map_some, Option.filter_some, consD_ss, testD_s, condO_t, condO_f, andB_t, andB_f, orB_t, orB_f, andV_t, andV_f, orV_t, orV_f, notV_s, setO_s, setLO_s, dropO_s, forO_s, asgO_s, bind2_ss, addD_ok, subD_ok, ltD_ok, leD_ok, gtD_ok, geD_ok, eqD_int, neD_int, ix_pair0, ix_pair1, setS, negD, lenD_l, lenD_t, listD_l, tupD_t, seqD_l, short2, shortL0, shortL1, shortL2, shortL3, shortL4, outD_rt, outD_nx, Bool.not_true, Bool.not_false]
noncomputable def mxR (i j : Int) : Int := if j > i then j else i
noncomputable def sideB (p q : Int × Int) : Int := mxR (absI (p.1 - q.1)) (absI (p.2 - q.2))
noncomputable def nearC (c : (Int × Int) × (Int × Int)) (o : Int × Int) : Int := minR (sideB o c.1) (sideB o c.2)
noncomputable def side2 (o : Int × Int) (f : List (Int × Int)) (c : (Int × Int) × (Int × Int)) : Int := maxI (nearC c o) (f.map (nearC c))
noncomputable def cor0 (o : Int × Int) (f : List (Int × Int)) : (Int × Int) × (Int × Int) := ((minI o.1 (f.map (fun p => p.1)), minI o.2 (f.map (fun p => p.2))), (maxI o.1 (f.map (fun p => p.1)), maxI o.2 (f.map (fun p => p.2))))
noncomputable def cor1 (o : Int × Int) (f : List (Int × Int)) : (Int × Int) × (Int × Int) := ((minI o.1 (f.map (fun p => p.1)), maxI o.2 (f.map (fun p => p.2))), (maxI o.1 (f.map (fun p => p.1)), minI o.2 (f.map (fun p => p.2))))
noncomputable def bestC (o : Int × Int) (f : List (Int × Int)) : (Int × Int) × (Int × Int) := if side2 o f (cor1 o f) < side2 o f (cor0 o f) then cor1 o f else cor0 o f
noncomputable def sdk (k : Int) : List (Int × Int) → Int
  | [] => 0
  | o :: f => if k = 1 then sideB (bestC o f).1 (bestC o f).2 else side2 o f (bestC o f)
structure MaxOf (fk : List (Int × Int)) (h : Int × Int → Int) (m : Int) : Prop where
  mem : ∃ o ∈ fk, h o = m
  le : ∀ o ∈ fk, h o ≤ m
theorem MaxOf.uniq {fk : List (Int × Int)} {h : Int × Int → Int} {m n : Int} (a : MaxOf fk h m) (b : MaxOf fk h n) : m = n := by
  obtain ⟨o, h1, h2⟩ := a.mem
  obtain ⟨p, h3, h4⟩ := b.mem
  have := b.le o h1
  have := a.le p h3
  omega
theorem MaxOf.map {fk : List (Int × Int)} {h h' : Int × Int → Int} {m m' : Int} (a : MaxOf fk h m) (φ : Int × Int → Int × Int) (g : Int → Int) (hg : ∀ o, h' (φ o) = g (h o)) (mono : ∀ x y : Int, x ≤ y → g x ≤ g y) (hm : g m = m') : MaxOf (fk.map φ) h' m' := by
  obtain ⟨o, h1, h2⟩ := a.mem
  refine ⟨⟨φ o, List.mem_map_of_mem h1, by rw [hg, h2, hm]⟩, fun q hq => ?_⟩
  obtain ⟨p, hp, rfl⟩ := List.mem_map.mp hq
  rw [hg, ← hm]
  exact mono _ _ (a.le p hp)
theorem MaxOf.rev {fk : List (Int × Int)} {h : Int × Int → Int} {m : Int} (a : MaxOf fk h m) : MaxOf fk.reverse h m := by
  obtain ⟨o, h1, h2⟩ := a.mem
  exact ⟨⟨o, List.mem_reverse.mpr h1, h2⟩, fun q hq => a.le q (List.mem_reverse.mp hq)⟩
theorem max_of (h : Int × Int → Int) (o : Int × Int) (f : List (Int × Int)) : MaxOf (o :: f) h (maxI (h o) (f.map h)) := by
  obtain ⟨h1, h2⟩ := maxI_is (f.map h) (h o)
  refine ⟨?_, fun p hp => h2 _ ?_⟩
  · rcases List.mem_cons.mp h1 with e | e
    · exact ⟨o, List.mem_cons_self, e.symm⟩
    · obtain ⟨p, hp, e⟩ := List.mem_map.mp e
      exact ⟨p, List.mem_cons_of_mem _ hp, e⟩
  · rcases List.mem_cons.mp hp with rfl | hp
    · exact List.mem_cons_self
    · exact List.mem_cons_of_mem _ (List.mem_map_of_mem hp)
theorem min_of (h : Int × Int → Int) (o : Int × Int) (f : List (Int × Int)) : MaxOf (o :: f) (fun p => -h p) (-minI (h o) (f.map h)) := by
  obtain ⟨h1, h2⟩ := minI_is (f.map h) (h o)
  refine ⟨?_, fun p hp => ?_⟩
  · rcases List.mem_cons.mp h1 with e | e
    · exact ⟨o, List.mem_cons_self, by rw [e]⟩
    · obtain ⟨p, hp, e⟩ := List.mem_map.mp e
      exact ⟨p, List.mem_cons_of_mem _ hp, by rw [e]⟩
  · have : minI (h o) (f.map h) ≤ h p := h2 _ (by
      rcases List.mem_cons.mp hp with rfl | hp
      · exact List.mem_cons_self
      · exact List.mem_cons_of_mem _ (List.mem_map_of_mem hp))
    show -h p ≤ _
    omega
structure Least (fk : List (Int × Int)) (a b L R B T m n : Int) : Prop where
  hl : MaxOf fk (fun p => -p.1) (-L)
  hr : MaxOf fk (fun p => p.1) R
  hb : MaxOf fk (fun p => -p.2) (-B)
  ht : MaxOf fk (fun p => p.2) T
  hm : MaxOf fk (nearC ((L, B), (R, T))) m
  hn : MaxOf fk (nearC ((L, T), (R, B))) n
  ea : a = mxR (R - L) (T - B)
  eb : b = minR m n
theorem mxR_comm (i j : Int) : mxR i j = mxR j i := by unfold mxR; split <;> split <;> omega
theorem minR_comm (i j : Int) : minR i j = minR j i := by unfold minR; split <;> split <;> omega
theorem absI_pos {i : Int} (h : 0 ≤ i) : absI i = i := by unfold absI; split <;> omega
theorem absI_sw (i j : Int) : absI (i - j) = absI (j - i) := by unfold absI; split <;> split <;> omega
theorem mxR_mul (i j t : Int) (h : 0 < t) : mxR (i * t) (j * t) = mxR i j * t := by
  unfold mxR
  by_cases q : j > i
  · rw [if_pos q, if_pos (show j * t > i * t from Int.mul_lt_mul_of_pos_right q h)]
  · rw [if_neg q, if_neg (fun z => q (Int.lt_of_mul_lt_mul_right z (by omega)))]
theorem minR_mul (i j t : Int) (h : 0 < t) : minR (i * t) (j * t) = minR i j * t := by
  unfold minR
  by_cases q : j < i
  · rw [if_pos q, if_pos (show j * t < i * t from Int.mul_lt_mul_of_pos_right q h)]
  · rw [if_neg q, if_neg (fun z => q (Int.lt_of_mul_lt_mul_right z (by omega)))]
theorem Least.uniq {fk : List (Int × Int)} {a b L R B T m n a' b' L' R' B' T' m' n' : Int} (x : Least fk a b L R B T m n) (y : Least fk a' b' L' R' B' T' m' n') : a = a' ∧ b = b' := by
  have e1 := x.hl.uniq y.hl
  have e2 := x.hr.uniq y.hr
  have e3 := x.hb.uniq y.hb
  have e4 := x.ht.uniq y.ht
  obtain rfl : L = L' := by omega
  obtain rfl : B = B' := by omega
  subst e2
  subst e4
  have e5 := x.hm.uniq y.hm
  have e6 := x.hn.uniq y.hn
  subst e5
  subst e6
  exact ⟨x.ea.trans y.ea.symm, x.eb.trans y.eb.symm⟩
theorem Least.move {fk : List (Int × Int)} {a b L R B T m n : Int} (x : Least fk a b L R B T m n) (u v : Int) : Least (fk.map fun p => (p.1 + u, p.2 - v)) a b (L + u) (R + u) (B - v) (T - v) m n := by
  have ad : ∀ i j : Int, i + u - (j + u) = i - j := fun i j => by omega
  have sb : ∀ i j : Int, i - v - (j - v) = i - j := fun i j => by omega
  refine ⟨x.hl.map _ (fun i => i - u) (fun o => ?_) (fun i j h => ?_) ?_, x.hr.map _ (fun i => i + u) (fun o => ?_) (fun i j h => ?_) ?_, x.hb.map _ (fun i => i + v) (fun o => ?_) (fun i j h => ?_) ?_, x.ht.map _ (fun i => i - v) (fun o => ?_) (fun i j h => ?_) ?_, x.hm.map _ id (fun o => ?_) (fun i j h => h) rfl, x.hn.map _ id (fun o => ?_) (fun i j h => h) rfl, ?_, x.eb⟩
  all_goals try (first | omega | (dsimp only; omega) | rfl)
  · show nearC _ _ = nearC _ _
    simp only [nearC, sideB, ad, sb]
  · show nearC _ _ = nearC _ _
    simp only [nearC, sideB, ad, sb]
  · rw [ad, sb]; exact x.ea
theorem Least.turn {fk : List (Int × Int)} {a b L R B T m n : Int} (x : Least fk a b L R B T m n) : Least (fk.reverse.map fun p => (p.2, 0 - p.1)) a b B T (-R) (-L) n m := by
  have ng : ∀ i j : Int, absI (0 - i - -j) = absI (i - j) := fun i j => by rw [show 0 - i - -j = j - i by omega, absI_sw]
  refine ⟨x.hb.rev.map _ id (fun o => rfl) (fun i j h => h) rfl, x.ht.rev.map _ id (fun o => rfl) (fun i j h => h) rfl, x.hr.rev.map _ id (fun o => ?_) (fun i j h => h) ?_, x.hl.rev.map _ id (fun o => ?_) (fun i j h => h) ?_, x.hn.rev.map _ id (fun o => ?_) (fun i j h => h) rfl, x.hm.rev.map _ id (fun o => ?_) (fun i j h => h) rfl, ?_, ?_⟩
  all_goals try (first | omega | (dsimp only [id]; omega) | rfl)
  · show nearC _ _ = nearC _ _
    simp only [nearC, sideB, ng]
    rw [minR_comm, mxR_comm (absI (o.2 - T)), mxR_comm (absI (o.2 - B))]
  · show nearC _ _ = nearC _ _
    simp only [nearC, sideB, ng]
    rw [mxR_comm (absI (o.2 - T)), mxR_comm (absI (o.2 - B))]
  · rw [x.ea, mxR_comm, show -L - -R = R - L by omega]
  · rw [x.eb, minR_comm]
theorem Least.times {fk : List (Int × Int)} {a b L R B T m n : Int} (x : Least fk a b L R B T m n) (t : Int) (ht : 0 < t) : Least (fk.map fun p => (p.1 * t, p.2 * t)) (a * t) (b * t) (L * t) (R * t) (B * t) (T * t) (m * t) (n * t) := by
  have mn : ∀ i j : Int, i ≤ j → i * t ≤ j * t := fun i j h => Int.mul_le_mul_of_nonneg_right h (by omega)
  have ab : ∀ i j : Int, absI (i * t - j * t) = absI (i - j) * t := fun i j => by rw [← Int.sub_mul, absI_mul _ _ ht]
  refine ⟨x.hl.map _ (fun i => i * t) (fun o => ?_) mn ?_, x.hr.map _ (fun i => i * t) (fun o => rfl) mn rfl, x.hb.map _ (fun i => i * t) (fun o => ?_) mn ?_, x.ht.map _ (fun i => i * t) (fun o => rfl) mn rfl, x.hm.map _ (fun i => i * t) (fun o => ?_) mn rfl, x.hn.map _ (fun i => i * t) (fun o => ?_) mn rfl, ?_, ?_⟩
  · show -(o.1 * t) = -o.1 * t
    rw [Int.neg_mul]
  · show -L * t = -(L * t)
    rw [Int.neg_mul]
  · show -(o.2 * t) = -o.2 * t
    rw [Int.neg_mul]
  · show -B * t = -(B * t)
    rw [Int.neg_mul]
  · show nearC _ _ = nearC _ _ * t
    simp only [nearC, sideB, ab, mxR_mul _ _ t ht, minR_mul _ _ t ht]
  · show nearC _ _ = nearC _ _ * t
    simp only [nearC, sideB, ab, mxR_mul _ _ t ht, minR_mul _ _ t ht]
  · rw [x.ea, ← mxR_mul _ _ t ht, Int.sub_mul, Int.sub_mul]
  · rw [x.eb, ← minR_mul _ _ t ht]
theorem Least.le {fk : List (Int × Int)} {a b L R B T m n : Int} (x : Least fk a b L R B T m n) : b ≤ a := by
  obtain ⟨o, h1, h2⟩ := x.hm.mem
  have g1 := x.hl.le o h1
  have g2 := x.hr.le o h1
  have g3 := x.hb.le o h1
  have g4 := x.ht.le o h1
  have e1 : b ≤ m := by rw [x.eb]; unfold minR; split <;> omega
  have e2 : m ≤ sideB o (L, B) := by rw [← h2]; unfold nearC minR; dsimp only; split <;> omega
  have e3 : sideB o (L, B) ≤ mxR (R - L) (T - B) := by
    unfold sideB
    dsimp only at g1 g2 g3 g4 ⊢
    rw [absI_pos (by omega), absI_pos (by omega)]
    unfold mxR
    split <;> split <;> omega
  have := x.ea
  omega
theorem sd_least (o : Int × Int) (f : List (Int × Int)) : ∃ L R B T m n, Least (o :: f) (sdk 1 (o :: f)) (sdk 2 (o :: f)) L R B T m n := by
  refine ⟨_, _, _, _, side2 o f (cor0 o f), side2 o f (cor1 o f), min_of (fun p => p.1) o f, max_of (fun p => p.1) o f, min_of (fun p => p.2) o f, max_of (fun p => p.2) o f, max_of (nearC (cor0 o f)) o f, max_of (nearC (cor1 o f)) o f, ?_, ?_⟩
  · have l := min_of (fun p => p.1) o f
    have r := max_of (fun p => p.1) o f
    have b := min_of (fun p => p.2) o f
    have t := max_of (fun p => p.2) o f
    have l1 := l.le o List.mem_cons_self
    have r1 := r.le o List.mem_cons_self
    have b1 := b.le o List.mem_cons_self
    have t1 := t.le o List.mem_cons_self
    try dsimp only at l1 r1 b1 t1
    show (if (1 : Int) = 1 then sideB (bestC o f).1 (bestC o f).2 else side2 o f (bestC o f)) = _
    rw [if_pos rfl]
    unfold bestC
    split
    · unfold cor1 sideB
      try dsimp only
      rw [absI_sw, absI_pos (by omega), absI_pos (by omega)]
    · unfold cor0 sideB
      try dsimp only
      rw [absI_sw, absI_pos (by omega), absI_sw, absI_pos (by omega)]
  · show (if (2 : Int) = 1 then sideB (bestC o f).1 (bestC o f).2 else side2 o f (bestC o f)) = _
    rw [if_neg (by decide)]
    unfold bestC minR
    split <;> rfl
theorem minLD_ok (n : Int) (ns : List Int) : minLD (.list (.int n :: ns.map .int)) = some (.int (minI n ns)) := by
  show (intsO ((n :: ns).map .int)).bind _ = _
  rw [intsO_map]
  rfl
theorem maxLD_ok (n : Int) (ns : List Int) : maxLD (.list (.int n :: ns.map .int)) = some (.int (maxI n ns)) := by
  show (intsO ((n :: ns).map .int)).bind _ = _
  rw [intsO_map]
  rfl
theorem between_eq (p q : Int × Int) : F_p_side_between [encP p, encP q] = some (.int (sideB p q)) := by
  rw [F_p_side_between]
  try simp only [runD, seqF_def, thenO_nx, thenO_rt, List.length_cons, List.length_nil, Nat.reduceAdd, reduceIte, List.map_cons, List.map_nil, List.reduceReplicate, List.append_nil, List.nil_append, List.cons_append, List.getElem?_cons_zero, List.getElem?_cons_succ, List.set_cons_zero, List.set_cons_succ, Option.join_some, Option.bind_some, Option.map_some, Option.filter_some, consD_ss, testD_s, condO_t, condO_f, andB_t, andB_f, orB_t, orB_f, andV_t, andV_f, orV_t, orV_f, notV_s, setO_s, setLO_s, dropO_s, forO_s, asgO_s, bind2_ss, addD_ok, subD_ok, ltD_ok, leD_ok, gtD_ok, geD_ok, eqD_int, neD_int, ix_pair0, ix_pair1, setS, negD, lenD_l, lenD_t, listD_l, tupD_t, seqD_l, short2, shortL0, shortL1, shortL2, shortL3, shortL4, outD_rt, outD_nx, Bool.not_true, Bool.not_false]
  simp only [B_p_side_between]
  try simp only [runD, seqF_def, thenO_nx, thenO_rt, List.length_cons, List.length_nil, Nat.reduceAdd, reduceIte, List.map_cons, List.map_nil, List.reduceReplicate, List.append_nil, List.nil_append, List.cons_append, List.getElem?_cons_zero, List.getElem?_cons_succ, List.set_cons_zero, List.set_cons_succ, Option.join_some, Option.bind_some, Option.map_some, Option.filter_some, consD_ss, testD_s, condO_t, condO_f, andB_t, andB_f, orB_t, orB_f, andV_t, andV_f, orV_t, orV_f, notV_s, setO_s, setLO_s, dropO_s, forO_s, asgO_s, bind2_ss, addD_ok, subD_ok, ltD_ok, leD_ok, gtD_ok, geD_ok, eqD_int, neD_int, ix_pair0, ix_pair1, setS, negD, lenD_l, lenD_t, listD_l, tupD_t, seqD_l, short2, shortL0, shortL1, shortL2, shortL3, shortL4, outD_rt, outD_nx, Bool.not_true, Bool.not_false]
  rw [ix_enc0, ix_enc1, ix_enc0, ix_enc1]
  rfl
theorem opposite_eq (o : Int × Int) (f : List (Int × Int)) (hl : (o :: f).length ≤ 1000) : F_p_opposite_corners [encL (o :: f)] = some (.list [encPP (cor0 o f), encPP (cor1 o f)]) := by
  have len : ((o :: f).map encP).length ≤ 1000 := by rw [List.length_map]; exact hl
  have c0 := compD_map (S := setS 0) (fe := E_p_opposite_corners_0) encP PyData.int (fun p : Int × Int => p.1) (fun ρ => ∃ a, ρ = [a]) (fun _ => True) (fun x ρ _ ⟨a, e⟩ => ⟨[some (encP x)], by rw [e]; rfl, ⟨_, rfl⟩, rfl⟩) (o :: f) [none] ⟨_, rfl⟩ (fun _ _ => trivial)
  have c1 := compD_map (S := setS 0) (fe := E_p_opposite_corners_1) encP PyData.int (fun p : Int × Int => p.1) (fun ρ => ∃ a, ρ = [a]) (fun _ => True) (fun x ρ _ ⟨a, e⟩ => ⟨[some (encP x)], by rw [e]; rfl, ⟨_, rfl⟩, rfl⟩) (o :: f) [none] ⟨_, rfl⟩ (fun _ _ => trivial)
  have c2 := compD_map (S := setS 0) (fe := E_p_opposite_corners_2) encP PyData.int (fun p : Int × Int => p.2) (fun ρ => ∃ a, ρ = [a]) (fun _ => True) (fun x ρ _ ⟨a, e⟩ => ⟨[some (encP x)], by rw [e]; rfl, ⟨_, rfl⟩, rfl⟩) (o :: f) [none] ⟨_, rfl⟩ (fun _ _ => trivial)
  have c3 := compD_map (S := setS 0) (fe := E_p_opposite_corners_3) encP PyData.int (fun p : Int × Int => p.2) (fun ρ => ∃ a, ρ = [a]) (fun _ => True) (fun x ρ _ ⟨a, e⟩ => ⟨[some (encP x)], by rw [e]; rfl, ⟨_, rfl⟩, rfl⟩) (o :: f) [none] ⟨_, rfl⟩ (fun _ _ => trivial)
  have fr : ∀ ρ : Rho, frees 1 [] ρ = [none] := fun ρ => rfl
  simp only [List.map_cons] at len c0 c1 c2 c3
  rw [F_p_opposite_corners]
  try simp only [runD, seqF_def, thenO_nx, thenO_rt, List.length_cons, List.length_nil, Nat.reduceAdd, reduceIte, List.map_cons, List.map_nil, List.reduceReplicate, List.append_nil, List.nil_append, List.cons_append, List.getElem?_cons_zero, List.getElem?_cons_succ, List.set_cons_zero, List.set_cons_succ, Option.join_some, Option.bind_some, Option.map_some, Option.filter_some, consD_ss, testD_s, condO_t, condO_f, andB_t, andB_f, orB_t, orB_f, andV_t, andV_f, orV_t, orV_f, notV_s, setO_s, setLO_s, dropO_s, forO_s, asgO_s, bind2_ss, addD_ok, subD_ok, ltD_ok, leD_ok, gtD_ok, geD_ok, eqD_int, neD_int, ix_pair0, ix_pair1, setS, negD, lenD_l, lenD_t, listD_l, tupD_t, seqD_l, short2, shortL0, shortL1, shortL2, shortL3, shortL4, outD_rt, outD_nx, Bool.not_true, Bool.not_false]
  simp only [B_p_opposite_corners]
  try simp only [runD, seqF_def, thenO_nx, thenO_rt, List.length_cons, List.length_nil, Nat.reduceAdd, reduceIte, List.map_cons, List.map_nil, List.reduceReplicate, List.append_nil, List.nil_append, List.cons_append, List.getElem?_cons_zero, List.getElem?_cons_succ, List.set_cons_zero, List.set_cons_succ, Option.join_some, Option.bind_some, Option.map_some, Option.filter_some, consD_ss, testD_s, condO_t, condO_f, andB_t, andB_f, orB_t, orB_f, andV_t, andV_f, orV_t, orV_f, notV_s, setO_s, setLO_s, dropO_s, forO_s, asgO_s, bind2_ss, addD_ok, subD_ok, ltD_ok, leD_ok, gtD_ok, geD_ok, eqD_int, neD_int, ix_pair0, ix_pair1, setS, negD, lenD_l, lenD_t, listD_l, tupD_t, seqD_l, short2, shortL0, shortL1, shortL2, shortL3, shortL4, outD_rt, outD_nx, Bool.not_true, Bool.not_false]
  have ld : listD (encL (o :: f)) = some (encP o :: f.map encP) := rfl
  iterate 4
    simp only [ld, fr, compO_s len, c0, c1, c2, c3]
    try simp only [runD, seqF_def, thenO_nx, thenO_rt, List.length_cons, List.length_nil, Nat.reduceAdd, reduceIte, List.map_cons, List.map_nil, List.reduceReplicate, List.append_nil, List.nil_append, List.cons_append, List.getElem?_cons_zero, List.getElem?_cons_succ, List.set_cons_zero, List.set_cons_succ, Option.join_some, Option.bind_some, Option.map_some, Option.filter_some, consD_ss, testD_s, condO_t, condO_f, andB_t, andB_f, orB_t, orB_f, andV_t, andV_f, orV_t, orV_f, notV_s, setO_s, setLO_s, dropO_s, forO_s, asgO_s, bind2_ss, addD_ok, subD_ok, ltD_ok, leD_ok, gtD_ok, geD_ok, eqD_int, neD_int, ix_pair0, ix_pair1, setS, negD, lenD_l, lenD_t, listD_l, tupD_t, seqD_l, short2, shortL0, shortL1, shortL2, shortL3, shortL4, outD_rt, outD_nx, Bool.not_true, Bool.not_false]
    simp only [minLD_ok, maxLD_ok]
    try simp only [runD, seqF_def, thenO_nx, thenO_rt, List.length_cons, List.length_nil, Nat.reduceAdd, reduceIte, List.map_cons, List.map_nil, List.reduceReplicate, List.append_nil, List.nil_append, List.cons_append, List.getElem?_cons_zero, List.getElem?_cons_succ, List.set_cons_zero, List.set_cons_succ, Option.join_some, Option.bind_some, Option.map_some, Option.filter_some, consD_ss, testD_s, condO_t, condO_f, andB_t, andB_f, orB_t, orB_f, andV_t, andV_f, orV_t, orV_f, notV_s, setO_s, setLO_s, dropO_s, forO_s, asgO_s, bind2_ss, addD_ok, subD_ok, ltD_ok, leD_ok, gtD_ok, geD_ok, eqD_int, neD_int, ix_pair0, ix_pair1, setS, negD, lenD_l, lenD_t, listD_l, tupD_t, seqD_l, short2, shortL0, shortL1, shortL2, shortL3, shortL4, outD_rt, outD_nx, Bool.not_true, Bool.not_false]
  rfl
theorem oftwo_eq (o : Int × Int) (f : List (Int × Int)) (c : (Int × Int) × (Int × Int)) (hl : (o :: f).length ≤ 1000) : F_p_side_of_two [encL (o :: f), encPP c] = some (.int (side2 o f c)) := by
  have len : ((o :: f).map encP).length ≤ 1000 := by rw [List.length_map]; exact hl
  have c0 := compD_map (S := setS 0) (fe := E_p_side_of_two_0) encP PyData.int (nearC c) (fun ρ => ∃ a, ρ = [a, some (encPP c)]) (fun _ => True) (fun x ρ _ ⟨a, e⟩ => ⟨[some (encP x), some (encPP c)], by rw [e]; rfl, ⟨_, rfl⟩, by
    simp only [E_p_side_of_two_0]
    try simp only [runD, seqF_def, thenO_nx, thenO_rt, List.length_cons, List.length_nil, Nat.reduceAdd, reduceIte, List.map_cons, List.map_nil, List.reduceReplicate, List.append_nil, List.nil_append, List.cons_append, List.getElem?_cons_zero, List.getElem?_cons_succ, List.set_cons_zero, List.set_cons_succ, Option.join_some, Option.bind_some, Option.map_some, Option.filter_some, consD_ss, testD_s, condO_t, condO_f, andB_t, andB_f, orB_t, orB_f, andV_t, andV_f, orV_t, orV_f, notV_s, setO_s, setLO_s, dropO_s, forO_s, asgO_s, bind2_ss, addD_ok, subD_ok, ltD_ok, leD_ok, gtD_ok, geD_ok, eqD_int, neD_int, ix_pair0, ix_pair1, setS, negD, lenD_l, lenD_t, listD_l, tupD_t, seqD_l, short2, shortL0, shortL1, shortL2, shortL3, shortL4, outD_rt, outD_nx, Bool.not_true, Bool.not_false]
    rw [ix_pp0, ix_pp1]
    try simp only [runD, seqF_def, thenO_nx, thenO_rt, List.length_cons, List.length_nil, Nat.reduceAdd, reduceIte, List.map_cons, List.map_nil, List.reduceReplicate, List.append_nil, List.nil_append, List.cons_append, List.getElem?_cons_zero, List.getElem?_cons_succ, List.set_cons_zero, List.set_cons_succ, Option.join_some, Option.bind_some, Option.map_some, Option.filter_some, consD_ss, testD_s, condO_t, condO_f, andB_t, andB_f, orB_t, orB_f, andV_t, andV_f, orV_t, orV_f, notV_s, setO_s, setLO_s, dropO_s, forO_s, asgO_s, bind2_ss, addD_ok, subD_ok, ltD_ok, leD_ok, gtD_ok, geD_ok, eqD_int, neD_int, ix_pair0, ix_pair1, setS, negD, lenD_l, lenD_t, listD_l, tupD_t, seqD_l, short2, shortL0, shortL1, shortL2, shortL3, shortL4, outD_rt, outD_nx, Bool.not_true, Bool.not_false]
    rw [between_eq, between_eq]
    try simp only [runD, seqF_def, thenO_nx, thenO_rt, List.length_cons, List.length_nil, Nat.reduceAdd, reduceIte, List.map_cons, List.map_nil, List.reduceReplicate, List.append_nil, List.nil_append, List.cons_append, List.getElem?_cons_zero, List.getElem?_cons_succ, List.set_cons_zero, List.set_cons_succ, Option.join_some, Option.bind_some, Option.map_some, Option.filter_some, consD_ss, testD_s, condO_t, condO_f, andB_t, andB_f, orB_t, orB_f, andV_t, andV_f, orV_t, orV_f, notV_s, setO_s, setLO_s, dropO_s, forO_s, asgO_s, bind2_ss, addD_ok, subD_ok, ltD_ok, leD_ok, gtD_ok, geD_ok, eqD_int, neD_int, ix_pair0, ix_pair1, setS, negD, lenD_l, lenD_t, listD_l, tupD_t, seqD_l, short2, shortL0, shortL1, shortL2, shortL3, shortL4, outD_rt, outD_nx, Bool.not_true, Bool.not_false]
    rfl⟩) (o :: f) [none, some (encPP c)] ⟨_, rfl⟩ (fun _ _ => trivial)
  have fr : frees 1 [1] [some (encL (o :: f)), some (encPP c)] = [none, some (encPP c)] := rfl
  simp only [List.map_cons] at len c0
  rw [F_p_side_of_two]
  try simp only [runD, seqF_def, thenO_nx, thenO_rt, List.length_cons, List.length_nil, Nat.reduceAdd, reduceIte, List.map_cons, List.map_nil, List.reduceReplicate, List.append_nil, List.nil_append, List.cons_append, List.getElem?_cons_zero, List.getElem?_cons_succ, List.set_cons_zero, List.set_cons_succ, Option.join_some, Option.bind_some, Option.map_some, Option.filter_some, consD_ss, testD_s, condO_t, condO_f, andB_t, andB_f, orB_t, orB_f, andV_t, andV_f, orV_t, orV_f, notV_s, setO_s, setLO_s, dropO_s, forO_s, asgO_s, bind2_ss, addD_ok, subD_ok, ltD_ok, leD_ok, gtD_ok, geD_ok, eqD_int, neD_int, ix_pair0, ix_pair1, setS, negD, lenD_l, lenD_t, listD_l, tupD_t, seqD_l, short2, shortL0, shortL1, shortL2, shortL3, shortL4, outD_rt, outD_nx, Bool.not_true, Bool.not_false]
  simp only [B_p_side_of_two]
  try simp only [runD, seqF_def, thenO_nx, thenO_rt, List.length_cons, List.length_nil, Nat.reduceAdd, reduceIte, List.map_cons, List.map_nil, List.reduceReplicate, List.append_nil, List.nil_append, List.cons_append, List.getElem?_cons_zero, List.getElem?_cons_succ, List.set_cons_zero, List.set_cons_succ, Option.join_some, Option.bind_some, Option.map_some, Option.filter_some, consD_ss, testD_s, condO_t, condO_f, andB_t, andB_f, orB_t, orB_f, andV_t, andV_f, orV_t, orV_f, notV_s, setO_s, setLO_s, dropO_s, forO_s, asgO_s, bind2_ss, addD_ok, subD_ok, ltD_ok, leD_ok, gtD_ok, geD_ok, eqD_int, neD_int, ix_pair0, ix_pair1, setS, negD, lenD_l, lenD_t, listD_l, tupD_t, seqD_l, short2, shortL0, shortL1, shortL2, shortL3, shortL4, outD_rt, outD_nx, Bool.not_true, Bool.not_false]
  rw [listD_encL]
  try simp only [runD, seqF_def, thenO_nx, thenO_rt, List.length_cons, List.length_nil, Nat.reduceAdd, reduceIte, List.map_cons, List.map_nil, List.reduceReplicate, List.append_nil, List.nil_append, List.cons_append, List.getElem?_cons_zero, List.getElem?_cons_succ, List.set_cons_zero, List.set_cons_succ, Option.join_some, Option.bind_some, Option.map_some, Option.filter_some, consD_ss, testD_s, condO_t, condO_f, andB_t, andB_f, orB_t, orB_f, andV_t, andV_f, orV_t, orV_f, notV_s, setO_s, setLO_s, dropO_s, forO_s, asgO_s, bind2_ss, addD_ok, subD_ok, ltD_ok, leD_ok, gtD_ok, geD_ok, eqD_int, neD_int, ix_pair0, ix_pair1, setS, negD, lenD_l, lenD_t, listD_l, tupD_t, seqD_l, short2, shortL0, shortL1, shortL2, shortL3, shortL4, outD_rt, outD_nx, Bool.not_true, Bool.not_false]
  rw [fr, compO_s len, c0]
  try simp only [runD, seqF_def, thenO_nx, thenO_rt, List.length_cons, List.length_nil, Nat.reduceAdd, reduceIte, List.map_cons, List.map_nil, List.reduceReplicate, List.append_nil, List.nil_append, List.cons_append, List.getElem?_cons_zero, List.getElem?_cons_succ, List.set_cons_zero, List.set_cons_succ, Option.join_some, Option.bind_some, Option.map_some, Option.filter_some, consD_ss, testD_s, condO_t, condO_f, andB_t, andB_f, orB_t, orB_f, andV_t, andV_f, orV_t, orV_f, notV_s, setO_s, setLO_s, dropO_s, forO_s, asgO_s, bind2_ss, addD_ok, subD_ok, ltD_ok, leD_ok, gtD_ok, geD_ok, eqD_int, neD_int, ix_pair0, ix_pair1, setS, negD, lenD_l, lenD_t, listD_l, tupD_t, seqD_l, short2, shortL0, shortL1, shortL2, shortL3, shortL4, outD_rt, outD_nx, Bool.not_true, Bool.not_false]
  rw [maxLD_ok]
  try simp only [runD, seqF_def, thenO_nx, thenO_rt, List.length_cons, List.length_nil, Nat.reduceAdd, reduceIte, List.map_cons, List.map_nil, List.reduceReplicate, List.append_nil, List.nil_append, List.cons_append, List.getElem?_cons_zero, List.getElem?_cons_succ, List.set_cons_zero, List.set_cons_succ, Option.join_some, Option.bind_some, Option.map_some, Option.filter_some, consD_ss, testD_s, condO_t, condO_f, andB_t, andB_f, orB_t, orB_f, andV_t, andV_f, orV_t, orV_f, notV_s, setO_s, setLO_s, dropO_s, forO_s, asgO_s, bind2_ss, addD_ok, subD_ok, ltD_ok, leD_ok, gtD_ok, geD_ok, eqD_int, neD_int, ix_pair0, ix_pair1, setS, negD, lenD_l, lenD_t, listD_l, tupD_t, seqD_l, short2, shortL0, shortL1, shortL2, shortL3, shortL4, outD_rt, outD_nx, Bool.not_true, Bool.not_false]
  rfl
theorem bestc_eq (o : Int × Int) (f : List (Int × Int)) (hl : (o :: f).length ≤ 1000) : F_p_best_corners [encL (o :: f)] = some (encPP (bestC o f)) := by
  have key : ∀ c, F_p_best_corners_L0 ([encPP c] ++ [encL (o :: f)]) = some (.int (side2 o f c)) := fun c => by
    rw [F_p_best_corners_L0]
    show E_p_best_corners_L0 [some (encPP c), some (encL (o :: f))] = _
    simp only [E_p_best_corners_L0]
    try simp only [runD, seqF_def, thenO_nx, thenO_rt, List.length_cons, List.length_nil, Nat.reduceAdd, reduceIte, List.map_cons, List.map_nil, List.reduceReplicate, List.append_nil, List.nil_append, List.cons_append, List.getElem?_cons_zero, List.getElem?_cons_succ, List.set_cons_zero, List.set_cons_succ, Option.join_some, Option.bind_some, Option.map_some, Option.filter_some, consD_ss, testD_s, condO_t, condO_f, andB_t, andB_f, orB_t, orB_f, andV_t, andV_f, orV_t, orV_f, notV_s, setO_s, setLO_s, dropO_s, forO_s, asgO_s, bind2_ss, addD_ok, subD_ok, ltD_ok, leD_ok, gtD_ok, geD_ok, eqD_int, neD_int, ix_pair0, ix_pair1, setS, negD, lenD_l, lenD_t, listD_l, tupD_t, seqD_l, short2, shortL0, shortL1, shortL2, shortL3, shortL4, outD_rt, outD_nx, Bool.not_true, Bool.not_false]
    exact oftwo_eq o f c hl
  have mk : minKD (fun z => F_p_best_corners_L0 ([z] ++ [encL (o :: f)])) (.list [encPP (cor0 o f), encPP (cor1 o f)]) = some (encPP (bestC o f)) := by
    unfold minKD keyI
    dsimp only
    rw [key]
    show minKgo _ _ _ _ = _
    unfold minKgo keyI
    dsimp only
    rw [key]
    show (if side2 o f (cor1 o f) < side2 o f (cor0 o f) then minKgo _ _ _ _ else minKgo _ _ _ _) = _
    unfold bestC
    split <;> rfl
  rw [F_p_best_corners]
  try simp only [runD, seqF_def, thenO_nx, thenO_rt, List.length_cons, List.length_nil, Nat.reduceAdd, reduceIte, List.map_cons, List.map_nil, List.reduceReplicate, List.append_nil, List.nil_append, List.cons_append, List.getElem?_cons_zero, List.getElem?_cons_succ, List.set_cons_zero, List.set_cons_succ, Option.join_some, Option.bind_some, Option.map_some, Option.filter_some, consD_ss, testD_s, condO_t, condO_f, andB_t, andB_f, orB_t, orB_f, andV_t, andV_f, orV_t, orV_f, notV_s, setO_s, setLO_s, dropO_s, forO_s, asgO_s, bind2_ss, addD_ok, subD_ok, ltD_ok, leD_ok, gtD_ok, geD_ok, eqD_int, neD_int, ix_pair0, ix_pair1, setS, negD, lenD_l, lenD_t, listD_l, tupD_t, seqD_l, short2, shortL0, shortL1, shortL2, shortL3, shortL4, outD_rt, outD_nx, Bool.not_true, Bool.not_false]
  simp only [B_p_best_corners]
  try simp only [runD, seqF_def, thenO_nx, thenO_rt, List.length_cons, List.length_nil, Nat.reduceAdd, reduceIte, List.map_cons, List.map_nil, List.reduceReplicate, List.append_nil, List.nil_append, List.cons_append, List.getElem?_cons_zero, List.getElem?_cons_succ, List.set_cons_zero, List.set_cons_succ, Option.join_some, Option.bind_some, Option.map_some, Option.filter_some, consD_ss, testD_s, condO_t, condO_f, andB_t, andB_f, orB_t, orB_f, andV_t, andV_f, orV_t, orV_f, notV_s, setO_s, setLO_s, dropO_s, forO_s, asgO_s, bind2_ss, addD_ok, subD_ok, ltD_ok, leD_ok, gtD_ok, geD_ok, eqD_int, neD_int, ix_pair0, ix_pair1, setS, negD, lenD_l, lenD_t, listD_l, tupD_t, seqD_l, short2, shortL0, shortL1, shortL2, shortL3, shortL4, outD_rt, outD_nx, Bool.not_true, Bool.not_false]
  rw [opposite_eq o f hl]
  try simp only [runD, seqF_def, thenO_nx, thenO_rt, List.length_cons, List.length_nil, Nat.reduceAdd, reduceIte, List.map_cons, List.map_nil, List.reduceReplicate, List.append_nil, List.nil_append, List.cons_append, List.getElem?_cons_zero, List.getElem?_cons_succ, List.set_cons_zero, List.set_cons_succ, Option.join_some, Option.bind_some, Option.map_some, Option.filter_some, consD_ss, testD_s, condO_t, condO_f, andB_t, andB_f, orB_t, orB_f, andV_t, andV_f, orV_t, orV_f, notV_s, setO_s, setLO_s, dropO_s, forO_s, asgO_s, bind2_ss, addD_ok, subD_ok, ltD_ok, leD_ok, gtD_ok, geD_ok, eqD_int, neD_int, ix_pair0, ix_pair1, setS, negD, lenD_l, lenD_t, listD_l, tupD_t, seqD_l, short2, shortL0, shortL1, shortL2, shortL3, shortL4, outD_rt, outD_nx, Bool.not_true, Bool.not_false]
  show outD (Option.map Out.rt (minKD (fun z => F_p_best_corners_L0 ([z] ++ [encL (o :: f)])) (PyData.list [encPP (cor0 o f), encPP (cor1 o f)]))) = _
  rw [mk]
  rfl
theorem lside_eq (k : Int) (hk : k = 1 ∨ k = 2) (fk : List (Int × Int)) (hl : fk.length ≤ 1000) : F_p_least_side [encL fk, .int k] = some (.int (sdk k fk)) := by
  cases fk with
  | nil => rcases hk with rfl | rfl <;> rfl
  | cons o f =>
    have z : (((f.length + 1 : Nat) : Int) == 0) = false := by simp; omega
    rw [F_p_least_side]
    try simp only [runD, seqF_def, thenO_nx, thenO_rt, List.length_cons, List.length_nil, Nat.reduceAdd, reduceIte, List.map_cons, List.map_nil, List.reduceReplicate, List.append_nil, List.nil_append, List.cons_append, List.getElem?_cons_zero, List.getElem?_cons_succ, List.set_cons_zero, List.set_cons_succ, Option.join_some, Option.bind_some, Option.map_some, Option.filter_some, consD_ss, testD_s, condO_t, condO_f, andB_t, andB_f, orB_t, orB_f, andV_t, andV_f, orV_t, orV_f, notV_s, setO_s, setLO_s, dropO_s, forO_s, asgO_s, bind2_ss, addD_ok, subD_ok, ltD_ok, leD_ok, gtD_ok, geD_ok, eqD_int, neD_int, ix_pair0, ix_pair1, setS, negD, lenD_l, lenD_t, listD_l, tupD_t, seqD_l, short2, shortL0, shortL1, shortL2, shortL3, shortL4, outD_rt, outD_nx, Bool.not_true, Bool.not_false]
    simp only [B_p_least_side]
    try simp only [runD, seqF_def, thenO_nx, thenO_rt, List.length_cons, List.length_nil, Nat.reduceAdd, reduceIte, List.map_cons, List.map_nil, List.reduceReplicate, List.append_nil, List.nil_append, List.cons_append, List.getElem?_cons_zero, List.getElem?_cons_succ, List.set_cons_zero, List.set_cons_succ, Option.join_some, Option.bind_some, Option.map_some, Option.filter_some, consD_ss, testD_s, condO_t, condO_f, andB_t, andB_f, orB_t, orB_f, andV_t, andV_f, orV_t, orV_f, notV_s, setO_s, setLO_s, dropO_s, forO_s, asgO_s, bind2_ss, addD_ok, subD_ok, ltD_ok, leD_ok, gtD_ok, geD_ok, eqD_int, neD_int, ix_pair0, ix_pair1, setS, negD, lenD_l, lenD_t, listD_l, tupD_t, seqD_l, short2, shortL0, shortL1, shortL2, shortL3, shortL4, outD_rt, outD_nx, Bool.not_true, Bool.not_false]
    rw [lenD_encs]
    try simp only [runD, seqF_def, thenO_nx, thenO_rt, List.length_cons, List.length_nil, Nat.reduceAdd, reduceIte, List.map_cons, List.map_nil, List.reduceReplicate, List.append_nil, List.nil_append, List.cons_append, List.getElem?_cons_zero, List.getElem?_cons_succ, List.set_cons_zero, List.set_cons_succ, Option.join_some, Option.bind_some, Option.map_some, Option.filter_some, consD_ss, testD_s, condO_t, condO_f, andB_t, andB_f, orB_t, orB_f, andV_t, andV_f, orV_t, orV_f, notV_s, setO_s, setLO_s, dropO_s, forO_s, asgO_s, bind2_ss, addD_ok, subD_ok, ltD_ok, leD_ok, gtD_ok, geD_ok, eqD_int, neD_int, ix_pair0, ix_pair1, setS, negD, lenD_l, lenD_t, listD_l, tupD_t, seqD_l, short2, shortL0, shortL1, shortL2, shortL3, shortL4, outD_rt, outD_nx, Bool.not_true, Bool.not_false]
    rw [z]
    try simp only [runD, seqF_def, thenO_nx, thenO_rt, List.length_cons, List.length_nil, Nat.reduceAdd, reduceIte, List.map_cons, List.map_nil, List.reduceReplicate, List.append_nil, List.nil_append, List.cons_append, List.getElem?_cons_zero, List.getElem?_cons_succ, List.set_cons_zero, List.set_cons_succ, Option.join_some, Option.bind_some, Option.map_some, Option.filter_some, consD_ss, testD_s, condO_t, condO_f, andB_t, andB_f, orB_t, orB_f, andV_t, andV_f, orV_t, orV_f, notV_s, setO_s, setLO_s, dropO_s, forO_s, asgO_s, bind2_ss, addD_ok, subD_ok, ltD_ok, leD_ok, gtD_ok, geD_ok, eqD_int, neD_int, ix_pair0, ix_pair1, setS, negD, lenD_l, lenD_t, listD_l, tupD_t, seqD_l, short2, shortL0, shortL1, shortL2, shortL3, shortL4, outD_rt, outD_nx, Bool.not_true, Bool.not_false]
    rw [bestc_eq o f hl]
    try simp only [runD, seqF_def, thenO_nx, thenO_rt, List.length_cons, List.length_nil, Nat.reduceAdd, reduceIte, List.map_cons, List.map_nil, List.reduceReplicate, List.append_nil, List.nil_append, List.cons_append, List.getElem?_cons_zero, List.getElem?_cons_succ, List.set_cons_zero, List.set_cons_succ, Option.join_some, Option.bind_some, Option.map_some, Option.filter_some, consD_ss, testD_s, condO_t, condO_f, andB_t, andB_f, orB_t, orB_f, andV_t, andV_f, orV_t, orV_f, notV_s, setO_s, setLO_s, dropO_s, forO_s, asgO_s, bind2_ss, addD_ok, subD_ok, ltD_ok, leD_ok, gtD_ok, geD_ok, eqD_int, neD_int, ix_pair0, ix_pair1, setS, negD, lenD_l, lenD_t, listD_l, tupD_t, seqD_l, short2, shortL0, shortL1, shortL2, shortL3, shortL4, outD_rt, outD_nx, Bool.not_true, Bool.not_false]
    rcases hk with rfl | rfl
    · try simp only [runD, seqF_def, thenO_nx, thenO_rt, List.length_cons, List.length_nil, Nat.reduceAdd, reduceIte, List.map_cons, List.map_nil, List.reduceReplicate, List.append_nil, List.nil_append, List.cons_append, List.getElem?_cons_zero, List.getElem?_cons_succ, List.set_cons_zero, List.set_cons_succ, Option.join_some, Option.bind_some, Option.map_some, Option.filter_some, consD_ss, testD_s, condO_t, condO_f, andB_t, andB_f, orB_t, orB_f, andV_t, andV_f, orV_t, orV_f, notV_s, setO_s, setLO_s, dropO_s, forO_s, asgO_s, bind2_ss, addD_ok, subD_ok, ltD_ok, leD_ok, gtD_ok, geD_ok, eqD_int, neD_int, ix_pair0, ix_pair1, setS, negD, lenD_l, lenD_t, listD_l, tupD_t, seqD_l, short2, shortL0, shortL1, shortL2, shortL3, shortL4, outD_rt, outD_nx, Bool.not_true, Bool.not_false]
      rw [ix_pp0, ix_pp1]
      try simp only [runD, seqF_def, thenO_nx, thenO_rt, List.length_cons, List.length_nil, Nat.reduceAdd, reduceIte, List.map_cons, List.map_nil, List.reduceReplicate, List.append_nil, List.nil_append, List.cons_append, List.getElem?_cons_zero, List.getElem?_cons_succ, List.set_cons_zero, List.set_cons_succ, Option.join_some, Option.bind_some, Option.map_some, Option.filter_some, consD_ss, testD_s, condO_t, condO_f, andB_t, andB_f, orB_t, orB_f, andV_t, andV_f, orV_t, orV_f, notV_s, setO_s, setLO_s, dropO_s, forO_s, asgO_s, bind2_ss, addD_ok, subD_ok, ltD_ok, leD_ok, gtD_ok, geD_ok, eqD_int, neD_int, ix_pair0, ix_pair1, setS, negD, lenD_l, lenD_t, listD_l, tupD_t, seqD_l, short2, shortL0, shortL1, shortL2, shortL3, shortL4, outD_rt, outD_nx, Bool.not_true, Bool.not_false]
      rw [between_eq]
      rfl
    · rw [show ((2 : Int) == 1) = false from rfl]
      try simp only [runD, seqF_def, thenO_nx, thenO_rt, List.length_cons, List.length_nil, Nat.reduceAdd, reduceIte, List.map_cons, List.map_nil, List.reduceReplicate, List.append_nil, List.nil_append, List.cons_append, List.getElem?_cons_zero, List.getElem?_cons_succ, List.set_cons_zero, List.set_cons_succ, Option.join_some, Option.bind_some, Option.map_some, Option.filter_some, consD_ss, testD_s, condO_t, condO_f, andB_t, andB_f, orB_t, orB_f, andV_t, andV_f, orV_t, orV_f, notV_s, setO_s, setLO_s, dropO_s, forO_s, asgO_s, bind2_ss, addD_ok, subD_ok, ltD_ok, leD_ok, gtD_ok, geD_ok, eqD_int, neD_int, ix_pair0, ix_pair1, setS, negD, lenD_l, lenD_t, listD_l, tupD_t, seqD_l, short2, shortL0, shortL1, shortL2, shortL3, shortL4, outD_rt, outD_nx, Bool.not_true, Bool.not_false]
      rw [oftwo_eq o f _ hl]
      rfl
theorem checkm_ok (k : Int) (hk : 1 ≤ k) : FX_p_check_many [.int k] = some (.ret .none) := by
  rw [FX_p_check_many, runX]
  try simp only [runD, seqF_def, thenO_nx, thenO_rt, List.length_cons, List.length_nil, Nat.reduceAdd, reduceIte, List.map_cons, List.map_nil, List.reduceReplicate, List.append_nil, List.nil_append, List.cons_append, List.getElem?_cons_zero, List.getElem?_cons_succ, List.set_cons_zero, List.set_cons_succ, Option.join_some, Option.bind_some, Option.map_some, Option.filter_some, consD_ss, testD_s, condO_t, condO_f, andB_t, andB_f, orB_t, orB_f, andV_t, andV_f, orV_t, orV_f, notV_s, setO_s, setLO_s, dropO_s, forO_s, asgO_s, bind2_ss, addD_ok, subD_ok, ltD_ok, leD_ok, gtD_ok, geD_ok, eqD_int, neD_int, ix_pair0, ix_pair1, setS, negD, lenD_l, lenD_t, listD_l, tupD_t, seqD_l, short2, shortL0, shortL1, shortL2, shortL3, shortL4, outD_rt, outD_nx, Bool.not_true, Bool.not_false]
  simp only [BX_p_check_many]
  try simp only [runD, seqF_def, thenO_nx, thenO_rt, List.length_cons, List.length_nil, Nat.reduceAdd, reduceIte, List.map_cons, List.map_nil, List.reduceReplicate, List.append_nil, List.nil_append, List.cons_append, List.getElem?_cons_zero, List.getElem?_cons_succ, List.set_cons_zero, List.set_cons_succ, Option.join_some, Option.bind_some, Option.map_some, Option.filter_some, consD_ss, testD_s, condO_t, condO_f, andB_t, andB_f, orB_t, orB_f, andV_t, andV_f, orV_t, orV_f, notV_s, setO_s, setLO_s, dropO_s, forO_s, asgO_s, bind2_ss, addD_ok, subD_ok, ltD_ok, leD_ok, gtD_ok, geD_ok, eqD_int, neD_int, ix_pair0, ix_pair1, setS, negD, lenD_l, lenD_t, listD_l, tupD_t, seqD_l, short2, shortL0, shortL1, shortL2, shortL3, shortL4, outD_rt, outD_nx, Bool.not_true, Bool.not_false]
  rw [decide_eq_false (show ¬ k < 1 by omega)]
  rfl
theorem checkm_no (k : Int) (hk : k < 1) : FX_p_check_many [.int k] = some (.exc (excD "NoMany" [])) := by
  rw [FX_p_check_many, runX]
  try simp only [runD, seqF_def, thenO_nx, thenO_rt, List.length_cons, List.length_nil, Nat.reduceAdd, reduceIte, List.map_cons, List.map_nil, List.reduceReplicate, List.append_nil, List.nil_append, List.cons_append, List.getElem?_cons_zero, List.getElem?_cons_succ, List.set_cons_zero, List.set_cons_succ, Option.join_some, Option.bind_some, Option.map_some, Option.filter_some, consD_ss, testD_s, condO_t, condO_f, andB_t, andB_f, orB_t, orB_f, andV_t, andV_f, orV_t, orV_f, notV_s, setO_s, setLO_s, dropO_s, forO_s, asgO_s, bind2_ss, addD_ok, subD_ok, ltD_ok, leD_ok, gtD_ok, geD_ok, eqD_int, neD_int, ix_pair0, ix_pair1, setS, negD, lenD_l, lenD_t, listD_l, tupD_t, seqD_l, short2, shortL0, shortL1, shortL2, shortL3, shortL4, outD_rt, outD_nx, Bool.not_true, Bool.not_false]
  simp only [BX_p_check_many]
  try simp only [runD, seqF_def, thenO_nx, thenO_rt, List.length_cons, List.length_nil, Nat.reduceAdd, reduceIte, List.map_cons, List.map_nil, List.reduceReplicate, List.append_nil, List.nil_append, List.cons_append, List.getElem?_cons_zero, List.getElem?_cons_succ, List.set_cons_zero, List.set_cons_succ, Option.join_some, Option.bind_some, Option.map_some, Option.filter_some, consD_ss, testD_s, condO_t, condO_f, andB_t, andB_f, orB_t, orB_f, andV_t, andV_f, orV_t, orV_f, notV_s, setO_s, setLO_s, dropO_s, forO_s, asgO_s, bind2_ss, addD_ok, subD_ok, ltD_ok, leD_ok, gtD_ok, geD_ok, eqD_int, neD_int, ix_pair0, ix_pair1, setS, negD, lenD_l, lenD_t, listD_l, tupD_t, seqD_l, short2, shortL0, shortL1, shortL2, shortL3, shortL4, outD_rt, outD_nx, Bool.not_true, Bool.not_false]
  rw [decide_eq_true hk]
  rfl
theorem check12_ok (k : Int) (hk : k = 1 ∨ k = 2) : FX_p_check_one_or_two [.int k] = some (.ret .none) := by
  rw [FX_p_check_one_or_two, runX]
  try simp only [runD, seqF_def, thenO_nx, thenO_rt, List.length_cons, List.length_nil, Nat.reduceAdd, reduceIte, List.map_cons, List.map_nil, List.reduceReplicate, List.append_nil, List.nil_append, List.cons_append, List.getElem?_cons_zero, List.getElem?_cons_succ, List.set_cons_zero, List.set_cons_succ, Option.join_some, Option.bind_some, Option.map_some, Option.filter_some, consD_ss, testD_s, condO_t, condO_f, andB_t, andB_f, orB_t, orB_f, andV_t, andV_f, orV_t, orV_f, notV_s, setO_s, setLO_s, dropO_s, forO_s, asgO_s, bind2_ss, addD_ok, subD_ok, ltD_ok, leD_ok, gtD_ok, geD_ok, eqD_int, neD_int, ix_pair0, ix_pair1, setS, negD, lenD_l, lenD_t, listD_l, tupD_t, seqD_l, short2, shortL0, shortL1, shortL2, shortL3, shortL4, outD_rt, outD_nx, Bool.not_true, Bool.not_false]
  simp only [BX_p_check_one_or_two, seqX_def]
  try simp only [runD, seqF_def, thenO_nx, thenO_rt, List.length_cons, List.length_nil, Nat.reduceAdd, reduceIte, List.map_cons, List.map_nil, List.reduceReplicate, List.append_nil, List.nil_append, List.cons_append, List.getElem?_cons_zero, List.getElem?_cons_succ, List.set_cons_zero, List.set_cons_succ, Option.join_some, Option.bind_some, Option.map_some, Option.filter_some, consD_ss, testD_s, condO_t, condO_f, andB_t, andB_f, orB_t, orB_f, andV_t, andV_f, orV_t, orV_f, notV_s, setO_s, setLO_s, dropO_s, forO_s, asgO_s, bind2_ss, addD_ok, subD_ok, ltD_ok, leD_ok, gtD_ok, geD_ok, eqD_int, neD_int, ix_pair0, ix_pair1, setS, negD, lenD_l, lenD_t, listD_l, tupD_t, seqD_l, short2, shortL0, shortL1, shortL2, shortL3, shortL4, outD_rt, outD_nx, Bool.not_true, Bool.not_false]
  rw [checkm_ok k (by omega), dropX_ret, thenX_nx]
  try simp only [runD, seqF_def, thenO_nx, thenO_rt, List.length_cons, List.length_nil, Nat.reduceAdd, reduceIte, List.map_cons, List.map_nil, List.reduceReplicate, List.append_nil, List.nil_append, List.cons_append, List.getElem?_cons_zero, List.getElem?_cons_succ, List.set_cons_zero, List.set_cons_succ, Option.join_some, Option.bind_some, Option.map_some, Option.filter_some, consD_ss, testD_s, condO_t, condO_f, andB_t, andB_f, orB_t, orB_f, andV_t, andV_f, orV_t, orV_f, notV_s, setO_s, setLO_s, dropO_s, forO_s, asgO_s, bind2_ss, addD_ok, subD_ok, ltD_ok, leD_ok, gtD_ok, geD_ok, eqD_int, neD_int, ix_pair0, ix_pair1, setS, negD, lenD_l, lenD_t, listD_l, tupD_t, seqD_l, short2, shortL0, shortL1, shortL2, shortL3, shortL4, outD_rt, outD_nx, Bool.not_true, Bool.not_false]
  rw [decide_eq_false (show ¬ 2 < k by omega)]
  rfl
theorem check12_no (k : Int) (hk : k < 1 ∨ 2 < k) : FX_p_check_one_or_two [.int k] = some (.exc (excD "NoMany" [])) := by
  rw [FX_p_check_one_or_two, runX]
  try simp only [runD, seqF_def, thenO_nx, thenO_rt, List.length_cons, List.length_nil, Nat.reduceAdd, reduceIte, List.map_cons, List.map_nil, List.reduceReplicate, List.append_nil, List.nil_append, List.cons_append, List.getElem?_cons_zero, List.getElem?_cons_succ, List.set_cons_zero, List.set_cons_succ, Option.join_some, Option.bind_some, Option.map_some, Option.filter_some, consD_ss, testD_s, condO_t, condO_f, andB_t, andB_f, orB_t, orB_f, andV_t, andV_f, orV_t, orV_f, notV_s, setO_s, setLO_s, dropO_s, forO_s, asgO_s, bind2_ss, addD_ok, subD_ok, ltD_ok, leD_ok, gtD_ok, geD_ok, eqD_int, neD_int, ix_pair0, ix_pair1, setS, negD, lenD_l, lenD_t, listD_l, tupD_t, seqD_l, short2, shortL0, shortL1, shortL2, shortL3, shortL4, outD_rt, outD_nx, Bool.not_true, Bool.not_false]
  simp only [BX_p_check_one_or_two, seqX_def]
  try simp only [runD, seqF_def, thenO_nx, thenO_rt, List.length_cons, List.length_nil, Nat.reduceAdd, reduceIte, List.map_cons, List.map_nil, List.reduceReplicate, List.append_nil, List.nil_append, List.cons_append, List.getElem?_cons_zero, List.getElem?_cons_succ, List.set_cons_zero, List.set_cons_succ, Option.join_some, Option.bind_some, Option.map_some, Option.filter_some, consD_ss, testD_s, condO_t, condO_f, andB_t, andB_f, orB_t, orB_f, andV_t, andV_f, orV_t, orV_f, notV_s, setO_s, setLO_s, dropO_s, forO_s, asgO_s, bind2_ss, addD_ok, subD_ok, ltD_ok, leD_ok, gtD_ok, geD_ok, eqD_int, neD_int, ix_pair0, ix_pair1, setS, negD, lenD_l, lenD_t, listD_l, tupD_t, seqD_l, short2, shortL0, shortL1, shortL2, shortL3, shortL4, outD_rt, outD_nx, Bool.not_true, Bool.not_false]
  by_cases h : k < 1
  · rw [checkm_no k h, dropX_exc, thenX_ex]
    rfl
  · rw [checkm_ok k (by omega), dropX_ret, thenX_nx]
    try simp only [runD, seqF_def, thenO_nx, thenO_rt, List.length_cons, List.length_nil, Nat.reduceAdd, reduceIte, List.map_cons, List.map_nil, List.reduceReplicate, List.append_nil, List.nil_append, List.cons_append, List.getElem?_cons_zero, List.getElem?_cons_succ, List.set_cons_zero, List.set_cons_succ, Option.join_some, Option.bind_some, Option.map_some, Option.filter_some, consD_ss, testD_s, condO_t, condO_f, andB_t, andB_f, orB_t, orB_f, andV_t, andV_f, orV_t, orV_f, notV_s, setO_s, setLO_s, dropO_s, forO_s, asgO_s, bind2_ss, addD_ok, subD_ok, ltD_ok, leD_ok, gtD_ok, geD_ok, eqD_int, neD_int, ix_pair0, ix_pair1, setS, negD, lenD_l, lenD_t, listD_l, tupD_t, seqD_l, short2, shortL0, shortL1, shortL2, shortL3, shortL4, outD_rt, outD_nx, Bool.not_true, Bool.not_false]
    rw [decide_eq_true (show 2 < k by omega)]
    rfl
theorem sqleast_eq (k : Int) (hk : k = 1 ∨ k = 2) (fk : List (Int × Int)) (hl : fk.length ≤ 1000) : F_p_square_least [encL fk, .int k] = some (encP (red (sdk k fk) 2)) := by
  rw [F_p_square_least]
  refine pureX_ret ?_
  rw [FX_p_square_least, runX]
  try simp only [runD, seqF_def, thenO_nx, thenO_rt, List.length_cons, List.length_nil, Nat.reduceAdd, reduceIte, List.map_cons, List.map_nil, List.reduceReplicate, List.append_nil, List.nil_append, List.cons_append, List.getElem?_cons_zero, List.getElem?_cons_succ, List.set_cons_zero, List.set_cons_succ, Option.join_some, Option.bind_some, Option.map_some, Option.filter_some, consD_ss, testD_s, condO_t, condO_f, andB_t, andB_f, orB_t, orB_f, andV_t, andV_f, orV_t, orV_f, notV_s, setO_s, setLO_s, dropO_s, forO_s, asgO_s, bind2_ss, addD_ok, subD_ok, ltD_ok, leD_ok, gtD_ok, geD_ok, eqD_int, neD_int, ix_pair0, ix_pair1, setS, negD, lenD_l, lenD_t, listD_l, tupD_t, seqD_l, short2, shortL0, shortL1, shortL2, shortL3, shortL4, outD_rt, outD_nx, Bool.not_true, Bool.not_false]
  simp only [BX_p_square_least, seqX_def]
  try simp only [runD, seqF_def, thenO_nx, thenO_rt, List.length_cons, List.length_nil, Nat.reduceAdd, reduceIte, List.map_cons, List.map_nil, List.reduceReplicate, List.append_nil, List.nil_append, List.cons_append, List.getElem?_cons_zero, List.getElem?_cons_succ, List.set_cons_zero, List.set_cons_succ, Option.join_some, Option.bind_some, Option.map_some, Option.filter_some, consD_ss, testD_s, condO_t, condO_f, andB_t, andB_f, orB_t, orB_f, andV_t, andV_f, orV_t, orV_f, notV_s, setO_s, setLO_s, dropO_s, forO_s, asgO_s, bind2_ss, addD_ok, subD_ok, ltD_ok, leD_ok, gtD_ok, geD_ok, eqD_int, neD_int, ix_pair0, ix_pair1, setS, negD, lenD_l, lenD_t, listD_l, tupD_t, seqD_l, short2, shortL0, shortL1, shortL2, shortL3, shortL4, outD_rt, outD_nx, Bool.not_true, Bool.not_false]
  rw [check12_ok k hk, dropX_ret, thenX_nx]
  try simp only [runD, seqF_def, thenO_nx, thenO_rt, List.length_cons, List.length_nil, Nat.reduceAdd, reduceIte, List.map_cons, List.map_nil, List.reduceReplicate, List.append_nil, List.nil_append, List.cons_append, List.getElem?_cons_zero, List.getElem?_cons_succ, List.set_cons_zero, List.set_cons_succ, Option.join_some, Option.bind_some, Option.map_some, Option.filter_some, consD_ss, testD_s, condO_t, condO_f, andB_t, andB_f, orB_t, orB_f, andV_t, andV_f, orV_t, orV_f, notV_s, setO_s, setLO_s, dropO_s, forO_s, asgO_s, bind2_ss, addD_ok, subD_ok, ltD_ok, leD_ok, gtD_ok, geD_ok, eqD_int, neD_int, ix_pair0, ix_pair1, setS, negD, lenD_l, lenD_t, listD_l, tupD_t, seqD_l, short2, shortL0, shortL1, shortL2, shortL3, shortL4, outD_rt, outD_nx, Bool.not_true, Bool.not_false]
  rw [lside_eq k hk fk hl]
  try simp only [runD, seqF_def, thenO_nx, thenO_rt, List.length_cons, List.length_nil, Nat.reduceAdd, reduceIte, List.map_cons, List.map_nil, List.reduceReplicate, List.append_nil, List.nil_append, List.cons_append, List.getElem?_cons_zero, List.getElem?_cons_succ, List.set_cons_zero, List.set_cons_succ, Option.join_some, Option.bind_some, Option.map_some, Option.filter_some, consD_ss, testD_s, condO_t, condO_f, andB_t, andB_f, orB_t, orB_f, andV_t, andV_f, orV_t, orV_f, notV_s, setO_s, setLO_s, dropO_s, forO_s, asgO_s, bind2_ss, addD_ok, subD_ok, ltD_ok, leD_ok, gtD_ok, geD_ok, eqD_int, neD_int, ix_pair0, ix_pair1, setS, negD, lenD_l, lenD_t, listD_l, tupD_t, seqD_l, short2, shortL0, shortL1, shortL2, shortL3, shortL4, outD_rt, outD_nx, Bool.not_true, Bool.not_false]
  rw [frac_eq _ 2 (by decide) (by unfold bd; decide)]
  rfl
theorem sqleast_no (k : Int) (hk : k < 1 ∨ 2 < k) (d : PyData) : FX_p_square_least [d, .int k] = some (.exc (excD "NoMany" [])) := by
  rw [FX_p_square_least, runX]
  try simp only [runD, seqF_def, thenO_nx, thenO_rt, List.length_cons, List.length_nil, Nat.reduceAdd, reduceIte, List.map_cons, List.map_nil, List.reduceReplicate, List.append_nil, List.nil_append, List.cons_append, List.getElem?_cons_zero, List.getElem?_cons_succ, List.set_cons_zero, List.set_cons_succ, Option.join_some, Option.bind_some, Option.map_some, Option.filter_some, consD_ss, testD_s, condO_t, condO_f, andB_t, andB_f, orB_t, orB_f, andV_t, andV_f, orV_t, orV_f, notV_s, setO_s, setLO_s, dropO_s, forO_s, asgO_s, bind2_ss, addD_ok, subD_ok, ltD_ok, leD_ok, gtD_ok, geD_ok, eqD_int, neD_int, ix_pair0, ix_pair1, setS, negD, lenD_l, lenD_t, listD_l, tupD_t, seqD_l, short2, shortL0, shortL1, shortL2, shortL3, shortL4, outD_rt, outD_nx, Bool.not_true, Bool.not_false]
  simp only [BX_p_square_least, seqX_def]
  try simp only [runD, seqF_def, thenO_nx, thenO_rt, List.length_cons, List.length_nil, Nat.reduceAdd, reduceIte, List.map_cons, List.map_nil, List.reduceReplicate, List.append_nil, List.nil_append, List.cons_append, List.getElem?_cons_zero, List.getElem?_cons_succ, List.set_cons_zero, List.set_cons_succ, Option.join_some, Option.bind_some, Option.map_some, Option.filter_some, consD_ss, testD_s, condO_t, condO_f, andB_t, andB_f, orB_t, orB_f, andV_t, andV_f, orV_t, orV_f, notV_s, setO_s, setLO_s, dropO_s, forO_s, asgO_s, bind2_ss, addD_ok, subD_ok, ltD_ok, leD_ok, gtD_ok, geD_ok, eqD_int, neD_int, ix_pair0, ix_pair1, setS, negD, lenD_l, lenD_t, listD_l, tupD_t, seqD_l, short2, shortL0, shortL1, shortL2, shortL3, shortL4, outD_rt, outD_nx, Bool.not_true, Bool.not_false]
  rw [check12_no k hk, dropX_exc, thenX_ex]
  rfl
theorem sqposts_no (k : Int) (hk : k < 1 ∨ 2 < k) (d : PyData) : FX_p_square_posts [d, .int k] = some (.exc (excD "NoMany" [])) := by
  rw [FX_p_square_posts, runX]
  try simp only [runD, seqF_def, thenO_nx, thenO_rt, List.length_cons, List.length_nil, Nat.reduceAdd, reduceIte, List.map_cons, List.map_nil, List.reduceReplicate, List.append_nil, List.nil_append, List.cons_append, List.getElem?_cons_zero, List.getElem?_cons_succ, List.set_cons_zero, List.set_cons_succ, Option.join_some, Option.bind_some, Option.map_some, Option.filter_some, consD_ss, testD_s, condO_t, condO_f, andB_t, andB_f, orB_t, orB_f, andV_t, andV_f, orV_t, orV_f, notV_s, setO_s, setLO_s, dropO_s, forO_s, asgO_s, bind2_ss, addD_ok, subD_ok, ltD_ok, leD_ok, gtD_ok, geD_ok, eqD_int, neD_int, ix_pair0, ix_pair1, setS, negD, lenD_l, lenD_t, listD_l, tupD_t, seqD_l, short2, shortL0, shortL1, shortL2, shortL3, shortL4, outD_rt, outD_nx, Bool.not_true, Bool.not_false]
  simp only [BX_p_square_posts, seqX_def]
  try simp only [runD, seqF_def, thenO_nx, thenO_rt, List.length_cons, List.length_nil, Nat.reduceAdd, reduceIte, List.map_cons, List.map_nil, List.reduceReplicate, List.append_nil, List.nil_append, List.cons_append, List.getElem?_cons_zero, List.getElem?_cons_succ, List.set_cons_zero, List.set_cons_succ, Option.join_some, Option.bind_some, Option.map_some, Option.filter_some, consD_ss, testD_s, condO_t, condO_f, andB_t, andB_f, orB_t, orB_f, andV_t, andV_f, orV_t, orV_f, notV_s, setO_s, setLO_s, dropO_s, forO_s, asgO_s, bind2_ss, addD_ok, subD_ok, ltD_ok, leD_ok, gtD_ok, geD_ok, eqD_int, neD_int, ix_pair0, ix_pair1, setS, negD, lenD_l, lenD_t, listD_l, tupD_t, seqD_l, short2, shortL0, shortL1, shortL2, shortL3, shortL4, outD_rt, outD_nx, Bool.not_true, Bool.not_false]
  rw [check12_no k hk, dropX_exc, thenX_ex]
  rfl
theorem sd_least' (fk : List (Int × Int)) (h : fk ≠ []) : ∃ L R B T m n, Least fk (sdk 1 fk) (sdk 2 fk) L R B T m n := by
  cases fk with
  | nil => exact absurd rfl h
  | cons o f => exact sd_least o f
theorem sd_move (k : Int) (hk : k = 1 ∨ k = 2) (u v : Int) (fk : List (Int × Int)) : sdk k (fk.map fun p => (p.1 + u, p.2 - v)) = sdk k fk := by
  by_cases h : fk = []
  · rw [h]; rfl
  · obtain ⟨L, R, B, T, m, n, x⟩ := sd_least' fk h
    obtain ⟨L', R', B', T', m', n', y⟩ := sd_least' (fk.map fun p => (p.1 + u, p.2 - v)) (by simpa using h)
    obtain ⟨e1, e2⟩ := y.uniq (x.move u v)
    rcases hk with rfl | rfl
    · exact e1
    · exact e2
theorem sd_turn (k : Int) (hk : k = 1 ∨ k = 2) (fk : List (Int × Int)) : sdk k (fk.reverse.map fun p => (p.2, 0 - p.1)) = sdk k fk := by
  by_cases h : fk = []
  · rw [h]; rfl
  · obtain ⟨L, R, B, T, m, n, x⟩ := sd_least' fk h
    obtain ⟨L', R', B', T', m', n', y⟩ := sd_least' (fk.reverse.map fun p => (p.2, 0 - p.1)) (by simpa using h)
    obtain ⟨e1, e2⟩ := y.uniq x.turn
    rcases hk with rfl | rfl
    · exact e1
    · exact e2
theorem sd_times (k : Int) (hk : k = 1 ∨ k = 2) (t : Int) (ht : 0 < t) (fk : List (Int × Int)) : sdk k (fk.map fun p => (p.1 * t, p.2 * t)) = sdk k fk * t := by
  by_cases h : fk = []
  · rw [h]; show (0 : Int) = 0 * t; omega
  · obtain ⟨L, R, B, T, m, n, x⟩ := sd_least' fk h
    obtain ⟨L', R', B', T', m', n', y⟩ := sd_least' (fk.map fun p => (p.1 * t, p.2 * t)) (by simpa using h)
    obtain ⟨e1, e2⟩ := y.uniq (x.times t ht)
    rcases hk with rfl | rfl
    · exact e1
    · exact e2
theorem absI_nn (a : Int) : 0 ≤ absI a := by unfold absI; split <;> omega
theorem nearC_nn (c : (Int × Int) × (Int × Int)) (o : Int × Int) : 0 ≤ nearC c o := by
  have hs : ∀ p q : Int × Int, 0 ≤ sideB p q := fun p q => by
    have h1 := absI_nn (p.1 - q.1)
    have h2 := absI_nn (p.2 - q.2)
    unfold sideB mxR
    split <;> assumption
  have h1 := hs o c.1
  have h2 := hs o c.2
  unfold nearC minR
  split <;> assumption
theorem sd_bounds (fk : List (Int × Int)) (h : ∀ p ∈ fk, Pl p) : 0 ≤ sdk 2 fk ∧ sdk 2 fk ≤ sdk 1 fk ∧ sdk 1 fk ≤ 2 * 10 ^ 20 := by
  by_cases e : fk = []
  · rw [e]; decide
  · obtain ⟨L, R, B, T, m, n, x⟩ := sd_least' fk e
    obtain ⟨p1, h1, g1⟩ := x.hl.mem
    obtain ⟨p2, h2, g2⟩ := x.hr.mem
    obtain ⟨p3, h3, g3⟩ := x.hb.mem
    obtain ⟨p4, h4, g4⟩ := x.ht.mem
    obtain ⟨p5, h5, g5⟩ := x.hm.mem
    obtain ⟨p6, h6, g6⟩ := x.hn.mem
    have n1 := nearC_nn ((L, B), (R, T)) p5
    have n2 := nearC_nn ((L, T), (R, B)) p6
    have a1 := (h p1 h1).l1
    have a2 := (h p2 h2).u1
    have a3 := (h p3 h3).l2
    have a4 := (h p4 h4).u2
    have hle := x.le
    have ea := x.ea
    have eb := x.eb
    try dsimp only at g1 g2 g3 g4
    refine ⟨?_, hle, ?_⟩
    · rw [eb]; unfold minR; split <;> omega
    · rw [ea]; unfold mxR; split <;> omega
theorem caught_eq (d : PyData) (k : Int) (hk : k < 1 ∨ 2 < k) (b : Bool) : F_l_caught [d, .int k, .bool b] = some (excD "NoMany" []) := by
  rw [F_l_caught]
  try simp only [runD, seqF_def, thenO_nx, thenO_rt, List.length_cons, List.length_nil, Nat.reduceAdd, reduceIte, List.map_cons, List.map_nil, List.reduceReplicate, List.append_nil, List.nil_append, List.cons_append, List.getElem?_cons_zero, List.getElem?_cons_succ, List.set_cons_zero, List.set_cons_succ, Option.join_some, Option.bind_some, Option.map_some, Option.filter_some, consD_ss, testD_s, condO_t, condO_f, andB_t, andB_f, orB_t, orB_f, andV_t, andV_f, orV_t, orV_f, notV_s, setO_s, setLO_s, dropO_s, forO_s, asgO_s, bind2_ss, addD_ok, subD_ok, ltD_ok, leD_ok, gtD_ok, geD_ok, eqD_int, neD_int, ix_pair0, ix_pair1, setS, negD, lenD_l, lenD_t, listD_l, tupD_t, seqD_l, short2, shortL0, shortL1, shortL2, shortL3, shortL4, outD_rt, outD_nx, Bool.not_true, Bool.not_false]
  simp only [B_l_caught]
  try simp only [runD, seqF_def, thenO_nx, thenO_rt, List.length_cons, List.length_nil, Nat.reduceAdd, reduceIte, List.map_cons, List.map_nil, List.reduceReplicate, List.append_nil, List.nil_append, List.cons_append, List.getElem?_cons_zero, List.getElem?_cons_succ, List.set_cons_zero, List.set_cons_succ, Option.join_some, Option.bind_some, Option.map_some, Option.filter_some, consD_ss, testD_s, condO_t, condO_f, andB_t, andB_f, orB_t, orB_f, andV_t, andV_f, orV_t, orV_f, notV_s, setO_s, setLO_s, dropO_s, forO_s, asgO_s, bind2_ss, addD_ok, subD_ok, ltD_ok, leD_ok, gtD_ok, geD_ok, eqD_int, neD_int, ix_pair0, ix_pair1, setS, negD, lenD_l, lenD_t, listD_l, tupD_t, seqD_l, short2, shortL0, shortL1, shortL2, shortL3, shortL4, outD_rt, outD_nx, Bool.not_true, Bool.not_false]
  rw [sqleast_no k hk, sqposts_no k hk]
  cases b with
  | true =>
    show outD (thenO (tryF 4 exNames H_l_caught_0 (dropX _ (some (.exc (excD "NoMany" []))))) _) = _
    rw [dropX_exc, tryF_ex (ρ' := [some d, some (.int k), some (.bool true), some (excD "NoMany" []), some (excD "NoMany" [])]) (by decide +kernel) rfl]
    try simp only [runD, seqF_def, thenO_nx, thenO_rt, List.length_cons, List.length_nil, Nat.reduceAdd, reduceIte, List.map_cons, List.map_nil, List.reduceReplicate, List.append_nil, List.nil_append, List.cons_append, List.getElem?_cons_zero, List.getElem?_cons_succ, List.set_cons_zero, List.set_cons_succ, Option.join_some, Option.bind_some, Option.map_some, Option.filter_some, consD_ss, testD_s, condO_t, condO_f, andB_t, andB_f, orB_t, orB_f, andV_t, andV_f, orV_t, orV_f, notV_s, setO_s, setLO_s, dropO_s, forO_s, asgO_s, bind2_ss, addD_ok, subD_ok, ltD_ok, leD_ok, gtD_ok, geD_ok, eqD_int, neD_int, ix_pair0, ix_pair1, setS, negD, lenD_l, lenD_t, listD_l, tupD_t, seqD_l, short2, shortL0, shortL1, shortL2, shortL3, shortL4, outD_rt, outD_nx, Bool.not_true, Bool.not_false]
  | false =>
    show outD (thenO (tryF 4 exNames H_l_caught_0 (dropX _ (some (.exc (excD "NoMany" []))))) _) = _
    rw [dropX_exc, tryF_ex (ρ' := [some d, some (.int k), some (.bool false), some (excD "NoMany" []), some (excD "NoMany" [])]) (by decide +kernel) rfl]
    try simp only [runD, seqF_def, thenO_nx, thenO_rt, List.length_cons, List.length_nil, Nat.reduceAdd, reduceIte, List.map_cons, List.map_nil, List.reduceReplicate, List.append_nil, List.nil_append, List.cons_append, List.getElem?_cons_zero, List.getElem?_cons_succ, List.set_cons_zero, List.set_cons_succ, Option.join_some, Option.bind_some, Option.map_some, Option.filter_some, consD_ss, testD_s, condO_t, condO_f, andB_t, andB_f, orB_t, orB_f, andV_t, andV_f, orV_t, orV_f, notV_s, setO_s, setLO_s, dropO_s, forO_s, asgO_s, bind2_ss, addD_ok, subD_ok, ltD_ok, leD_ok, gtD_ok, geD_ok, eqD_int, neD_int, ix_pair0, ix_pair1, setS, negD, lenD_l, lenD_t, listD_l, tupD_t, seqD_l, short2, shortL0, shortL1, shortL2, shortL3, shortL4, outD_rt, outD_nx, Bool.not_true, Bool.not_false]
theorem class_eq : F_l_class [excD "NoMany" []] = some (.str (Str.ofString "NoMany")) := by kernel_rfl
theorem pw20 : powD (.int 10) (.int 20) = some (.int (10 ^ 20)) := rfl
theorem pw25 : powD (.int 10) (.int 25) = some (.int (10 ^ 25)) := rfl
theorem pw28 : powD (.int 10) (.int 28) = some (.int (10 ^ 28)) := rfl
theorem refused_eq (d : PyData) (k : Int) (hk : k < 1 ∨ 2 < k) : compO (setS 0) (fun _ => some true) E_law_3 (some [.bool true, .bool false]) [none, some d, some (.int k)] = some [.str (Str.ofString "NoMany"), .str (Str.ofString "NoMany")] := by
  have e : ∀ b, E_law_3 [some (.bool b), some d, some (.int k)] = some (.str (Str.ofString "NoMany")) := fun b => by
    simp only [E_law_3]
    try simp only [runD, seqF_def, thenO_nx, thenO_rt, List.length_cons, List.length_nil, Nat.reduceAdd, reduceIte, List.map_cons, List.map_nil, List.reduceReplicate, List.append_nil, List.nil_append, List.cons_append, List.getElem?_cons_zero, List.getElem?_cons_succ, List.set_cons_zero, List.set_cons_succ, Option.join_some, Option.bind_some, Option.map_some, Option.filter_some, consD_ss, testD_s, condO_t, condO_f, andB_t, andB_f, orB_t, orB_f, andV_t, andV_f, orV_t, orV_f, notV_s, setO_s, setLO_s, dropO_s, forO_s, asgO_s, bind2_ss, addD_ok, subD_ok, ltD_ok, leD_ok, gtD_ok, geD_ok, eqD_int, neD_int, ix_pair0, ix_pair1, setS, negD, lenD_l, lenD_t, listD_l, tupD_t, seqD_l, short2, shortL0, shortL1, shortL2, shortL3, shortL4, outD_rt, outD_nx, Bool.not_true, Bool.not_false]
    rw [caught_eq d k hk b]
    try simp only [runD, seqF_def, thenO_nx, thenO_rt, List.length_cons, List.length_nil, Nat.reduceAdd, reduceIte, List.map_cons, List.map_nil, List.reduceReplicate, List.append_nil, List.nil_append, List.cons_append, List.getElem?_cons_zero, List.getElem?_cons_succ, List.set_cons_zero, List.set_cons_succ, Option.join_some, Option.bind_some, Option.map_some, Option.filter_some, consD_ss, testD_s, condO_t, condO_f, andB_t, andB_f, orB_t, orB_f, andV_t, andV_f, orV_t, orV_f, notV_s, setO_s, setLO_s, dropO_s, forO_s, asgO_s, bind2_ss, addD_ok, subD_ok, ltD_ok, leD_ok, gtD_ok, geD_ok, eqD_int, neD_int, ix_pair0, ix_pair1, setS, negD, lenD_l, lenD_t, listD_l, tupD_t, seqD_l, short2, shortL0, shortL1, shortL2, shortL3, shortL4, outD_rt, outD_nx, Bool.not_true, Bool.not_false]
    exact class_eq
  rw [compO_s (by decide), compD]
  try simp only [runD, seqF_def, thenO_nx, thenO_rt, List.length_cons, List.length_nil, Nat.reduceAdd, reduceIte, List.map_cons, List.map_nil, List.reduceReplicate, List.append_nil, List.nil_append, List.cons_append, List.getElem?_cons_zero, List.getElem?_cons_succ, List.set_cons_zero, List.set_cons_succ, Option.join_some, Option.bind_some, Option.map_some, Option.filter_some, consD_ss, testD_s, condO_t, condO_f, andB_t, andB_f, orB_t, orB_f, andV_t, andV_f, orV_t, orV_f, notV_s, setO_s, setLO_s, dropO_s, forO_s, asgO_s, bind2_ss, addD_ok, subD_ok, ltD_ok, leD_ok, gtD_ok, geD_ok, eqD_int, neD_int, ix_pair0, ix_pair1, setS, negD, lenD_l, lenD_t, listD_l, tupD_t, seqD_l, short2, shortL0, shortL1, shortL2, shortL3, shortL4, outD_rt, outD_nx, Bool.not_true, Bool.not_false]
  rw [e, compD]
  try simp only [runD, seqF_def, thenO_nx, thenO_rt, List.length_cons, List.length_nil, Nat.reduceAdd, reduceIte, List.map_cons, List.map_nil, List.reduceReplicate, List.append_nil, List.nil_append, List.cons_append, List.getElem?_cons_zero, List.getElem?_cons_succ, List.set_cons_zero, List.set_cons_succ, Option.join_some, Option.bind_some, Option.map_some, Option.filter_some, consD_ss, testD_s, condO_t, condO_f, andB_t, andB_f, orB_t, orB_f, andV_t, andV_f, orV_t, orV_f, notV_s, setO_s, setLO_s, dropO_s, forO_s, asgO_s, bind2_ss, addD_ok, subD_ok, ltD_ok, leD_ok, gtD_ok, geD_ok, eqD_int, neD_int, ix_pair0, ix_pair1, setS, negD, lenD_l, lenD_t, listD_l, tupD_t, seqD_l, short2, shortL0, shortL1, shortL2, shortL3, shortL4, outD_rt, outD_nx, Bool.not_true, Bool.not_false]
  rw [e, compD]
  rfl
theorem main (ns : List Int) (hl : ns.length ≤ 63) : F_law [.list (ns.map .int)] = some (.bool true) := by
  obtain ⟨fk, h1, hx, er⟩ := plane_eq ns 0 7 (by decide) (by unfold bd; decide) (by decide) (by decide)
  obtain ⟨head, hh, eh⟩ := mix_ok (ns.getD (9 : Int).toNat 0) 1 (by unfold bd; decide)
  have bg : ∀ n : Int, 0 < n → n ≤ 10 ^ 40 → isBig n = true := fun n h1 h2 => (show bd n 200 by
    have : bd (10 ^ 40) 200 := by unfold bd; decide
    exact this.of_le (by omega) h2).big (by decide)
  have m0 : 0 ≤ head % 2 ∧ head % 2 < 2 := ⟨Int.emod_nonneg _ (by decide), Int.emod_lt_of_pos _ (by decide)⟩
  have t0 : 0 ≤ head / 10 ^ 25 % 30 ∧ head / 10 ^ 25 % 30 < 30 := ⟨Int.emod_nonneg _ (by decide), Int.emod_lt_of_pos _ (by decide)⟩
  have v0 : 0 ≤ head / 5000 % 10 ^ 20 := Int.emod_nonneg _ (by decide)
  have j0 : 0 ≤ head / 10 ^ 28 % 4 ∧ head / 10 ^ 28 % 4 < 4 := ⟨Int.emod_nonneg _ (by decide), Int.emod_lt_of_pos _ (by decide)⟩
  generalize hk : 1 + head % 2 = k
  generalize ht : 1 + head / 10 ^ 25 % 30 = t
  generalize hu : head / 2 % 2001 - 1000 = u
  generalize hv : head / 5000 % 10 ^ 20 = v
  generalize hj : head / 10 ^ 28 % 4 = j
  rw [hv] at v0
  rw [hj] at j0
  have k0 : k = 1 ∨ k = 2 := by omega
  have tb : bd t 100 := bd_small (by omega) (by omega)
  have fl : fk.length ≤ 1000 := by omega
  have len : (fk.map encP).length ≤ 1000 := by rw [List.length_map]; exact fl
  have lenr : (fk.reverse.map encP).length ≤ 1000 := by rw [List.length_map, List.length_reverse]; exact fl
  obtain ⟨b0, b1, b2⟩ := sd_bounds fk hx
  have sk : 0 ≤ sdk k fk ∧ sdk k fk ≤ 2 * 10 ^ 20 := by rcases k0 with rfl | rfl <;> omega
  have R0 := sqleast_eq k k0 fk fl
  have R1 := sqleast_eq 1 (.inl rfl) fk fl
  have R2 := sqleast_eq 2 (.inr rfl) fk fl
  have C0 := compD_map (S := tupS 2 (consS (setS 0) (consS (setS 1) (nilS)))) (fe := E_law_0) encP encP (fun p : Int × Int => (p.1 + u, p.2 - v)) (fun ρ => ∃ a b, ρ = [a, b, some (encP (u, v))]) (fun _ => True)
    (fun x ρ _ ⟨a, b, e⟩ => ⟨[some (.int x.1), some (.int x.2), some (encP (u, v))], by rw [e]; rfl, ⟨_, _, rfl⟩, rfl⟩) fk [none, none, some (encP (u, v))] ⟨_, _, rfl⟩ (fun _ _ => trivial)
  have C1 := compD_map (S := tupS 2 (consS (setS 0) (consS (setS 1) (nilS)))) (fe := E_law_1) encP encP (fun p : Int × Int => (p.2, 0 - p.1)) (fun ρ => ∃ a b, ρ = [a, b]) (fun _ => True)
    (fun x ρ _ ⟨a, b, e⟩ => ⟨[some (.int x.1), some (.int x.2)], by rw [e]; rfl, ⟨_, _, rfl⟩, rfl⟩) fk.reverse [none, none] ⟨_, _, rfl⟩ (fun _ _ => trivial)
  have C2 := compD_map (S := tupS 2 (consS (setS 0) (consS (setS 1) (nilS)))) (fe := E_law_2) encP encP (fun p : Int × Int => (p.1 * t, p.2 * t)) (fun ρ => ∃ a b, ρ = [a, b, some (.int t)]) Pl
    (fun x ρ hp ⟨a, b, e⟩ => ⟨[some (.int x.1), some (.int x.2), some (.int t)], by rw [e]; rfl, ⟨_, _, rfl⟩, by
      simp only [E_law_2]
      try simp only [runD, seqF_def, thenO_nx, thenO_rt, List.length_cons, List.length_nil, Nat.reduceAdd, reduceIte, List.map_cons, List.map_nil, List.reduceReplicate, List.append_nil, List.nil_append, List.cons_append, List.getElem?_cons_zero, List.getElem?_cons_succ, List.set_cons_zero, List.set_cons_succ, Option.join_some, Option.bind_some, Option.map_some, Option.filter_some, consD_ss, testD_s, condO_t, condO_f, andB_t, andB_f, orB_t, orB_f, andV_t, andV_f, orV_t, orV_f, notV_s, setO_s, setLO_s, dropO_s, forO_s, asgO_s, bind2_ss, addD_ok, subD_ok, ltD_ok, leD_ok, gtD_ok, geD_ok, eqD_int, neD_int, ix_pair0, ix_pair1, setS, negD, lenD_l, lenD_t, listD_l, tupD_t, seqD_l, short2, shortL0, shortL1, shortL2, shortL3, shortL4, outD_rt, outD_nx, Bool.not_true, Bool.not_false]
      rw [mulD_ok (hp.b1.big (by decide)) (tb.big (by decide)), mulD_ok (hp.b2.big (by decide)) (tb.big (by decide))]
      try simp only [runD, seqF_def, thenO_nx, thenO_rt, List.length_cons, List.length_nil, Nat.reduceAdd, reduceIte, List.map_cons, List.map_nil, List.reduceReplicate, List.append_nil, List.nil_append, List.cons_append, List.getElem?_cons_zero, List.getElem?_cons_succ, List.set_cons_zero, List.set_cons_succ, Option.join_some, Option.bind_some, Option.map_some, Option.filter_some, consD_ss, testD_s, condO_t, condO_f, andB_t, andB_f, orB_t, orB_f, andV_t, andV_f, orV_t, orV_f, notV_s, setO_s, setLO_s, dropO_s, forO_s, asgO_s, bind2_ss, addD_ok, subD_ok, ltD_ok, leD_ok, gtD_ok, geD_ok, eqD_int, neD_int, ix_pair0, ix_pair1, setS, negD, lenD_l, lenD_t, listD_l, tupD_t, seqD_l, short2, shortL0, shortL1, shortL2, shortL3, shortL4, outD_rt, outD_nx, Bool.not_true, Bool.not_false]
      rfl⟩) fk [none, none, some (.int t)] ⟨_, _, rfl⟩ hx
  have Q0 := sqleast_eq k k0 (fk.map fun p => (p.1 + u, p.2 - v)) (by rw [List.length_map]; exact fl)
  have Q1 := sqleast_eq k k0 (fk.reverse.map fun p => (p.2, 0 - p.1)) (by rw [List.length_map, List.length_reverse]; exact fl)
  have Q2 := sqleast_eq k k0 (fk.map fun p => (p.1 * t, p.2 * t)) (by rw [List.length_map]; exact fl)
  rw [sd_move k k0] at Q0
  rw [sd_turn k k0] at Q1
  rw [sd_times k k0 t (by omega)] at Q2
  have sb : bd (sdk k fk) 100 := bd_small (by omega) (by omega)
  have two : bd 2 100 := bd_small (by decide) (by decide)
  have rp : 0 < (red (sdk k fk) 2).2 := (red_fr (by decide)).pos
  have same : red (sdk k fk * t) 2 = red ((red (sdk k fk) 2).1 * t) (red (sdk k fk) 2).2 := red_eq (by decide) rp (by
    have := red_val (t := sdk k fk) (b := 2) (by decide)
    rw [Int.mul_right_comm, ← this, Int.mul_right_comm])
  have sb1 : bd (sdk 1 fk) 100 := bd_small (by omega) (by omega)
  have sb2 : bd (sdk 2 fk) 100 := bd_small (by omega) (by omega)
  have less : F_l_less [encP (red (sdk 1 fk) 2), encP (red (sdk 2 fk) 2)] = some (.bool false) := by
    rw [less_eq _ _ ((sb1.red1 (by decide)).mono (by decide)) ((two.red2 (by decide)).mono (by decide)) ((sb2.red1 (by decide)).mono (by decide)) ((two.red2 (by decide)).mono (by decide))]
    rw [decide_eq_false]
    intro hlt
    have h3 := (red_ltq (p := red (sdk 2 fk) 2) (t := sdk 1 fk) (c := 2) (by decide)).mp hlt
    have h4 := red_val (t := sdk 2 fk) (b := 2) (by decide)
    rw [h4] at h3
    have := Int.lt_of_mul_lt_mul_right h3 (Int.le_of_lt (red_fr (t := sdk 2 fk) (b := 2) (by decide)).pos)
    omega
  obtain ⟨bad, hb, eb⟩ : ∃ bad : Int, (bad < 1 ∨ 2 < bad) ∧ ixD (.list [.int 0, .int 3, .int (-1 - v), .int (3 + v)]) (.int j) = some (.int bad) := by
    obtain ⟨x, hx', ex⟩ := ix4 (.int 0) (.int 3) (.int (-1 - v)) (.int (3 + v)) j0.1 j0.2
    rcases hx' with rfl | rfl | rfl | rfl
    · exact ⟨0, by omega, ex⟩
    · exact ⟨3, by omega, ex⟩
    · exact ⟨-1 - v, by omega, ex⟩
    · exact ⟨3 + v, by omega, ex⟩
  have RF := refused_eq (encL fk) bad hb
  have rv : revD (encL fk) = some (fk.reverse.map encP) := by show some (fk.map encP).reverse = _; rw [List.map_reverse]
  have EQ : eqD (.list [.str (Str.ofString "NoMany"), .str (Str.ofString "NoMany")]) (.list [.str (Str.ofString "NoMany"), .str (Str.ofString "NoMany")]) = some (.bool true) := by kernel_rfl
  rw [F_law]
  try simp only [runD, seqF_def, thenO_nx, thenO_rt, List.length_cons, List.length_nil, Nat.reduceAdd, reduceIte, List.map_cons, List.map_nil, List.reduceReplicate, List.append_nil, List.nil_append, List.cons_append, List.getElem?_cons_zero, List.getElem?_cons_succ, List.set_cons_zero, List.set_cons_succ, Option.join_some, Option.bind_some, Option.map_some, Option.filter_some, consD_ss, testD_s, condO_t, condO_f, andB_t, andB_f, orB_t, orB_f, andV_t, andV_f, orV_t, orV_f, notV_s, setO_s, setLO_s, dropO_s, forO_s, asgO_s, bind2_ss, addD_ok, subD_ok, ltD_ok, leD_ok, gtD_ok, geD_ok, eqD_int, neD_int, ix_pair0, ix_pair1, setS, negD, lenD_l, lenD_t, listD_l, tupD_t, seqD_l, short2, shortL0, shortL1, shortL2, shortL3, shortL4, outD_rt, outD_nx, Bool.not_true, Bool.not_false]
  simp only [B_law]
  try simp only [runD, seqF_def, thenO_nx, thenO_rt, List.length_cons, List.length_nil, Nat.reduceAdd, reduceIte, List.map_cons, List.map_nil, List.reduceReplicate, List.append_nil, List.nil_append, List.cons_append, List.getElem?_cons_zero, List.getElem?_cons_succ, List.set_cons_zero, List.set_cons_succ, Option.join_some, Option.bind_some, Option.map_some, Option.filter_some, consD_ss, testD_s, condO_t, condO_f, andB_t, andB_f, orB_t, orB_f, andV_t, andV_f, orV_t, orV_f, notV_s, setO_s, setLO_s, dropO_s, forO_s, asgO_s, bind2_ss, addD_ok, subD_ok, ltD_ok, leD_ok, gtD_ok, geD_ok, eqD_int, neD_int, ix_pair0, ix_pair1, setS, negD, lenD_l, lenD_t, listD_l, tupD_t, seqD_l, short2, shortL0, shortL1, shortL2, shortL3, shortL4, outD_rt, outD_nx, Bool.not_true, Bool.not_false]
  rw [er]
  try simp only [runD, seqF_def, thenO_nx, thenO_rt, List.length_cons, List.length_nil, Nat.reduceAdd, reduceIte, List.map_cons, List.map_nil, List.reduceReplicate, List.append_nil, List.nil_append, List.cons_append, List.getElem?_cons_zero, List.getElem?_cons_succ, List.set_cons_zero, List.set_cons_succ, Option.join_some, Option.bind_some, Option.map_some, Option.filter_some, consD_ss, testD_s, condO_t, condO_f, andB_t, andB_f, orB_t, orB_f, andV_t, andV_f, orV_t, orV_f, notV_s, setO_s, setLO_s, dropO_s, forO_s, asgO_s, bind2_ss, addD_ok, subD_ok, ltD_ok, leD_ok, gtD_ok, geD_ok, eqD_int, neD_int, ix_pair0, ix_pair1, setS, negD, lenD_l, lenD_t, listD_l, tupD_t, seqD_l, short2, shortL0, shortL1, shortL2, shortL3, shortL4, outD_rt, outD_nx, Bool.not_true, Bool.not_false]
  rw [cell_eq ns 9 (by decide)]
  try simp only [runD, seqF_def, thenO_nx, thenO_rt, List.length_cons, List.length_nil, Nat.reduceAdd, reduceIte, List.map_cons, List.map_nil, List.reduceReplicate, List.append_nil, List.nil_append, List.cons_append, List.getElem?_cons_zero, List.getElem?_cons_succ, List.set_cons_zero, List.set_cons_succ, Option.join_some, Option.bind_some, Option.map_some, Option.filter_some, consD_ss, testD_s, condO_t, condO_f, andB_t, andB_f, orB_t, orB_f, andV_t, andV_f, orV_t, orV_f, notV_s, setO_s, setLO_s, dropO_s, forO_s, asgO_s, bind2_ss, addD_ok, subD_ok, ltD_ok, leD_ok, gtD_ok, geD_ok, eqD_int, neD_int, ix_pair0, ix_pair1, setS, negD, lenD_l, lenD_t, listD_l, tupD_t, seqD_l, short2, shortL0, shortL1, shortL2, shortL3, shortL4, outD_rt, outD_nx, Bool.not_true, Bool.not_false]
  rw [eh]
  try simp only [runD, seqF_def, thenO_nx, thenO_rt, List.length_cons, List.length_nil, Nat.reduceAdd, reduceIte, List.map_cons, List.map_nil, List.reduceReplicate, List.append_nil, List.nil_append, List.cons_append, List.getElem?_cons_zero, List.getElem?_cons_succ, List.set_cons_zero, List.set_cons_succ, Option.join_some, Option.bind_some, Option.map_some, Option.filter_some, consD_ss, testD_s, condO_t, condO_f, andB_t, andB_f, orB_t, orB_f, andV_t, andV_f, orV_t, orV_f, notV_s, setO_s, setLO_s, dropO_s, forO_s, asgO_s, bind2_ss, addD_ok, subD_ok, ltD_ok, leD_ok, gtD_ok, geD_ok, eqD_int, neD_int, ix_pair0, ix_pair1, setS, negD, lenD_l, lenD_t, listD_l, tupD_t, seqD_l, short2, shortL0, shortL1, shortL2, shortL3, shortL4, outD_rt, outD_nx, Bool.not_true, Bool.not_false]
  rw [modD_ok (b := 2) (by decide)]
  try simp only [runD, seqF_def, thenO_nx, thenO_rt, List.length_cons, List.length_nil, Nat.reduceAdd, reduceIte, List.map_cons, List.map_nil, List.reduceReplicate, List.append_nil, List.nil_append, List.cons_append, List.getElem?_cons_zero, List.getElem?_cons_succ, List.set_cons_zero, List.set_cons_succ, Option.join_some, Option.bind_some, Option.map_some, Option.filter_some, consD_ss, testD_s, condO_t, condO_f, andB_t, andB_f, orB_t, orB_f, andV_t, andV_f, orV_t, orV_f, notV_s, setO_s, setLO_s, dropO_s, forO_s, asgO_s, bind2_ss, addD_ok, subD_ok, ltD_ok, leD_ok, gtD_ok, geD_ok, eqD_int, neD_int, ix_pair0, ix_pair1, setS, negD, lenD_l, lenD_t, listD_l, tupD_t, seqD_l, short2, shortL0, shortL1, shortL2, shortL3, shortL4, outD_rt, outD_nx, Bool.not_true, Bool.not_false]
  rw [hk, fdivD_ok (a := head) (b := 2) (by decide) (bg 2 (by decide) (by decide))]
  try simp only [runD, seqF_def, thenO_nx, thenO_rt, List.length_cons, List.length_nil, Nat.reduceAdd, reduceIte, List.map_cons, List.map_nil, List.reduceReplicate, List.append_nil, List.nil_append, List.cons_append, List.getElem?_cons_zero, List.getElem?_cons_succ, List.set_cons_zero, List.set_cons_succ, Option.join_some, Option.bind_some, Option.map_some, Option.filter_some, consD_ss, testD_s, condO_t, condO_f, andB_t, andB_f, orB_t, orB_f, andV_t, andV_f, orV_t, orV_f, notV_s, setO_s, setLO_s, dropO_s, forO_s, asgO_s, bind2_ss, addD_ok, subD_ok, ltD_ok, leD_ok, gtD_ok, geD_ok, eqD_int, neD_int, ix_pair0, ix_pair1, setS, negD, lenD_l, lenD_t, listD_l, tupD_t, seqD_l, short2, shortL0, shortL1, shortL2, shortL3, shortL4, outD_rt, outD_nx, Bool.not_true, Bool.not_false]
  rw [modD_ok (b := 2001) (by decide)]
  try simp only [runD, seqF_def, thenO_nx, thenO_rt, List.length_cons, List.length_nil, Nat.reduceAdd, reduceIte, List.map_cons, List.map_nil, List.reduceReplicate, List.append_nil, List.nil_append, List.cons_append, List.getElem?_cons_zero, List.getElem?_cons_succ, List.set_cons_zero, List.set_cons_succ, Option.join_some, Option.bind_some, Option.map_some, Option.filter_some, consD_ss, testD_s, condO_t, condO_f, andB_t, andB_f, orB_t, orB_f, andV_t, andV_f, orV_t, orV_f, notV_s, setO_s, setLO_s, dropO_s, forO_s, asgO_s, bind2_ss, addD_ok, subD_ok, ltD_ok, leD_ok, gtD_ok, geD_ok, eqD_int, neD_int, ix_pair0, ix_pair1, setS, negD, lenD_l, lenD_t, listD_l, tupD_t, seqD_l, short2, shortL0, shortL1, shortL2, shortL3, shortL4, outD_rt, outD_nx, Bool.not_true, Bool.not_false]
  rw [hu, fdivD_ok (a := head) (b := 5000) (by decide) (bg 5000 (by decide) (by decide)), pw20]
  try simp only [runD, seqF_def, thenO_nx, thenO_rt, List.length_cons, List.length_nil, Nat.reduceAdd, reduceIte, List.map_cons, List.map_nil, List.reduceReplicate, List.append_nil, List.nil_append, List.cons_append, List.getElem?_cons_zero, List.getElem?_cons_succ, List.set_cons_zero, List.set_cons_succ, Option.join_some, Option.bind_some, Option.map_some, Option.filter_some, consD_ss, testD_s, condO_t, condO_f, andB_t, andB_f, orB_t, orB_f, andV_t, andV_f, orV_t, orV_f, notV_s, setO_s, setLO_s, dropO_s, forO_s, asgO_s, bind2_ss, addD_ok, subD_ok, ltD_ok, leD_ok, gtD_ok, geD_ok, eqD_int, neD_int, ix_pair0, ix_pair1, setS, negD, lenD_l, lenD_t, listD_l, tupD_t, seqD_l, short2, shortL0, shortL1, shortL2, shortL3, shortL4, outD_rt, outD_nx, Bool.not_true, Bool.not_false]
  rw [modD_ok (b := 10 ^ 20) (by decide)]
  try simp only [runD, seqF_def, thenO_nx, thenO_rt, List.length_cons, List.length_nil, Nat.reduceAdd, reduceIte, List.map_cons, List.map_nil, List.reduceReplicate, List.append_nil, List.nil_append, List.cons_append, List.getElem?_cons_zero, List.getElem?_cons_succ, List.set_cons_zero, List.set_cons_succ, Option.join_some, Option.bind_some, Option.map_some, Option.filter_some, consD_ss, testD_s, condO_t, condO_f, andB_t, andB_f, orB_t, orB_f, andV_t, andV_f, orV_t, orV_f, notV_s, setO_s, setLO_s, dropO_s, forO_s, asgO_s, bind2_ss, addD_ok, subD_ok, ltD_ok, leD_ok, gtD_ok, geD_ok, eqD_int, neD_int, ix_pair0, ix_pair1, setS, negD, lenD_l, lenD_t, listD_l, tupD_t, seqD_l, short2, shortL0, shortL1, shortL2, shortL3, shortL4, outD_rt, outD_nx, Bool.not_true, Bool.not_false]
  rw [hv, pw25]
  try simp only [runD, seqF_def, thenO_nx, thenO_rt, List.length_cons, List.length_nil, Nat.reduceAdd, reduceIte, List.map_cons, List.map_nil, List.reduceReplicate, List.append_nil, List.nil_append, List.cons_append, List.getElem?_cons_zero, List.getElem?_cons_succ, List.set_cons_zero, List.set_cons_succ, Option.join_some, Option.bind_some, Option.map_some, Option.filter_some, consD_ss, testD_s, condO_t, condO_f, andB_t, andB_f, orB_t, orB_f, andV_t, andV_f, orV_t, orV_f, notV_s, setO_s, setLO_s, dropO_s, forO_s, asgO_s, bind2_ss, addD_ok, subD_ok, ltD_ok, leD_ok, gtD_ok, geD_ok, eqD_int, neD_int, ix_pair0, ix_pair1, setS, negD, lenD_l, lenD_t, listD_l, tupD_t, seqD_l, short2, shortL0, shortL1, shortL2, shortL3, shortL4, outD_rt, outD_nx, Bool.not_true, Bool.not_false]
  rw [fdivD_ok (a := head) (b := 10 ^ 25) (by decide) (bg _ (by decide) (by decide))]
  try simp only [runD, seqF_def, thenO_nx, thenO_rt, List.length_cons, List.length_nil, Nat.reduceAdd, reduceIte, List.map_cons, List.map_nil, List.reduceReplicate, List.append_nil, List.nil_append, List.cons_append, List.getElem?_cons_zero, List.getElem?_cons_succ, List.set_cons_zero, List.set_cons_succ, Option.join_some, Option.bind_some, Option.map_some, Option.filter_some, consD_ss, testD_s, condO_t, condO_f, andB_t, andB_f, orB_t, orB_f, andV_t, andV_f, orV_t, orV_f, notV_s, setO_s, setLO_s, dropO_s, forO_s, asgO_s, bind2_ss, addD_ok, subD_ok, ltD_ok, leD_ok, gtD_ok, geD_ok, eqD_int, neD_int, ix_pair0, ix_pair1, setS, negD, lenD_l, lenD_t, listD_l, tupD_t, seqD_l, short2, shortL0, shortL1, shortL2, shortL3, shortL4, outD_rt, outD_nx, Bool.not_true, Bool.not_false]
  rw [modD_ok (b := 30) (by decide)]
  try simp only [runD, seqF_def, thenO_nx, thenO_rt, List.length_cons, List.length_nil, Nat.reduceAdd, reduceIte, List.map_cons, List.map_nil, List.reduceReplicate, List.append_nil, List.nil_append, List.cons_append, List.getElem?_cons_zero, List.getElem?_cons_succ, List.set_cons_zero, List.set_cons_succ, Option.join_some, Option.bind_some, Option.map_some, Option.filter_some, consD_ss, testD_s, condO_t, condO_f, andB_t, andB_f, orB_t, orB_f, andV_t, andV_f, orV_t, orV_f, notV_s, setO_s, setLO_s, dropO_s, forO_s, asgO_s, bind2_ss, addD_ok, subD_ok, ltD_ok, leD_ok, gtD_ok, geD_ok, eqD_int, neD_int, ix_pair0, ix_pair1, setS, negD, lenD_l, lenD_t, listD_l, tupD_t, seqD_l, short2, shortL0, shortL1, shortL2, shortL3, shortL4, outD_rt, outD_nx, Bool.not_true, Bool.not_false]
  rw [ht, R0]
  try simp only [runD, seqF_def, thenO_nx, thenO_rt, List.length_cons, List.length_nil, Nat.reduceAdd, reduceIte, List.map_cons, List.map_nil, List.reduceReplicate, List.append_nil, List.nil_append, List.cons_append, List.getElem?_cons_zero, List.getElem?_cons_succ, List.set_cons_zero, List.set_cons_succ, Option.join_some, Option.bind_some, Option.map_some, Option.filter_some, consD_ss, testD_s, condO_t, condO_f, andB_t, andB_f, orB_t, orB_f, andV_t, andV_f, orV_t, orV_f, notV_s, setO_s, setLO_s, dropO_s, forO_s, asgO_s, bind2_ss, addD_ok, subD_ok, ltD_ok, leD_ok, gtD_ok, geD_ok, eqD_int, neD_int, ix_pair0, ix_pair1, setS, negD, lenD_l, lenD_t, listD_l, tupD_t, seqD_l, short2, shortL0, shortL1, shortL2, shortL3, shortL4, outD_rt, outD_nx, Bool.not_true, Bool.not_false]
  have fr0 : ∀ a b c d e f g : Option PyData, frees 2 [4] [a, b, c, d, some (.tuple [.int u, .int v]), e, f, g] = [none, none, some (encP (u, v))] := fun _ _ _ _ _ _ _ => rfl
  have fr1 : ∀ ρ : Rho, frees 2 [] ρ = [none, none] := fun _ => rfl
  have fr2 : ∀ a b c d e f g : Option PyData, frees 2 [5] [a, b, c, d, e, some (.int t), f, g] = [none, none, some (.int t)] := fun _ _ _ _ _ _ _ => rfl
  have fr3 : ∀ a b c d e f : Option PyData, frees 1 [1, 7] [a, some (encL fk), b, c, d, e, f, some (.int bad)] = [none, some (encL fk), some (.int bad)] := fun _ _ _ _ _ _ => rfl
  have en : ∀ ps : List (Int × Int), PyData.list (ps.map encP) = encL ps := fun _ => rfl
  rw [listD_encL, fr0, compO_s len, C0]
  try simp only [runD, seqF_def, thenO_nx, thenO_rt, List.length_cons, List.length_nil, Nat.reduceAdd, reduceIte, List.map_cons, List.map_nil, List.reduceReplicate, List.append_nil, List.nil_append, List.cons_append, List.getElem?_cons_zero, List.getElem?_cons_succ, List.set_cons_zero, List.set_cons_succ, Option.join_some, Option.bind_some, Option.map_some, Option.filter_some, consD_ss, testD_s, condO_t, condO_f, andB_t, andB_f, orB_t, orB_f, andV_t, andV_f, orV_t, orV_f, notV_s, setO_s, setLO_s, dropO_s, forO_s, asgO_s, bind2_ss, addD_ok, subD_ok, ltD_ok, leD_ok, gtD_ok, geD_ok, eqD_int, neD_int, ix_pair0, ix_pair1, setS, negD, lenD_l, lenD_t, listD_l, tupD_t, seqD_l, short2, shortL0, shortL1, shortL2, shortL3, shortL4, outD_rt, outD_nx, Bool.not_true, Bool.not_false]
  rw [en, Q0]
  try simp only [runD, seqF_def, thenO_nx, thenO_rt, List.length_cons, List.length_nil, Nat.reduceAdd, reduceIte, List.map_cons, List.map_nil, List.reduceReplicate, List.append_nil, List.nil_append, List.cons_append, List.getElem?_cons_zero, List.getElem?_cons_succ, List.set_cons_zero, List.set_cons_succ, Option.join_some, Option.bind_some, Option.map_some, Option.filter_some, consD_ss, testD_s, condO_t, condO_f, andB_t, andB_f, orB_t, orB_f, andV_t, andV_f, orV_t, orV_f, notV_s, setO_s, setLO_s, dropO_s, forO_s, asgO_s, bind2_ss, addD_ok, subD_ok, ltD_ok, leD_ok, gtD_ok, geD_ok, eqD_int, neD_int, ix_pair0, ix_pair1, setS, negD, lenD_l, lenD_t, listD_l, tupD_t, seqD_l, short2, shortL0, shortL1, shortL2, shortL3, shortL4, outD_rt, outD_nx, Bool.not_true, Bool.not_false]
  rw [neD_encP]
  simp only [decide_true, Bool.not_true]
  try simp only [runD, seqF_def, thenO_nx, thenO_rt, List.length_cons, List.length_nil, Nat.reduceAdd, reduceIte, List.map_cons, List.map_nil, List.reduceReplicate, List.append_nil, List.nil_append, List.cons_append, List.getElem?_cons_zero, List.getElem?_cons_succ, List.set_cons_zero, List.set_cons_succ, Option.join_some, Option.bind_some, Option.map_some, Option.filter_some, consD_ss, testD_s, condO_t, condO_f, andB_t, andB_f, orB_t, orB_f, andV_t, andV_f, orV_t, orV_f, notV_s, setO_s, setLO_s, dropO_s, forO_s, asgO_s, bind2_ss, addD_ok, subD_ok, ltD_ok, leD_ok, gtD_ok, geD_ok, eqD_int, neD_int, ix_pair0, ix_pair1, setS, negD, lenD_l, lenD_t, listD_l, tupD_t, seqD_l, short2, shortL0, shortL1, shortL2, shortL3, shortL4, outD_rt, outD_nx, Bool.not_true, Bool.not_false]
  rw [rv]
  try simp only [runD, seqF_def, thenO_nx, thenO_rt, List.length_cons, List.length_nil, Nat.reduceAdd, reduceIte, List.map_cons, List.map_nil, List.reduceReplicate, List.append_nil, List.nil_append, List.cons_append, List.getElem?_cons_zero, List.getElem?_cons_succ, List.set_cons_zero, List.set_cons_succ, Option.join_some, Option.bind_some, Option.map_some, Option.filter_some, consD_ss, testD_s, condO_t, condO_f, andB_t, andB_f, orB_t, orB_f, andV_t, andV_f, orV_t, orV_f, notV_s, setO_s, setLO_s, dropO_s, forO_s, asgO_s, bind2_ss, addD_ok, subD_ok, ltD_ok, leD_ok, gtD_ok, geD_ok, eqD_int, neD_int, ix_pair0, ix_pair1, setS, negD, lenD_l, lenD_t, listD_l, tupD_t, seqD_l, short2, shortL0, shortL1, shortL2, shortL3, shortL4, outD_rt, outD_nx, Bool.not_true, Bool.not_false]
  rw [fr1, compO_s lenr, C1]
  try simp only [runD, seqF_def, thenO_nx, thenO_rt, List.length_cons, List.length_nil, Nat.reduceAdd, reduceIte, List.map_cons, List.map_nil, List.reduceReplicate, List.append_nil, List.nil_append, List.cons_append, List.getElem?_cons_zero, List.getElem?_cons_succ, List.set_cons_zero, List.set_cons_succ, Option.join_some, Option.bind_some, Option.map_some, Option.filter_some, consD_ss, testD_s, condO_t, condO_f, andB_t, andB_f, orB_t, orB_f, andV_t, andV_f, orV_t, orV_f, notV_s, setO_s, setLO_s, dropO_s, forO_s, asgO_s, bind2_ss, addD_ok, subD_ok, ltD_ok, leD_ok, gtD_ok, geD_ok, eqD_int, neD_int, ix_pair0, ix_pair1, setS, negD, lenD_l, lenD_t, listD_l, tupD_t, seqD_l, short2, shortL0, shortL1, shortL2, shortL3, shortL4, outD_rt, outD_nx, Bool.not_true, Bool.not_false]
  rw [en, Q1]
  try simp only [runD, seqF_def, thenO_nx, thenO_rt, List.length_cons, List.length_nil, Nat.reduceAdd, reduceIte, List.map_cons, List.map_nil, List.reduceReplicate, List.append_nil, List.nil_append, List.cons_append, List.getElem?_cons_zero, List.getElem?_cons_succ, List.set_cons_zero, List.set_cons_succ, Option.join_some, Option.bind_some, Option.map_some, Option.filter_some, consD_ss, testD_s, condO_t, condO_f, andB_t, andB_f, orB_t, orB_f, andV_t, andV_f, orV_t, orV_f, notV_s, setO_s, setLO_s, dropO_s, forO_s, asgO_s, bind2_ss, addD_ok, subD_ok, ltD_ok, leD_ok, gtD_ok, geD_ok, eqD_int, neD_int, ix_pair0, ix_pair1, setS, negD, lenD_l, lenD_t, listD_l, tupD_t, seqD_l, short2, shortL0, shortL1, shortL2, shortL3, shortL4, outD_rt, outD_nx, Bool.not_true, Bool.not_false]
  rw [neD_encP]
  simp only [decide_true, Bool.not_true]
  try simp only [runD, seqF_def, thenO_nx, thenO_rt, List.length_cons, List.length_nil, Nat.reduceAdd, reduceIte, List.map_cons, List.map_nil, List.reduceReplicate, List.append_nil, List.nil_append, List.cons_append, List.getElem?_cons_zero, List.getElem?_cons_succ, List.set_cons_zero, List.set_cons_succ, Option.join_some, Option.bind_some, Option.map_some, Option.filter_some, consD_ss, testD_s, condO_t, condO_f, andB_t, andB_f, orB_t, orB_f, andV_t, andV_f, orV_t, orV_f, notV_s, setO_s, setLO_s, dropO_s, forO_s, asgO_s, bind2_ss, addD_ok, subD_ok, ltD_ok, leD_ok, gtD_ok, geD_ok, eqD_int, neD_int, ix_pair0, ix_pair1, setS, negD, lenD_l, lenD_t, listD_l, tupD_t, seqD_l, short2, shortL0, shortL1, shortL2, shortL3, shortL4, outD_rt, outD_nx, Bool.not_true, Bool.not_false]
  rw [listD_encL, fr2, compO_s len, C2]
  try simp only [runD, seqF_def, thenO_nx, thenO_rt, List.length_cons, List.length_nil, Nat.reduceAdd, reduceIte, List.map_cons, List.map_nil, List.reduceReplicate, List.append_nil, List.nil_append, List.cons_append, List.getElem?_cons_zero, List.getElem?_cons_succ, List.set_cons_zero, List.set_cons_succ, Option.join_some, Option.bind_some, Option.map_some, Option.filter_some, consD_ss, testD_s, condO_t, condO_f, andB_t, andB_f, orB_t, orB_f, andV_t, andV_f, orV_t, orV_f, notV_s, setO_s, setLO_s, dropO_s, forO_s, asgO_s, bind2_ss, addD_ok, subD_ok, ltD_ok, leD_ok, gtD_ok, geD_ok, eqD_int, neD_int, ix_pair0, ix_pair1, setS, negD, lenD_l, lenD_t, listD_l, tupD_t, seqD_l, short2, shortL0, shortL1, shortL2, shortL3, shortL4, outD_rt, outD_nx, Bool.not_true, Bool.not_false]
  rw [en, Q2, ix_enc0, ix_enc1]
  try simp only [runD, seqF_def, thenO_nx, thenO_rt, List.length_cons, List.length_nil, Nat.reduceAdd, reduceIte, List.map_cons, List.map_nil, List.reduceReplicate, List.append_nil, List.nil_append, List.cons_append, List.getElem?_cons_zero, List.getElem?_cons_succ, List.set_cons_zero, List.set_cons_succ, Option.join_some, Option.bind_some, Option.map_some, Option.filter_some, consD_ss, testD_s, condO_t, condO_f, andB_t, andB_f, orB_t, orB_f, andV_t, andV_f, orV_t, orV_f, notV_s, setO_s, setLO_s, dropO_s, forO_s, asgO_s, bind2_ss, addD_ok, subD_ok, ltD_ok, leD_ok, gtD_ok, geD_ok, eqD_int, neD_int, ix_pair0, ix_pair1, setS, negD, lenD_l, lenD_t, listD_l, tupD_t, seqD_l, short2, shortL0, shortL1, shortL2, shortL3, shortL4, outD_rt, outD_nx, Bool.not_true, Bool.not_false]
  rw [mulD_ok ((sb.red1 (by decide)).big (by decide)) (tb.big (by decide))]
  try simp only [runD, seqF_def, thenO_nx, thenO_rt, List.length_cons, List.length_nil, Nat.reduceAdd, reduceIte, List.map_cons, List.map_nil, List.reduceReplicate, List.append_nil, List.nil_append, List.cons_append, List.getElem?_cons_zero, List.getElem?_cons_succ, List.set_cons_zero, List.set_cons_succ, Option.join_some, Option.bind_some, Option.map_some, Option.filter_some, consD_ss, testD_s, condO_t, condO_f, andB_t, andB_f, orB_t, orB_f, andV_t, andV_f, orV_t, orV_f, notV_s, setO_s, setLO_s, dropO_s, forO_s, asgO_s, bind2_ss, addD_ok, subD_ok, ltD_ok, leD_ok, gtD_ok, geD_ok, eqD_int, neD_int, ix_pair0, ix_pair1, setS, negD, lenD_l, lenD_t, listD_l, tupD_t, seqD_l, short2, shortL0, shortL1, shortL2, shortL3, shortL4, outD_rt, outD_nx, Bool.not_true, Bool.not_false]
  rw [low_eq _ _ rp ((two.red2 (by decide)).mono (by decide)), ← same]
  try simp only [runD, seqF_def, thenO_nx, thenO_rt, List.length_cons, List.length_nil, Nat.reduceAdd, reduceIte, List.map_cons, List.map_nil, List.reduceReplicate, List.append_nil, List.nil_append, List.cons_append, List.getElem?_cons_zero, List.getElem?_cons_succ, List.set_cons_zero, List.set_cons_succ, Option.join_some, Option.bind_some, Option.map_some, Option.filter_some, consD_ss, testD_s, condO_t, condO_f, andB_t, andB_f, orB_t, orB_f, andV_t, andV_f, orV_t, orV_f, notV_s, setO_s, setLO_s, dropO_s, forO_s, asgO_s, bind2_ss, addD_ok, subD_ok, ltD_ok, leD_ok, gtD_ok, geD_ok, eqD_int, neD_int, ix_pair0, ix_pair1, setS, negD, lenD_l, lenD_t, listD_l, tupD_t, seqD_l, short2, shortL0, shortL1, shortL2, shortL3, shortL4, outD_rt, outD_nx, Bool.not_true, Bool.not_false]
  rw [neD_encP]
  simp only [decide_true, Bool.not_true]
  try simp only [runD, seqF_def, thenO_nx, thenO_rt, List.length_cons, List.length_nil, Nat.reduceAdd, reduceIte, List.map_cons, List.map_nil, List.reduceReplicate, List.append_nil, List.nil_append, List.cons_append, List.getElem?_cons_zero, List.getElem?_cons_succ, List.set_cons_zero, List.set_cons_succ, Option.join_some, Option.bind_some, Option.map_some, Option.filter_some, consD_ss, testD_s, condO_t, condO_f, andB_t, andB_f, orB_t, orB_f, andV_t, andV_f, orV_t, orV_f, notV_s, setO_s, setLO_s, dropO_s, forO_s, asgO_s, bind2_ss, addD_ok, subD_ok, ltD_ok, leD_ok, gtD_ok, geD_ok, eqD_int, neD_int, ix_pair0, ix_pair1, setS, negD, lenD_l, lenD_t, listD_l, tupD_t, seqD_l, short2, shortL0, shortL1, shortL2, shortL3, shortL4, outD_rt, outD_nx, Bool.not_true, Bool.not_false]
  rw [R1, R2]
  try simp only [runD, seqF_def, thenO_nx, thenO_rt, List.length_cons, List.length_nil, Nat.reduceAdd, reduceIte, List.map_cons, List.map_nil, List.reduceReplicate, List.append_nil, List.nil_append, List.cons_append, List.getElem?_cons_zero, List.getElem?_cons_succ, List.set_cons_zero, List.set_cons_succ, Option.join_some, Option.bind_some, Option.map_some, Option.filter_some, consD_ss, testD_s, condO_t, condO_f, andB_t, andB_f, orB_t, orB_f, andV_t, andV_f, orV_t, orV_f, notV_s, setO_s, setLO_s, dropO_s, forO_s, asgO_s, bind2_ss, addD_ok, subD_ok, ltD_ok, leD_ok, gtD_ok, geD_ok, eqD_int, neD_int, ix_pair0, ix_pair1, setS, negD, lenD_l, lenD_t, listD_l, tupD_t, seqD_l, short2, shortL0, shortL1, shortL2, shortL3, shortL4, outD_rt, outD_nx, Bool.not_true, Bool.not_false]
  rw [less]
  try simp only [runD, seqF_def, thenO_nx, thenO_rt, List.length_cons, List.length_nil, Nat.reduceAdd, reduceIte, List.map_cons, List.map_nil, List.reduceReplicate, List.append_nil, List.nil_append, List.cons_append, List.getElem?_cons_zero, List.getElem?_cons_succ, List.set_cons_zero, List.set_cons_succ, Option.join_some, Option.bind_some, Option.map_some, Option.filter_some, consD_ss, testD_s, condO_t, condO_f, andB_t, andB_f, orB_t, orB_f, andV_t, andV_f, orV_t, orV_f, notV_s, setO_s, setLO_s, dropO_s, forO_s, asgO_s, bind2_ss, addD_ok, subD_ok, ltD_ok, leD_ok, gtD_ok, geD_ok, eqD_int, neD_int, ix_pair0, ix_pair1, setS, negD, lenD_l, lenD_t, listD_l, tupD_t, seqD_l, short2, shortL0, shortL1, shortL2, shortL3, shortL4, outD_rt, outD_nx, Bool.not_true, Bool.not_false]
  rw [pw28]
  try simp only [runD, seqF_def, thenO_nx, thenO_rt, List.length_cons, List.length_nil, Nat.reduceAdd, reduceIte, List.map_cons, List.map_nil, List.reduceReplicate, List.append_nil, List.nil_append, List.cons_append, List.getElem?_cons_zero, List.getElem?_cons_succ, List.set_cons_zero, List.set_cons_succ, Option.join_some, Option.bind_some, Option.map_some, Option.filter_some, consD_ss, testD_s, condO_t, condO_f, andB_t, andB_f, orB_t, orB_f, andV_t, andV_f, orV_t, orV_f, notV_s, setO_s, setLO_s, dropO_s, forO_s, asgO_s, bind2_ss, addD_ok, subD_ok, ltD_ok, leD_ok, gtD_ok, geD_ok, eqD_int, neD_int, ix_pair0, ix_pair1, setS, negD, lenD_l, lenD_t, listD_l, tupD_t, seqD_l, short2, shortL0, shortL1, shortL2, shortL3, shortL4, outD_rt, outD_nx, Bool.not_true, Bool.not_false]
  rw [fdivD_ok (a := head) (b := 10 ^ 28) (by decide) (bg _ (by decide) (by decide))]
  try simp only [runD, seqF_def, thenO_nx, thenO_rt, List.length_cons, List.length_nil, Nat.reduceAdd, reduceIte, List.map_cons, List.map_nil, List.reduceReplicate, List.append_nil, List.nil_append, List.cons_append, List.getElem?_cons_zero, List.getElem?_cons_succ, List.set_cons_zero, List.set_cons_succ, Option.join_some, Option.bind_some, Option.map_some, Option.filter_some, consD_ss, testD_s, condO_t, condO_f, andB_t, andB_f, orB_t, orB_f, andV_t, andV_f, orV_t, orV_f, notV_s, setO_s, setLO_s, dropO_s, forO_s, asgO_s, bind2_ss, addD_ok, subD_ok, ltD_ok, leD_ok, gtD_ok, geD_ok, eqD_int, neD_int, ix_pair0, ix_pair1, setS, negD, lenD_l, lenD_t, listD_l, tupD_t, seqD_l, short2, shortL0, shortL1, shortL2, shortL3, shortL4, outD_rt, outD_nx, Bool.not_true, Bool.not_false]
  rw [modD_ok (b := 4) (by decide)]
  try simp only [runD, seqF_def, thenO_nx, thenO_rt, List.length_cons, List.length_nil, Nat.reduceAdd, reduceIte, List.map_cons, List.map_nil, List.reduceReplicate, List.append_nil, List.nil_append, List.cons_append, List.getElem?_cons_zero, List.getElem?_cons_succ, List.set_cons_zero, List.set_cons_succ, Option.join_some, Option.bind_some, Option.map_some, Option.filter_some, consD_ss, testD_s, condO_t, condO_f, andB_t, andB_f, orB_t, orB_f, andV_t, andV_f, orV_t, orV_f, notV_s, setO_s, setLO_s, dropO_s, forO_s, asgO_s, bind2_ss, addD_ok, subD_ok, ltD_ok, leD_ok, gtD_ok, geD_ok, eqD_int, neD_int, ix_pair0, ix_pair1, setS, negD, lenD_l, lenD_t, listD_l, tupD_t, seqD_l, short2, shortL0, shortL1, shortL2, shortL3, shortL4, outD_rt, outD_nx, Bool.not_true, Bool.not_false]
  rw [hj, eb]
  try simp only [runD, seqF_def, thenO_nx, thenO_rt, List.length_cons, List.length_nil, Nat.reduceAdd, reduceIte, List.map_cons, List.map_nil, List.reduceReplicate, List.append_nil, List.nil_append, List.cons_append, List.getElem?_cons_zero, List.getElem?_cons_succ, List.set_cons_zero, List.set_cons_succ, Option.join_some, Option.bind_some, Option.map_some, Option.filter_some, consD_ss, testD_s, condO_t, condO_f, andB_t, andB_f, orB_t, orB_f, andV_t, andV_f, orV_t, orV_f, notV_s, setO_s, setLO_s, dropO_s, forO_s, asgO_s, bind2_ss, addD_ok, subD_ok, ltD_ok, leD_ok, gtD_ok, geD_ok, eqD_int, neD_int, ix_pair0, ix_pair1, setS, negD, lenD_l, lenD_t, listD_l, tupD_t, seqD_l, short2, shortL0, shortL1, shortL2, shortL3, shortL4, outD_rt, outD_nx, Bool.not_true, Bool.not_false]
  rw [fr3, RF]
  try simp only [runD, seqF_def, thenO_nx, thenO_rt, List.length_cons, List.length_nil, Nat.reduceAdd, reduceIte, List.map_cons, List.map_nil, List.reduceReplicate, List.append_nil, List.nil_append, List.cons_append, List.getElem?_cons_zero, List.getElem?_cons_succ, List.set_cons_zero, List.set_cons_succ, Option.join_some, Option.bind_some, Option.map_some, Option.filter_some, consD_ss, testD_s, condO_t, condO_f, andB_t, andB_f, orB_t, orB_f, andV_t, andV_f, orV_t, orV_f, notV_s, setO_s, setLO_s, dropO_s, forO_s, asgO_s, bind2_ss, addD_ok, subD_ok, ltD_ok, leD_ok, gtD_ok, geD_ok, eqD_int, neD_int, ix_pair0, ix_pair1, setS, negD, lenD_l, lenD_t, listD_l, tupD_t, seqD_l, short2, shortL0, shortL1, shortL2, shortL3, shortL4, outD_rt, outD_nx, Bool.not_true, Bool.not_false]
  rw [EQ]
  rfl
end NW
namespace NW
open PySem PySem.Spec PyProof.Rows L2
structure Txt (mg : Str → Option Value) : Prop where
  m_ValueError : mg "ValueError" = none
  m_abs : mg "abs" = none
  m_int : mg "int" = none
  m_isinstance : mg "isinstance" = none
  m_len : mg "len" = none
  m_max : mg "max" = none
  m_min : mg "min" = none
  m_range : mg "range" = none
  m_sum : mg "sum" = none
section
variable {P : Program} {w : World} {K : PySem.W.Frag} {mg : Str → Option Value} {base : Heap}
theorem sc_p_best_corners_L0 : LamSc lam_p_best_corners_L0 := ⟨rfl, rfl, rfl, by decide +kernel, by decide +kernel, by decide +kernel, by decide +kernel, by decide +kernel, by decide +kernel⟩
theorem ce_p_best_corners_L0 : ∀ x ∈ lam_p_best_corners_L0.free, (defScope s_p_best_corners).names.lookup x = some .cell := by decide +kernel
theorem fv_p_best_corners_L0 (T : Txt mg) (G_p_side_of_two : DefOk P w K mg base 2 "side_of_two" ["folk", "corners"] (.cl) F_p_side_of_two) : FvOk P w K mg base 3 "best_corners@0" F_p_best_corners_L0 :=
  fv_lam (k := 2) (L := lam_p_best_corners_L0) rfl sc_p_best_corners_L0 E_p_best_corners_L0 (fun _ _ _ _ us hl => len1 (P := fun us => bindArgs _ ⟨us, []⟩ = pure (List.zip _ us)) hl (fun _ => rfl)) (fun clos g c' q A outer s H hr => r_callD G_p_side_of_two (hr.mono (by decide)) rfl (a_cons (PV.r (pv_name (pv 1))) (a_cons (PV.r (pv_name (pv 0))) (a_nil))))
theorem sc_l_mix : FnScope ["_law_unit", "_law_k", "_law_number"] ["_law_unit", "_law_k"] (defScope s_l_mix) := ⟨rfl, rfl, rfl, by decide +kernel, rfl, by decide +kernel, by decide +kernel⟩
theorem ok_l_mix {f : Addr} {fd : FuncData} (F : Fun K "_law_mix" "_law_mix" s_l_mix f fd) (T : Txt mg)  : FnOk P w K mg base CX0 1 f fd ["_law_unit", "_law_k"] (spR K (.cl) F_l_mix) :=
  fn_auto (k := 0) ⟨[], .cl⟩ F sc_l_mix (by decide) B_l_mix (fun cdv hk A outer s H E hr => ss_cons (s_if (t_cmp c_ge (PV.r (pv_name (pv 0))) (PV.r (v_pow (PV.r (pv_int)) (PV.r (pv_int))))) (ss_one (s_ret (PV.r (v_sub (PV.r (pv_name (pv 0))) (PV.r (v_pow (PV.r (pv_int)) (PV.r (pv_int)))))))) (ss_nil)) (ss_cons (@s_set _ _ _ _ _ _ 2 _ _ sc_l_mix.nd rfl (Or.inl rfl) (v_mod (PV.r (pv_name (pv 0))) (PV.r (v_pow (PV.r (pv_int)) (PV.r (pv_int))))) rfl rfl (by first | exact .inl rfl | exact .inr rfl | assumption)) (ss_cons (@s_set _ _ _ _ _ _ 2 _ _ sc_l_mix.nd rfl (Or.inl rfl) (v_mod (PV.r (v_mul (PV.r (v_add (PV.r (v_add (PV.r (v_mul (PV.r (pv_name (pv 2))) (PV.r (pv_name (pv 2))))) (PV.r (v_mul (PV.r (v_mul (PV.r (pv_int)) (PV.r (pv_name (pv 1))))) (PV.r (pv_name (pv 1))))))) (PV.r (pv_int)))) (PV.r (pv_int)))) (PV.r (v_add (PV.r (v_pow (PV.r (pv_int)) (PV.r (pv_int)))) (PV.r (pv_int))))) rfl rfl (by first | exact .inl rfl | exact .inr rfl | assumption)) (ss_one (s_ret (PV.r (v_mod (PV.r (v_mul (PV.r (v_add (PV.r (v_mul (PV.r (pv_name (pv 2))) (PV.r (pv_name (pv 2))))) (PV.r (pv_name (pv 1))))) (PV.r (pv_int)))) (PV.r (v_add (PV.r (v_pow (PV.r (pv_int)) (PV.r (pv_int)))) (PV.r (pv_int)))))))))))
theorem sc_l_cell_at : FnScope ["_law_script", "_law_k"] ["_law_script", "_law_k"] (defScope s_l_cell_at) := ⟨rfl, rfl, rfl, by decide +kernel, rfl, by decide +kernel, by decide +kernel⟩
theorem ok_l_cell_at {f : Addr} {fd : FuncData} (F : Fun K "_law_cell_at" "_law_cell_at" s_l_cell_at f fd) (T : Txt mg)  : FnOk P w K mg base CX0 1 f fd ["_law_script", "_law_k"] (spR K (.cl) F_l_cell_at) :=
  fn_auto (k := 0) ⟨[], .cl⟩ F sc_l_cell_at (by decide) B_l_cell_at (fun cdv hk A outer s H E hr => ss_cons (s_if (t_cmp c_lt (PV.r (pv_name (pv 1))) (PV.r (v_callB (b_len) rfl T.m_len bt_len (a_cons (PV.r (pv_name (pv 0))) (a_nil))))) (ss_one (s_ret (r_ix (PV.r (pv_name (pv 0))) (PV.r (pv_name (pv 1)))))) (ss_nil)) (ss_one (s_ret (PV.r (pv_int)))))
theorem sc_l_plane : FnScope ["_law_script", "_law_at", "_law_most", "_law_head", "_law_folk", "_law_k", "_law_number", "_law_size", "_law_place"] ["_law_script", "_law_at", "_law_most"] (defScope s_l_plane) := ⟨rfl, rfl, rfl, by decide +kernel, rfl, by decide +kernel, by decide +kernel⟩
theorem ok_l_plane {f : Addr} {fd : FuncData} (F : Fun K "_law_plane" "_law_plane" s_l_plane f fd) (T : Txt mg) (G_l_mix : DefOk P w K mg base 1 "_law_mix" ["_law_unit", "_law_k"] (.cl) F_l_mix) (G_l_cell_at : DefOk P w K mg base 1 "_law_cell_at" ["_law_script", "_law_k"] (.cl) F_l_cell_at) : FnOk P w K mg base CX0 2 f fd ["_law_script", "_law_at", "_law_most"] (spR K (.cl) F_l_plane) :=
  fn_auto (k := 1) ⟨[(4, .lst .cl)], .cl⟩ F sc_l_plane (by decide) B_l_plane (fun cdv hk A outer s H E hr => ss_cons (@s_set _ _ _ _ _ _ 3 _ _ sc_l_plane.nd rfl (Or.inl rfl) (v_callD G_l_mix (hr.mono (by decide)) rfl (ac_cons (v_callD G_l_cell_at (hr.mono (by decide)) rfl (ac_cons (pv_name (pv 0)) (ac_cons (pv_name (pv 1)) (ac_nil)))) (ac_cons (pv_name (pv 1)) (ac_nil)))) rfl rfl (by first | exact .inl rfl | exact .inr rfl | assumption)) (ss_cons (s_setO (i := 4) sc_l_plane.nd rfl (Or.inl rfl) (fc_lst (ac_nil))) (ss_cons (s_for rfl (iv_rng1 rfl T.m_range (a_cons (PV.r (v_mod (PV.r (pv_name (pv 3))) (PV.r (v_add (PV.r (pv_name (pv 2))) (PV.r (pv_int)))))) (a_nil))) (g_name (i := 5) sc_l_plane.nd rfl (Or.inl rfl)) (ss_cons (@s_set _ _ _ _ _ _ 6 _ _ sc_l_plane.nd rfl (Or.inl rfl) (v_callD G_l_mix (hr.mono (by decide)) rfl (ac_cons (v_callD G_l_cell_at (hr.mono (by decide)) rfl (ac_cons (pv_name (pv 0)) (ac_cons (v_add (PV.r (v_add (PV.r (pv_name (pv 1))) (PV.r (pv_int)))) (PV.r (pv_name (pv 5)))) (ac_nil)))) (ac_cons (pv_int) (ac_nil)))) rfl rfl (by first | exact .inl rfl | exact .inr rfl | assumption)) (ss_cons (@s_set _ _ _ _ _ _ 7 _ _ sc_l_plane.nd rfl (Or.inl rfl) (PR.clf (r_ix (PFr.r (fr_lst (a_cons (PV.r (pv_int)) (a_cons (PV.r (pv_int)) (a_cons (PV.r (pv_int)) (a_cons (PV.r (v_pow (PV.r (pv_int)) (PV.r (pv_int)))) (a_nil))))))) (PV.r (v_mod (PV.r (v_fdiv (PV.r (pv_name (pv 3))) (PV.r (pv_int)))) (PV.r (pv_int)))))) rfl rfl (by first | exact .inl rfl | exact .inr rfl | assumption)) (ss_cons (@s_set _ _ _ _ _ _ 8 _ _ sc_l_plane.nd rfl (Or.inl rfl) (v_tup (ac_cons (v_sub (PV.r (v_mod (PV.r (pv_name (pv 6))) (PV.r (pv_name (pv 7))))) (PV.r (v_fdiv (PV.r (pv_name (pv 7))) (PV.r (pv_int))))) (ac_cons (v_sub (PV.r (v_mod (PV.r (v_fdiv (PV.r (pv_name (pv 6))) (PV.r (v_pow (PV.r (pv_int)) (PV.r (pv_int)))))) (PV.r (pv_name (pv 7))))) (PV.r (v_fdiv (PV.r (pv_name (pv 7))) (PV.r (pv_int))))) (ac_nil)))) rfl rfl (by first | exact .inl rfl | exact .inr rfl | assumption)) (ss_cons (s_if (t_w (w_and (t_cmp (c_eq hr.units) (PV.r (v_mod (PV.r (v_fdiv (PV.r (pv_name (pv 6))) (PV.r (v_pow (PV.r (pv_int)) (PV.r (pv_int)))))) (PV.r (pv_int)))) (PV.r (pv_int))) (w_and1 (t_cmp c_gt (PV.r (v_callB (b_len) rfl T.m_len bt_len (a_cons (pr_name (pv 4)) (a_nil)))) (PV.r (pv_int)))))) (ss_one (@s_set _ _ _ _ _ _ 8 _ _ sc_l_plane.nd rfl (Or.inl rfl) (PR.clf (r_ix (PFr.r (fr_lst (a_cons (r_ix (pr_name (pv 4)) (PV.r (pv_int))) (a_cons (r_tup (a_cons (r_ix (r_ix (pr_name (pv 4)) (PV.r (pv_int))) (PV.r (pv_int))) (a_cons (r_ix (PV.r (pv_name (pv 8))) (PV.r (pv_int))) (a_nil)))) (a_nil))))) (PV.r (v_mod (PV.r (v_fdiv (PV.r (pv_name (pv 6))) (PV.r (v_pow (PV.r (pv_int)) (PV.r (pv_int)))))) (PV.r (pv_int)))))) rfl rfl (by first | exact .inl rfl | exact .inr rfl | assumption))) (ss_nil)) (ss_one (s_append (pv 4) (pv_name (pv 8)))))))) PassesOwn.never) (ss_one (s_ret (pr_name (pv 4)))))))
theorem sc_p_check_many : FnScope ["many"] ["many"] (defScope s_p_check_many) := ⟨rfl, rfl, rfl, by decide +kernel, rfl, by decide +kernel, by decide +kernel⟩
theorem ok_p_check_many {f : Addr} {fd : FuncData} (F : Fun K "check_many" "check_many" s_p_check_many f fd) (T : Txt mg)  {C_NoMany : Addr} (X_NoMany : XCD K mg "NoMany" C_NoMany) : FnOk P w K mg base (CXe P w) 1 f fd ["many"] (spX K (.cl) FX_p_check_many) :=
  fn_autoX (k := 0) ⟨[], .cl⟩ F sc_p_check_many (by decide) BX_p_check_many (fun cdv hk A outer s H E hr => xx_one (xx_if (t_cmp c_lt (PV.r (pv_name (pv 0))) (PV.r (pv_int))) (xx_one (xx_raise0 rfl rfl (X_NoMany.at rfl))) (xx_nil)))
theorem sc_p_check_one_or_two : FnScope ["many"] ["many"] (defScope s_p_check_one_or_two) := ⟨rfl, rfl, rfl, by decide +kernel, rfl, by decide +kernel, by decide +kernel⟩
theorem ok_p_check_one_or_two {f : Addr} {fd : FuncData} (F : Fun K "check_one_or_two" "check_one_or_two" s_p_check_one_or_two f fd) (T : Txt mg) (G_p_check_many : DefX P w K mg base 1 "check_many" ["many"] (.cl) FX_p_check_many) {C_NoMany : Addr} (X_NoMany : XCD K mg "NoMany" C_NoMany) : FnOk P w K mg base (CXe P w) 2 f fd ["many"] (spX K (.cl) FX_p_check_one_or_two) :=
  fn_autoX (k := 1) ⟨[], .cl⟩ F sc_p_check_one_or_two (by decide) BX_p_check_one_or_two (fun cdv hk A outer s H E hr => xx_cons (xx_expr (xt_call G_p_check_many (hr.mono (by decide)) rfl rfl (ac_cons (pv_name (pv 0)) (ac_nil)))) (xx_one (xx_if (t_cmp c_gt (PV.r (pv_name (pv 0))) (PV.r (pv_int))) (xx_one (xx_raise0 rfl rfl (X_NoMany.at rfl))) (xx_nil))))
theorem sc_p_common_divisor : FnScope ["one", "other", "rest"] ["one", "other"] (defScope s_p_common_divisor) := ⟨rfl, rfl, rfl, by decide +kernel, rfl, by decide +kernel, by decide +kernel⟩
theorem ok_p_common_divisor {f : Addr} {fd : FuncData} (F : Fun K "common_divisor" "common_divisor" s_p_common_divisor f fd) (T : Txt mg)  : FnOk P w K mg base CX0 1 f fd ["one", "other"] (spR K (.cl) F_p_common_divisor) :=
  fn_auto (k := 0) ⟨[], .cl⟩ F sc_p_common_divisor (by decide) B_p_common_divisor (fun cdv hk A outer s H E hr => ss_cons (s_while (fun ρ => natAt ρ 1 + 1) (t_cmp (c_ne hr.units) (PV.r (pv_name (pv 1))) (PV.r (pv_int))) (ss_cons (@s_set _ _ _ _ _ _ 2 _ _ sc_p_common_divisor.nd rfl (Or.inl rfl) (v_mod (PV.r (pv_name (pv 0))) (PV.r (pv_name (pv 1)))) rfl rfl (by first | exact .inl rfl | exact .inr rfl | assumption)) (ss_cons (@s_set _ _ _ _ _ _ 0 _ _ sc_p_common_divisor.nd rfl (Or.inl rfl) (pv_name (pv 1)) rfl rfl (by first | exact .inl rfl | exact .inr rfl | assumption)) (ss_one (@s_set _ _ _ _ _ _ 1 _ _ sc_p_common_divisor.nd rfl (Or.inl rfl) (pv_name (pv 2)) rfl rfl (by first | exact .inl rfl | exact .inr rfl | assumption))))) PassesOwn.never) (ss_one (s_ret (PV.r (pv_name (pv 0))))))
theorem sc_p_fraction_of : FnScope ["top", "bottom", "divisor"] ["top", "bottom"] (defScope s_p_fraction_of) := ⟨rfl, rfl, rfl, by decide +kernel, rfl, by decide +kernel, by decide +kernel⟩
theorem ok_p_fraction_of {f : Addr} {fd : FuncData} (F : Fun K "fraction_of" "fraction_of" s_p_fraction_of f fd) (T : Txt mg) (G_p_common_divisor : DefOk P w K mg base 1 "common_divisor" ["one", "other"] (.cl) F_p_common_divisor) : FnOk P w K mg base CX0 2 f fd ["top", "bottom"] (spR K (.cl) F_p_fraction_of) :=
  fn_auto (k := 1) ⟨[], .cl⟩ F sc_p_fraction_of (by decide) B_p_fraction_of (fun cdv hk A outer s H E hr => ss_cons (@s_set _ _ _ _ _ _ 2 _ _ sc_p_fraction_of.nd rfl (Or.inl rfl) (PR.cl0 (r_callD G_p_common_divisor (hr.mono (by decide)) rfl (a_cons (PV.r (pv_name (pv 0))) (a_cons (PV.r (pv_name (pv 1))) (a_nil))))) rfl rfl (by first | exact .inl rfl | exact .inr rfl | assumption)) (ss_one (s_ret (r_tup (a_cons (PV.r (v_fdiv (PV.r (pv_name (pv 0))) (PV.r (pv_name (pv 2))))) (a_cons (PV.r (v_fdiv (PV.r (pv_name (pv 1))) (PV.r (pv_name (pv 2))))) (a_nil)))))))
theorem sc_p_opposite_corners : FnScope ["folk", "left", "right", "low", "high"] ["folk"] (defScope s_p_opposite_corners) := ⟨rfl, rfl, rfl, by decide +kernel, rfl, by decide +kernel, by decide +kernel⟩
theorem nd_p_opposite_corners_0 : (["one"] : List Str).Nodup := by decide +kernel
theorem nd_p_opposite_corners_1 : (["one"] : List Str).Nodup := by decide +kernel
theorem nd_p_opposite_corners_2 : (["one"] : List Str).Nodup := by decide +kernel
theorem nd_p_opposite_corners_3 : (["one"] : List Str).Nodup := by decide +kernel
theorem ok_p_opposite_corners {f : Addr} {fd : FuncData} (F : Fun K "opposite_corners" "opposite_corners" s_p_opposite_corners f fd) (T : Txt mg)  : FnOk P w K mg base CX0 1 f fd ["folk"] (spR K (.cl) F_p_opposite_corners) :=
  fn_auto (k := 0) ⟨[], .cl⟩ F sc_p_opposite_corners (by decide) B_p_opposite_corners (fun cdv hk A outer s H E hr => ss_cons (@s_set _ _ _ _ _ _ 1 _ _ sc_p_opposite_corners.nd rfl (Or.inl rfl) (v_minL rfl rfl T.m_min (PFr.r (fr_comp (k := 1) (N := ["one"]) (ix := [])  (defScope s_p_opposite_corners) rfl ⟨rfl, rfl, by decide +kernel, by decide +kernel, by decide +kernel, rfl, by decide +kernel, rfl⟩ rfl rfl (ir_list (PV.r (pv_name (pv 0)))) (fun _ _ _ _ _ _ => g_name (i := 0) nd_p_opposite_corners_0 rfl (Or.inl rfl)) (fun _ _ _ _ _ _ => if_nil) (fun _ _ _ _ _ _ => r_ix (PV.r (pv_name (pv 0))) (PV.r (pv_int)))))) rfl rfl (by first | exact .inl rfl | exact .inr rfl | assumption)) (ss_cons (@s_set _ _ _ _ _ _ 2 _ _ sc_p_opposite_corners.nd rfl (Or.inl rfl) (v_maxL rfl rfl T.m_max (PFr.r (fr_comp (k := 1) (N := ["one"]) (ix := [])  (defScope s_p_opposite_corners) rfl ⟨rfl, rfl, by decide +kernel, by decide +kernel, by decide +kernel, rfl, by decide +kernel, rfl⟩ rfl rfl (ir_list (PV.r (pv_name (pv 0)))) (fun _ _ _ _ _ _ => g_name (i := 0) nd_p_opposite_corners_1 rfl (Or.inl rfl)) (fun _ _ _ _ _ _ => if_nil) (fun _ _ _ _ _ _ => r_ix (PV.r (pv_name (pv 0))) (PV.r (pv_int)))))) rfl rfl (by first | exact .inl rfl | exact .inr rfl | assumption)) (ss_cons (@s_set _ _ _ _ _ _ 3 _ _ sc_p_opposite_corners.nd rfl (Or.inl rfl) (v_minL rfl rfl T.m_min (PFr.r (fr_comp (k := 1) (N := ["one"]) (ix := [])  (defScope s_p_opposite_corners) rfl ⟨rfl, rfl, by decide +kernel, by decide +kernel, by decide +kernel, rfl, by decide +kernel, rfl⟩ rfl rfl (ir_list (PV.r (pv_name (pv 0)))) (fun _ _ _ _ _ _ => g_name (i := 0) nd_p_opposite_corners_2 rfl (Or.inl rfl)) (fun _ _ _ _ _ _ => if_nil) (fun _ _ _ _ _ _ => r_ix (PV.r (pv_name (pv 0))) (PV.r (pv_int)))))) rfl rfl (by first | exact .inl rfl | exact .inr rfl | assumption)) (ss_cons (@s_set _ _ _ _ _ _ 4 _ _ sc_p_opposite_corners.nd rfl (Or.inl rfl) (v_maxL rfl rfl T.m_max (PFr.r (fr_comp (k := 1) (N := ["one"]) (ix := [])  (defScope s_p_opposite_corners) rfl ⟨rfl, rfl, by decide +kernel, by decide +kernel, by decide +kernel, rfl, by decide +kernel, rfl⟩ rfl rfl (ir_list (PV.r (pv_name (pv 0)))) (fun _ _ _ _ _ _ => g_name (i := 0) nd_p_opposite_corners_3 rfl (Or.inl rfl)) (fun _ _ _ _ _ _ => if_nil) (fun _ _ _ _ _ _ => r_ix (PV.r (pv_name (pv 0))) (PV.r (pv_int)))))) rfl rfl (by first | exact .inl rfl | exact .inr rfl | assumption)) (ss_one (s_ret (PFr.r (fr_lst (a_cons (r_tup (a_cons (r_tup (a_cons (PV.r (pv_name (pv 1))) (a_cons (PV.r (pv_name (pv 3))) (a_nil)))) (a_cons (r_tup (a_cons (PV.r (pv_name (pv 2))) (a_cons (PV.r (pv_name (pv 4))) (a_nil)))) (a_nil)))) (a_cons (r_tup (a_cons (r_tup (a_cons (PV.r (pv_name (pv 1))) (a_cons (PV.r (pv_name (pv 4))) (a_nil)))) (a_cons (r_tup (a_cons (PV.r (pv_name (pv 2))) (a_cons (PV.r (pv_name (pv 3))) (a_nil)))) (a_nil)))) (a_nil)))))))))))
theorem sc_p_side_between : FnScope ["one", "other"] ["one", "other"] (defScope s_p_side_between) := ⟨rfl, rfl, rfl, by decide +kernel, rfl, by decide +kernel, by decide +kernel⟩
theorem ok_p_side_between {f : Addr} {fd : FuncData} (F : Fun K "side_between" "side_between" s_p_side_between f fd) (T : Txt mg)  : FnOk P w K mg base CX0 1 f fd ["one", "other"] (spR K (.cl) F_p_side_between) :=
  fn_auto (k := 0) ⟨[], .cl⟩ F sc_p_side_between (by decide) B_p_side_between (fun cdv hk A outer s H E hr => ss_one (s_ret (PV.r (v_callB (b_max rfl) rfl T.m_max bt_max (a_cons (PV.r (v_callB (b_abs) rfl T.m_abs bt_abs (a_cons (PV.r (v_sub (r_ix (PV.r (pv_name (pv 0))) (PV.r (pv_int))) (r_ix (PV.r (pv_name (pv 1))) (PV.r (pv_int))))) (a_nil)))) (a_cons (PV.r (v_callB (b_abs) rfl T.m_abs bt_abs (a_cons (PV.r (v_sub (r_ix (PV.r (pv_name (pv 0))) (PV.r (pv_int))) (r_ix (PV.r (pv_name (pv 1))) (PV.r (pv_int))))) (a_nil)))) (a_nil)))))))
theorem sc_p_side_of_two : FnScope ["folk", "corners"] ["folk", "corners"] (defScope s_p_side_of_two) := ⟨rfl, rfl, rfl, by decide +kernel, rfl, by decide +kernel, by decide +kernel⟩
theorem nd_p_side_of_two_0 : (["one", "corners"] : List Str).Nodup := by decide +kernel
theorem ok_p_side_of_two {f : Addr} {fd : FuncData} (F : Fun K "side_of_two" "side_of_two" s_p_side_of_two f fd) (T : Txt mg) (G_p_side_between : DefOk P w K mg base 1 "side_between" ["one", "other"] (.cl) F_p_side_between) : FnOk P w K mg base CX0 2 f fd ["folk", "corners"] (spR K (.cl) F_p_side_of_two) :=
  fn_auto (k := 1) ⟨[], .cl⟩ F sc_p_side_of_two (by decide) B_p_side_of_two (fun cdv hk A outer s H E hr => ss_one (s_ret (PV.r (v_maxL rfl rfl T.m_max (PFr.r (fr_comp (k := 1) (N := ["one", "corners"]) (ix := [1])  (defScope s_p_side_of_two) rfl ⟨rfl, rfl, by decide +kernel, by decide +kernel, by decide +kernel, rfl, by decide +kernel, rfl⟩ rfl rfl (ir_list (PV.r (pv_name (pv 0)))) (fun _ _ _ _ _ _ => g_name (i := 0) nd_p_side_of_two_0 rfl (Or.inl rfl)) (fun _ _ _ _ _ _ => if_nil) (fun _ _ _ _ _ _ => PV.r (v_callB (b_min rfl) rfl T.m_min bt_min (a_cons (r_callD G_p_side_between (hr.mono (by decide)) rfl (a_cons (PV.r (pv_name (pv 0))) (a_cons (r_ix (PV.r (pv_name (pv 1))) (PV.r (pv_int))) (a_nil)))) (a_cons (r_callD G_p_side_between (hr.mono (by decide)) rfl (a_cons (PV.r (pv_name (pv 0))) (a_cons (r_ix (PV.r (pv_name (pv 1))) (PV.r (pv_int))) (a_nil)))) (a_nil)))))))))))
theorem sc_p_best_corners : FnScope ["folk"] ["folk"] (defScope s_p_best_corners) := ⟨rfl, rfl, rfl, by decide +kernel, rfl, by decide +kernel, by decide +kernel⟩
theorem ok_p_best_corners {f : Addr} {fd : FuncData} (F : Fun K "best_corners" "best_corners" s_p_best_corners f fd) (T : Txt mg) (G_p_opposite_corners : DefOk P w K mg base 1 "opposite_corners" ["folk"] (.cl) F_p_opposite_corners) (G_p_side_of_two : DefOk P w K mg base 2 "side_of_two" ["folk", "corners"] (.cl) F_p_side_of_two) (FV_p_best_corners_L0 : FvOk P w K mg base 3 "best_corners@0" F_p_best_corners_L0) (hy : ("best_corners" : Str) ∈ lamNames P) (ht : (PySem.W.tabIn K "best_corners").isSome = true) (hn : PySem.W.nsIn K mainGlobals "best_corners" = some (some (.ref f))) : FnOk P w K mg base CX0 5 f fd ["folk"] (spR K (.cl) F_p_best_corners) :=
  fn_auto (k := 4) ⟨[], .cl⟩ F sc_p_best_corners (by decide) B_p_best_corners (fun cdv hk A outer s H E hr => ss_one (s_ret (r_minK (tag := "best_corners@0") (L := lam_p_best_corners_L0) [0] rfl sc_p_best_corners_L0 ⟨lam_tab hy ht hn hk, rfl, rfl, ce_p_best_corners_L0, fun _ _ => rfl, rfl⟩ FV_p_best_corners_L0 (hr.mono (by decide)) rfl T.m_min (r_callD G_p_opposite_corners (hr.mono (by decide)) rfl (a_cons (PV.r (pv_name (pv 0))) (a_nil))))))
theorem sc_p_least_side : FnScope ["folk", "many", "corners"] ["folk", "many"] (defScope s_p_least_side) := ⟨rfl, rfl, rfl, by decide +kernel, rfl, by decide +kernel, by decide +kernel⟩
theorem ok_p_least_side {f : Addr} {fd : FuncData} (F : Fun K "least_side" "least_side" s_p_least_side f fd) (T : Txt mg) (G_p_best_corners : DefOk P w K mg base 5 "best_corners" ["folk"] (.cl) F_p_best_corners) (G_p_side_of_two : DefOk P w K mg base 2 "side_of_two" ["folk", "corners"] (.cl) F_p_side_of_two) (G_p_side_between : DefOk P w K mg base 1 "side_between" ["one", "other"] (.cl) F_p_side_between) : FnOk P w K mg base CX0 6 f fd ["folk", "many"] (spR K (.cl) F_p_least_side) :=
  fn_auto (k := 5) ⟨[], .cl⟩ F sc_p_least_side (by decide) B_p_least_side (fun cdv hk A outer s H E hr => ss_cons (s_if (t_cmp (c_eq hr.units) (PV.r (v_callB (b_len) rfl T.m_len bt_len (a_cons (PV.r (pv_name (pv 0))) (a_nil)))) (PV.r (pv_int))) (ss_one (s_ret (PV.r (pv_int)))) (ss_nil)) (ss_cons (@s_set _ _ _ _ _ _ 2 _ _ sc_p_least_side.nd rfl (Or.inl rfl) (PR.cl0 (r_callD G_p_best_corners (hr.mono (by decide)) rfl (a_cons (PV.r (pv_name (pv 0))) (a_nil)))) rfl rfl (by first | exact .inl rfl | exact .inr rfl | assumption)) (ss_cons (s_if (t_cmp (c_eq hr.units) (PV.r (pv_name (pv 1))) (PV.r (pv_int))) (ss_one (s_ret (r_callD G_p_side_between (hr.mono (by decide)) rfl (a_cons (r_ix (PV.r (pv_name (pv 2))) (PV.r (pv_int))) (a_cons (r_ix (PV.r (pv_name (pv 2))) (PV.r (pv_int))) (a_nil)))))) (ss_nil)) (ss_one (s_ret (r_callD G_p_side_of_two (hr.mono (by decide)) rfl (a_cons (PV.r (pv_name (pv 0))) (a_cons (PV.r (pv_name (pv 2))) (a_nil)))))))))
theorem sc_p_square_least : FnScope ["folk", "many"] ["folk", "many"] (defScope s_p_square_least) := ⟨rfl, rfl, rfl, by decide +kernel, rfl, by decide +kernel, by decide +kernel⟩
theorem ok_p_square_least {f : Addr} {fd : FuncData} (F : Fun K "square_least" "square_least" s_p_square_least f fd) (T : Txt mg) (G_p_check_one_or_two : DefX P w K mg base 2 "check_one_or_two" ["many"] (.cl) FX_p_check_one_or_two) (G_p_fraction_of : DefOk P w K mg base 2 "fraction_of" ["top", "bottom"] (.cl) F_p_fraction_of) (G_p_least_side : DefOk P w K mg base 6 "least_side" ["folk", "many"] (.cl) F_p_least_side) : FnOk P w K mg base (CXe P w) 7 f fd ["folk", "many"] (spX K (.cl) FX_p_square_least) :=
  fn_autoX (k := 6) ⟨[], .cl⟩ F sc_p_square_least (by decide) BX_p_square_least (fun cdv hk A outer s H E hr => xx_cons (xx_expr (xt_call G_p_check_one_or_two (hr.mono (by decide)) rfl rfl (ac_cons (pv_name (pv 1)) (ac_nil)))) (xx_one (x_lift (s_ret (r_callD G_p_fraction_of (hr.mono (by decide)) rfl (a_cons (r_callD G_p_least_side (hr.mono (by decide)) rfl (a_cons (PV.r (pv_name (pv 0))) (a_cons (PV.r (pv_name (pv 1))) (a_nil)))) (a_cons (PV.r (pv_int)) (a_nil))))))))
theorem sc_l_less : FnScope ["_law_one", "_law_other"] ["_law_one", "_law_other"] (defScope s_l_less) := ⟨rfl, rfl, rfl, by decide +kernel, rfl, by decide +kernel, by decide +kernel⟩
theorem ok_l_less {f : Addr} {fd : FuncData} (F : Fun K "_law_less" "_law_less" s_l_less f fd) (T : Txt mg)  : FnOk P w K mg base CX0 1 f fd ["_law_one", "_law_other"] (spR K (.cl) F_l_less) :=
  fn_auto (k := 0) ⟨[], .cl⟩ F sc_l_less (by decide) B_l_less (fun cdv hk A outer s H E hr => ss_one (s_ret (PV.r (v_cmp c_lt (PV.r (v_mul (r_ix (PV.r (pv_name (pv 0))) (PV.r (pv_int))) (r_ix (PV.r (pv_name (pv 1))) (PV.r (pv_int))))) (PV.r (v_mul (r_ix (PV.r (pv_name (pv 1))) (PV.r (pv_int))) (r_ix (PV.r (pv_name (pv 0))) (PV.r (pv_int)))))))))
theorem sc_l_shared : FnScope ["_law_one", "_law_other"] ["_law_one", "_law_other"] (defScope s_l_shared) := ⟨rfl, rfl, rfl, by decide +kernel, rfl, by decide +kernel, by decide +kernel⟩
theorem ok_l_shared {f : Addr} {fd : FuncData} (F : Fun K "_law_shared" "_law_shared" s_l_shared f fd) (T : Txt mg)  : FnOk P w K mg base CX0 1 f fd ["_law_one", "_law_other"] (spR K (.cl) F_l_shared) :=
  fn_auto (k := 0) ⟨[], .cl⟩ F sc_l_shared (by decide) B_l_shared (fun cdv hk A outer s H E hr => ss_cons (s_while (fun ρ => natAt ρ 1 + 1) (t_cmp (c_ne hr.units) (PV.r (pv_name (pv 1))) (PV.r (pv_int))) (ss_one (s_par (i := 0) (j := 1) rfl sc_l_shared.nd rfl rfl (by decide) rfl rfl (ac_cons (pv_name (pv 1)) (ac_cons (v_mod (PV.r (pv_name (pv 0))) (PV.r (pv_name (pv 1)))) (ac_nil))) rfl)) PassesOwn.never) (ss_one (s_ret (PV.r (v_callB (b_abs) rfl T.m_abs bt_abs (a_cons (PV.r (pv_name (pv 0))) (a_nil)))))))
theorem sc_l_lowest : FnScope ["_law_top", "_law_bottom", "_law_by"] ["_law_top", "_law_bottom"] (defScope s_l_lowest) := ⟨rfl, rfl, rfl, by decide +kernel, rfl, by decide +kernel, by decide +kernel⟩
theorem ok_l_lowest {f : Addr} {fd : FuncData} (F : Fun K "_law_lowest" "_law_lowest" s_l_lowest f fd) (T : Txt mg) (G_l_shared : DefOk P w K mg base 1 "_law_shared" ["_law_one", "_law_other"] (.cl) F_l_shared) : FnOk P w K mg base CX0 2 f fd ["_law_top", "_law_bottom"] (spR K (.cl) F_l_lowest) :=
  fn_auto (k := 1) ⟨[], .cl⟩ F sc_l_lowest (by decide) B_l_lowest (fun cdv hk A outer s H E hr => ss_cons (@s_set _ _ _ _ _ _ 2 _ _ sc_l_lowest.nd rfl (Or.inl rfl) (PR.cl0 (r_callD G_l_shared (hr.mono (by decide)) rfl (a_cons (PV.r (pv_name (pv 0))) (a_cons (PV.r (pv_name (pv 1))) (a_nil))))) rfl rfl (by first | exact .inl rfl | exact .inr rfl | assumption)) (ss_one (s_ret (r_tup (a_cons (PV.r (v_fdiv (PV.r (pv_name (pv 0))) (PV.r (pv_name (pv 2))))) (a_cons (PV.r (v_fdiv (PV.r (pv_name (pv 1))) (PV.r (pv_name (pv 2))))) (a_nil)))))))
theorem sc_l_class : FnScope ["_law_kept", "_law_got", "_law_words"] ["_law_kept"] (defScope s_l_class) := ⟨rfl, rfl, rfl, by decide +kernel, rfl, by decide +kernel, by decide +kernel⟩
theorem nd_l_class_0 : (["_law_one"] : List Str).Nodup := by decide +kernel
theorem ok_l_class {f : Addr} {fd : FuncData} (F : Fun K "_law_class" "_law_class" s_l_class f fd) (T : Txt mg)  {D_NoName : Addr} (I_NoName : IsT K mg exNames "NoName" D_NoName) {D_NoMany : Addr} (I_NoMany : IsT K mg exNames "NoMany" D_NoMany) {D_NoLine : Addr} (I_NoLine : IsT K mg exNames "NoLine" D_NoLine) {D_NoFolk : Addr} (I_NoFolk : IsT K mg exNames "NoFolk" D_NoFolk) {D_NoReach : Addr} (I_NoReach : IsT K mg exNames "NoReach" D_NoReach) {D_NoPosts : Addr} (I_NoPosts : IsT K mg exNames "NoPosts" D_NoPosts) {D_NoPost : Addr} (I_NoPost : IsT K mg exNames "NoPost" D_NoPost) {D_NoText : Addr} (I_NoText : IsT K mg exNames "NoText" D_NoText) {D_NoTable : Addr} (I_NoTable : IsT K mg exNames "NoTable" D_NoTable) {D_NoRing : Addr} (I_NoRing : IsT K mg exNames "NoRing" D_NoRing) {D_NoWord : Addr} (I_NoWord : IsT K mg exNames "NoWord" D_NoWord) {D_NoWay : Addr} (I_NoWay : IsT K mg exNames "NoWay" D_NoWay) {D_NoThing : Addr} (I_NoThing : IsT K mg exNames "NoThing" D_NoThing) {D_PostError : Addr} (I_PostError : IsT K mg exNames "PostError" D_PostError) (I_ValueError : IsV K exNames) : FnOk P w K mg base CX0 1 f fd ["_law_kept"] (spR K (.cl) F_l_class) :=
  fn_auto (k := 0) ⟨[], .cl⟩ F sc_l_class (by decide) B_l_class (fun cdv hk A outer s H E hr => ss_cons (@s_set _ _ _ _ _ _ 1 _ _ sc_l_class.nd rfl (Or.inl rfl) (PFc.v (PFr.cz (fr_lst (a_cons (PV.r (v_isiC I_NoFolk (PV.r (pv_name (pv 0))) rfl T.m_isinstance rfl)) (a_cons (PV.r (v_isiC I_NoLine (PV.r (pv_name (pv 0))) rfl T.m_isinstance rfl)) (a_cons (PV.r (v_isiC I_NoMany (PV.r (pv_name (pv 0))) rfl T.m_isinstance rfl)) (a_cons (PV.r (v_isiC I_NoName (PV.r (pv_name (pv 0))) rfl T.m_isinstance rfl)) (a_nil)))))))) rfl rfl (by first | exact .inl rfl | exact .inr rfl | assumption)) (ss_cons (@s_set _ _ _ _ _ _ 1 _ _ sc_l_class.nd rfl (Or.inl rfl) (PFc.v (PFr.cz (fr_cat (PV.r (pv_name (pv 1))) (PFr.r (fr_lst (a_cons (PV.r (v_isiC I_NoPost (PV.r (pv_name (pv 0))) rfl T.m_isinstance rfl)) (a_cons (PV.r (v_isiC I_NoPosts (PV.r (pv_name (pv 0))) rfl T.m_isinstance rfl)) (a_cons (PV.r (v_isiC I_NoReach (PV.r (pv_name (pv 0))) rfl T.m_isinstance rfl)) (a_nil))))))))) rfl rfl (by first | exact .inl rfl | exact .inr rfl | assumption)) (ss_cons (@s_set _ _ _ _ _ _ 1 _ _ sc_l_class.nd rfl (Or.inl rfl) (PFc.v (PFr.cz (fr_cat (PV.r (pv_name (pv 1))) (PFr.r (fr_lst (a_cons (PV.r (v_isiC I_NoRing (PV.r (pv_name (pv 0))) rfl T.m_isinstance rfl)) (a_cons (PV.r (v_isiC I_NoTable (PV.r (pv_name (pv 0))) rfl T.m_isinstance rfl)) (a_cons (PV.r (v_isiC I_NoText (PV.r (pv_name (pv 0))) rfl T.m_isinstance rfl)) (a_nil))))))))) rfl rfl (by first | exact .inl rfl | exact .inr rfl | assumption)) (ss_cons (@s_set _ _ _ _ _ _ 1 _ _ sc_l_class.nd rfl (Or.inl rfl) (PFc.v (PFr.cz (fr_cat (PV.r (pv_name (pv 1))) (PFr.r (fr_lst (a_cons (PV.r (v_isiC I_NoThing (PV.r (pv_name (pv 0))) rfl T.m_isinstance rfl)) (a_cons (PV.r (v_isiC I_NoWay (PV.r (pv_name (pv 0))) rfl T.m_isinstance rfl)) (a_cons (PV.r (v_isiC I_NoWord (PV.r (pv_name (pv 0))) rfl T.m_isinstance rfl)) (a_nil))))))))) rfl rfl (by first | exact .inl rfl | exact .inr rfl | assumption)) (ss_cons (s_if (t_w (w_or (t_not (t_val (PV.r (v_isiC I_PostError (PV.r (pv_name (pv 0))) rfl T.m_isinstance rfl)))) (w_or (t_not (t_val (PV.r (v_isiV I_ValueError (PV.r (pv_name (pv 0))) rfl T.m_isinstance rfl T.m_ValueError bt_ValueError)))) (w_or1 (t_cmp (c_ne hr.units) (PV.r (v_sum rfl rfl T.m_sum (PFr.r (fr_comp (k := 1) (N := ["_law_one"]) (ix := [])  (defScope s_l_class) rfl ⟨rfl, rfl, by decide +kernel, by decide +kernel, by decide +kernel, rfl, by decide +kernel, rfl⟩ rfl rfl (ir_list (PV.r (pv_name (pv 1)))) (fun _ _ _ _ _ _ => g_name (i := 0) nd_l_class_0 rfl (Or.inl rfl)) (fun _ _ _ _ _ _ => if_nil) (fun _ _ _ _ _ _ => PV.r (v_callT (b_int) rfl T.m_int bt_int (a_cons (PV.r (pv_name (pv 0))) (a_nil)))))))) (PV.r (pv_int))))))) (ss_one (s_ret (PV.r (pv_str)))) (ss_nil)) (ss_cons (@s_set _ _ _ _ _ _ 2 _ _ sc_l_class.nd rfl (Or.inl rfl) (PFc.v (PFr.cz (fr_lst (a_cons (PV.r (pv_str)) (a_cons (PV.r (pv_str)) (a_cons (PV.r (pv_str)) (a_cons (PV.r (pv_str)) (a_cons (PV.r (pv_str)) (a_cons (PV.r (pv_str)) (a_cons (PV.r (pv_str)) (a_cons (PV.r (pv_str)) (a_cons (PV.r (pv_str)) (a_cons (PV.r (pv_str)) (a_nil)))))))))))))) rfl rfl (by first | exact .inl rfl | exact .inr rfl | assumption)) (ss_one (s_ret (r_ix (PFr.r (fr_cat (PV.r (pv_name (pv 2))) (PFr.r (fr_lst (a_cons (PV.r (pv_str)) (a_cons (PV.r (pv_str)) (a_cons (PV.r (pv_str)) (a_nil)))))))) (PV.r (v_index (PV.r (pv_name (pv 1))) (PV.r (pv_bl)))))))))))))
theorem sc_p_square_posts : FnScope ["folk", "many", "corners", "side", "posts"] ["folk", "many"] (defScope s_p_square_posts) := ⟨rfl, rfl, rfl, by decide +kernel, rfl, by decide +kernel, by decide +kernel⟩
theorem ok_p_square_posts {f : Addr} {fd : FuncData} (F : Fun K "square_posts" "square_posts" s_p_square_posts f fd) (T : Txt mg) (G_p_check_one_or_two : DefX P w K mg base 2 "check_one_or_two" ["many"] (.cl) FX_p_check_one_or_two) : FnOk P w K mg base (CXe P w) 3 f fd ["folk", "many"] (spX K (.cl) FX_p_square_posts) :=
  fn_autoX (k := 2) ⟨[], .cl⟩ F sc_p_square_posts (by decide) BX_p_square_posts (fun cdv hk A outer s H E hr => xx_cons (xx_expr (xt_call G_p_check_one_or_two (hr.mono (by decide)) rfl rfl (ac_cons (pv_name (pv 1)) (ac_nil)))) (xs_lift ss_never))
theorem sc_l_caught : FnScope ["_law_folk", "_law_many", "_law_posts", "_law_kept", "e"] ["_law_folk", "_law_many", "_law_posts"] (defScope s_l_caught) := ⟨rfl, rfl, rfl, by decide +kernel, rfl, by decide +kernel, by decide +kernel⟩
theorem ok_l_caught {f : Addr} {fd : FuncData} (F : Fun K "_law_caught" "_law_caught" s_l_caught f fd) (T : Txt mg) (G_p_square_posts : DefX P w K mg base 3 "square_posts" ["folk", "many"] (.cl) FX_p_square_posts) (G_p_square_least : DefX P w K mg base 7 "square_least" ["folk", "many"] (.cl) FX_p_square_least) {D_PostError : Addr} (P_PostError : mg "PostError" = some (.ref D_PostError) ∧ Caught K exNames D_PostError) : FnOk P w K mg base CX0 8 f fd ["_law_folk", "_law_many", "_law_posts"] (spR K (.cl) F_l_caught) :=
  fn_auto (k := 7) ⟨[], .cl⟩ F sc_l_caught (by decide) B_l_caught (fun cdv hk A outer s H E hr => ss_cons (@s_set _ _ _ _ _ _ 3 _ _ sc_l_caught.nd rfl (Or.inl rfl) (pv_non) rfl rfl (by first | exact .inl rfl | exact .inr rfl | assumption)) (ss_cons (s_try (ie := 4) rfl rfl rfl rfl sc_l_caught.nd rfl rfl (.inl rfl) rfl rfl P_PostError.1 P_PostError.2 (fun pn W => xx_one (xx_if (t_val (PV.r (pv_name (pv 2)))) (xx_one (xx_expr (xt_call G_p_square_posts (hr.mono (by decide)) rfl rfl (ac_cons (pv_name (pv 0)) (ac_cons (pv_name (pv 1)) (ac_nil)))))) (xx_one (xx_expr (xt_call G_p_square_least (hr.mono (by decide)) rfl rfl (ac_cons (pv_name (pv 0)) (ac_cons (pv_name (pv 1)) (ac_nil)))))))) (fun pn a => ss_one (@s_set _ _ _ _ _ _ 3 _ _ sc_l_caught.nd rfl (Or.inl rfl) (pv_name (pv 4)) rfl rfl (by first | exact .inl rfl | exact .inr rfl | assumption)))) (ss_one (s_ret (PV.r (pv_name (pv 3)))))))
theorem sc_law : FnScope ["_law_script", "_law_folk", "_law_head", "_law_many", "_law_by", "_law_times", "_law_reach", "_law_bad"] ["_law_script"] (defScope s_law) := ⟨rfl, rfl, rfl, by decide +kernel, rfl, by decide +kernel, by decide +kernel⟩
theorem nd_law_0 : (["_law_x", "_law_y", "_law_by"] : List Str).Nodup := by decide +kernel
theorem nd_law_1 : (["_law_x", "_law_y"] : List Str).Nodup := by decide +kernel
theorem nd_law_2 : (["_law_x", "_law_y", "_law_times"] : List Str).Nodup := by decide +kernel
theorem nd_law_3 : (["_law_posts", "_law_folk", "_law_bad"] : List Str).Nodup := by decide +kernel
theorem ok_law {f : Addr} {fd : FuncData} (F : Fun K "law" "law" s_law f fd) (T : Txt mg) (G_l_plane : DefOk P w K mg base 2 "_law_plane" ["_law_script", "_law_at", "_law_most"] (.cl) F_l_plane) (G_l_mix : DefOk P w K mg base 1 "_law_mix" ["_law_unit", "_law_k"] (.cl) F_l_mix) (G_p_square_least : DefX P w K mg base 7 "square_least" ["folk", "many"] (.cl) FX_p_square_least) (G_l_less : DefOk P w K mg base 1 "_law_less" ["_law_one", "_law_other"] (.cl) F_l_less) (G_l_cell_at : DefOk P w K mg base 1 "_law_cell_at" ["_law_script", "_law_k"] (.cl) F_l_cell_at) (G_l_lowest : DefOk P w K mg base 2 "_law_lowest" ["_law_top", "_law_bottom"] (.cl) F_l_lowest) (G_l_class : DefOk P w K mg base 1 "_law_class" ["_law_kept"] (.cl) F_l_class) (G_l_caught : DefOk P w K mg base 8 "_law_caught" ["_law_folk", "_law_many", "_law_posts"] (.cl) F_l_caught) : FnOk P w K mg base CX0 9 f fd ["_law_script"] (spR K (.cl) F_law) :=
  fn_auto (k := 8) ⟨[], .cl⟩ F sc_law (by decide) B_law (fun cdv hk A outer s H E hr => ss_cons (@s_set _ _ _ _ _ _ 1 _ _ sc_law.nd rfl (Or.inr rfl) (PR.cl0 (r_callD G_l_plane (hr.mono (by decide)) rfl (a_cons (PV.r (pv_name (pv 0))) (a_cons (PV.r (pv_int)) (a_cons (PV.r (pv_int)) (a_nil)))))) rfl rfl (by first | exact .inl rfl | exact .inr rfl | assumption)) (ss_cons (@s_set _ _ _ _ _ _ 2 _ _ sc_law.nd rfl (Or.inl rfl) (PR.cl0 (r_callD G_l_mix (hr.mono (by decide)) rfl (a_cons (r_callD G_l_cell_at (hr.mono (by decide)) rfl (a_cons (PV.r (pv_name (pv 0))) (a_cons (PV.r (pv_int)) (a_nil)))) (a_cons (PV.r (pv_int)) (a_nil))))) rfl rfl (by first | exact .inl rfl | exact .inr rfl | assumption)) (ss_cons (@s_set _ _ _ _ _ _ 3 _ _ sc_law.nd rfl (Or.inl rfl) (v_add (PV.r (pv_int)) (PV.r (v_mod (PV.r (pv_name (pv 2))) (PV.r (pv_int))))) rfl rfl (by first | exact .inl rfl | exact .inr rfl | assumption)) (ss_cons (@s_set _ _ _ _ _ _ 4 _ _ sc_law.nd rfl (Or.inr rfl) (PR.cl0 (r_tup (a_cons (PV.r (v_sub (PV.r (v_mod (PV.r (v_fdiv (PV.r (pv_name (pv 2))) (PV.r (pv_int)))) (PV.r (pv_int)))) (PV.r (pv_int)))) (a_cons (PV.r (v_mod (PV.r (v_fdiv (PV.r (pv_name (pv 2))) (PV.r (pv_int)))) (PV.r (v_pow (PV.r (pv_int)) (PV.r (pv_int)))))) (a_nil))))) rfl rfl (by first | exact .inl rfl | exact .inr rfl | assumption)) (ss_cons (@s_set _ _ _ _ _ _ 5 _ _ sc_law.nd rfl (Or.inr rfl) (v_add (PV.r (pv_int)) (PV.r (v_mod (PV.r (v_fdiv (PV.r (pv_name (pv 2))) (PV.r (v_pow (PV.r (pv_int)) (PV.r (pv_int)))))) (PV.r (pv_int))))) rfl rfl (by first | exact .inl rfl | exact .inr rfl | assumption)) (ss_cons (@s_set _ _ _ _ _ _ 6 _ _ sc_law.nd rfl (Or.inl rfl) (PR.cl0 (r_callD (DefX.ok G_p_square_least) (hr.mono (by decide)) rfl (a_cons (PV.r (pv_name (pv 1))) (a_cons (PV.r (pv_name (pv 3))) (a_nil))))) rfl rfl (by first | exact .inl rfl | exact .inr rfl | assumption)) (ss_cons (s_if (t_cmp (c_ne hr.units) (r_callD (DefX.ok G_p_square_least) (hr.mono (by decide)) rfl (a_cons (PFr.r (fr_comp (k := 2) (N := ["_law_x", "_law_y", "_law_by"]) (ix := [4])  (defScope s_law) rfl ⟨rfl, rfl, by decide +kernel, by decide +kernel, by decide +kernel, rfl, by decide +kernel, rfl⟩ rfl rfl (ir_list (PV.r (pv_name (pv 1)))) (fun _ _ _ _ _ _ => g_tup rfl (gs_cons (g_name (i := 0) nd_law_0 rfl (Or.inl rfl)) (gs_cons (g_name (i := 1) nd_law_0 rfl (Or.inl rfl)) (gs_nil)))) (fun _ _ _ _ _ _ => if_nil) (fun _ _ _ _ _ _ => r_tup (a_cons (PV.r (v_add (PV.r (pv_name (pv 0))) (r_ix (PV.r (pv_name (pv 2))) (PV.r (pv_int))))) (a_cons (PV.r (v_sub (PV.r (pv_name (pv 1))) (r_ix (PV.r (pv_name (pv 2))) (PV.r (pv_int))))) (a_nil)))))) (a_cons (PV.r (pv_name (pv 3))) (a_nil)))) (PV.r (pv_name (pv 6)))) (ss_one (s_ret (PV.r (pv_bl)))) (ss_nil)) (ss_cons (s_if (t_cmp (c_ne hr.units) (r_callD (DefX.ok G_p_square_least) (hr.mono (by decide)) rfl (a_cons (PFr.r (fr_comp (k := 2) (N := ["_law_x", "_law_y"]) (ix := [])  (defScope s_law) rfl ⟨rfl, rfl, by decide +kernel, by decide +kernel, by decide +kernel, rfl, by decide +kernel, rfl⟩ rfl rfl (ir_list (PFr.r (fr_rev (PV.r (pv_name (pv 1))) pe_m1))) (fun _ _ _ _ _ _ => g_tup rfl (gs_cons (g_name (i := 0) nd_law_1 rfl (Or.inl rfl)) (gs_cons (g_name (i := 1) nd_law_1 rfl (Or.inl rfl)) (gs_nil)))) (fun _ _ _ _ _ _ => if_nil) (fun _ _ _ _ _ _ => r_tup (a_cons (PV.r (pv_name (pv 1))) (a_cons (PV.r (v_sub (PV.r (pv_int)) (PV.r (pv_name (pv 0))))) (a_nil)))))) (a_cons (PV.r (pv_name (pv 3))) (a_nil)))) (PV.r (pv_name (pv 6)))) (ss_one (s_ret (PV.r (pv_bl)))) (ss_nil)) (ss_cons (s_if (t_cmp (c_ne hr.units) (r_callD (DefX.ok G_p_square_least) (hr.mono (by decide)) rfl (a_cons (PFr.r (fr_comp (k := 2) (N := ["_law_x", "_law_y", "_law_times"]) (ix := [5])  (defScope s_law) rfl ⟨rfl, rfl, by decide +kernel, by decide +kernel, by decide +kernel, rfl, by decide +kernel, rfl⟩ rfl rfl (ir_list (PV.r (pv_name (pv 1)))) (fun _ _ _ _ _ _ => g_tup rfl (gs_cons (g_name (i := 0) nd_law_2 rfl (Or.inl rfl)) (gs_cons (g_name (i := 1) nd_law_2 rfl (Or.inl rfl)) (gs_nil)))) (fun _ _ _ _ _ _ => if_nil) (fun _ _ _ _ _ _ => r_tup (a_cons (PV.r (v_mul (PV.r (pv_name (pv 0))) (PV.r (pv_name (pv 2))))) (a_cons (PV.r (v_mul (PV.r (pv_name (pv 1))) (PV.r (pv_name (pv 2))))) (a_nil)))))) (a_cons (PV.r (pv_name (pv 3))) (a_nil)))) (r_callD G_l_lowest (hr.mono (by decide)) rfl (a_cons (PV.r (v_mul (r_ix (PV.r (pv_name (pv 6))) (PV.r (pv_int))) (PV.r (pv_name (pv 5))))) (a_cons (r_ix (PV.r (pv_name (pv 6))) (PV.r (pv_int))) (a_nil))))) (ss_one (s_ret (PV.r (pv_bl)))) (ss_nil)) (ss_cons (s_if (t_val (r_callD G_l_less (hr.mono (by decide)) rfl (a_cons (r_callD (DefX.ok G_p_square_least) (hr.mono (by decide)) rfl (a_cons (PV.r (pv_name (pv 1))) (a_cons (PV.r (pv_int)) (a_nil)))) (a_cons (r_callD (DefX.ok G_p_square_least) (hr.mono (by decide)) rfl (a_cons (PV.r (pv_name (pv 1))) (a_cons (PV.r (pv_int)) (a_nil)))) (a_nil))))) (ss_one (s_ret (PV.r (pv_bl)))) (ss_nil)) (ss_cons (@s_set _ _ _ _ _ _ 7 _ _ sc_law.nd rfl (Or.inr rfl) (PR.cl0 (r_ix (PFr.r (fr_lst (a_cons (PV.r (pv_int)) (a_cons (PV.r (pv_int)) (a_cons (PV.r (v_sub (PV.r (v_neg (PV.r (pv_int)))) (r_ix (PV.r (pv_name (pv 4))) (PV.r (pv_int))))) (a_cons (PV.r (v_add (PV.r (pv_int)) (r_ix (PV.r (pv_name (pv 4))) (PV.r (pv_int))))) (a_nil))))))) (PV.r (v_mod (PV.r (v_fdiv (PV.r (pv_name (pv 2))) (PV.r (v_pow (PV.r (pv_int)) (PV.r (pv_int)))))) (PV.r (pv_int)))))) rfl rfl (by first | exact .inl rfl | exact .inr rfl | assumption)) (ss_one (s_ret (PV.r (v_cmp (c_eq hr.units) (PFr.r (fr_comp (k := 1) (N := ["_law_posts", "_law_folk", "_law_bad"]) (ix := [1, 7])  (defScope s_law) rfl ⟨rfl, rfl, by decide +kernel, by decide +kernel, by decide +kernel, rfl, by decide +kernel, rfl⟩ rfl rfl (ir_list (PFr.r (fr_lst (a_cons (PV.r (pv_bl)) (a_cons (PV.r (pv_bl)) (a_nil)))))) (fun _ _ _ _ _ _ => g_name (i := 0) nd_law_3 rfl (Or.inl rfl)) (fun _ _ _ _ _ _ => if_nil) (fun _ _ _ _ _ _ => r_callD G_l_class (hr.mono (by decide)) rfl (a_cons (r_callD G_l_caught (hr.mono (by decide)) rfl (a_cons (PV.r (pv_name (pv 1))) (a_cons (PV.r (pv_name (pv 2))) (a_cons (PV.r (pv_name (pv 0))) (a_nil))))) (a_nil))))) (PFr.r (fr_lst (a_cons (PV.r (pv_str)) (a_cons (PV.r (pv_str)) (a_nil))))))))))))))))))))
end
theorem all_mk {l : PySem.W.OpenLaw} {w : World} {K : PySem.W.Frag} {h : Heap} {mg : Str → Option Value} {fa : Addr} (X : K.In h) (G : h.Ns mainGlobals mg) (hfa : mg "law" = some (.ref fa))
    (e_NoMany : ExcAt K "NoMany")
    (x_all : (isCls K "PostError" && (exAll K exNames (clsAt K "PostError") && ((["NoName", "NoMany", "NoLine", "NoFolk", "NoReach", "NoPosts", "NoPost", "NoText", "NoTable", "NoRing", "NoWord", "NoWay", "NoThing", "PostError"] : List Str).all (isTs K exNames) && (isVs K exNames && true)))) = true)
    (d0 : FnAt K "_law_mix" s_l_mix)
    (d1 : FnAt K "_law_cell_at" s_l_cell_at)
    (d2 : FnAt K "_law_plane" s_l_plane)
    (d3 : FnAt K "check_many" s_p_check_many)
    (d4 : FnAt K "check_one_or_two" s_p_check_one_or_two)
    (d5 : FnAt K "common_divisor" s_p_common_divisor)
    (d6 : FnAt K "fraction_of" s_p_fraction_of)
    (d7 : FnAt K "opposite_corners" s_p_opposite_corners)
    (d8 : FnAt K "side_between" s_p_side_between)
    (d9 : FnAt K "side_of_two" s_p_side_of_two)
    (d10 : FnAt K "best_corners" s_p_best_corners)
    (y10 : ("best_corners" : Str) ∈ lamNames l.prog) (t10 : (PySem.W.tabIn K "best_corners").isSome = true)
    (d11 : FnAt K "least_side" s_p_least_side)
    (d12 : FnAt K "square_least" s_p_square_least)
    (d13 : FnAt K "_law_less" s_l_less)
    (d14 : FnAt K "_law_shared" s_l_shared)
    (d15 : FnAt K "_law_lowest" s_l_lowest)
    (d16 : FnAt K "_law_class" s_l_class)
    (d17 : FnAt K "square_posts" s_p_square_posts)
    (d18 : FnAt K "_law_caught" s_l_caught)
    (d19 : FnAt K "law" s_law)
    (z_all : noNames K ["ValueError", "abs", "int", "isinstance", "len", "max", "min", "range", "sum"] = true)
    : ∃ fd : FuncData, (∀ (s : Shared) (v : Value), BindsTo s fd ⟨[v], []⟩ [("_law_script", v)]) ∧ ∀ base : Heap, K.In base → base.Ns mainGlobals mg → FnOk l.prog w K mg base CX0 9 fa fd ["_law_script"] (spR K .cl F_law) := by
  have T : Txt mg := ⟨noNames_get X G z_all 0 rfl, noNames_get X G z_all 1 rfl, noNames_get X G z_all 2 rfl, noNames_get X G z_all 3 rfl, noNames_get X G z_all 4 rfl, noNames_get X G z_all 5 rfl, noNames_get X G z_all 6 rfl, noNames_get X G z_all 7 rfl, noNames_get X G z_all 8 rfl⟩
  obtain ⟨c_PostError, x_all⟩ := and2 x_all
  obtain ⟨q_PostError, x_all⟩ := and2 x_all
  obtain ⟨i_all, x_all⟩ := and2 x_all
  obtain ⟨v_all, x_all⟩ := and2 x_all
  have X_NoMany : XCD K mg "NoMany" _ := xcd_of X G e_NoMany
  have P_PostError := caught_of X G c_PostError q_PostError
  have I_NoName : IsT K mg exNames "NoName" _ := isT_of X G i_all 0 rfl
  have I_NoMany : IsT K mg exNames "NoMany" _ := isT_of X G i_all 1 rfl
  have I_NoLine : IsT K mg exNames "NoLine" _ := isT_of X G i_all 2 rfl
  have I_NoFolk : IsT K mg exNames "NoFolk" _ := isT_of X G i_all 3 rfl
  have I_NoReach : IsT K mg exNames "NoReach" _ := isT_of X G i_all 4 rfl
  have I_NoPosts : IsT K mg exNames "NoPosts" _ := isT_of X G i_all 5 rfl
  have I_NoPost : IsT K mg exNames "NoPost" _ := isT_of X G i_all 6 rfl
  have I_NoText : IsT K mg exNames "NoText" _ := isT_of X G i_all 7 rfl
  have I_NoTable : IsT K mg exNames "NoTable" _ := isT_of X G i_all 8 rfl
  have I_NoRing : IsT K mg exNames "NoRing" _ := isT_of X G i_all 9 rfl
  have I_NoWord : IsT K mg exNames "NoWord" _ := isT_of X G i_all 10 rfl
  have I_NoWay : IsT K mg exNames "NoWay" _ := isT_of X G i_all 11 rfl
  have I_NoThing : IsT K mg exNames "NoThing" _ := isT_of X G i_all 12 rfl
  have I_PostError : IsT K mg exNames "PostError" _ := isT_of X G i_all 13 rfl
  have I_ValueError : IsV K exNames := isV_of v_all
  have H_l_mix : ∀ base : Heap, DefOk l.prog w K mg base 1 "_law_mix" ["_law_unit", "_law_k"] (.cl) F_l_mix := fun base => d0.ok X G (fun _ _ _ _ _ _ us hl => len2 (P := fun us => bindArgs _ ⟨us, []⟩ = pure (List.zip _ us)) hl fun _ _ => rfl) fun f fd a F => ok_l_mix F T
  have H_l_cell_at : ∀ base : Heap, DefOk l.prog w K mg base 1 "_law_cell_at" ["_law_script", "_law_k"] (.cl) F_l_cell_at := fun base => d1.ok X G (fun _ _ _ _ _ _ us hl => len2 (P := fun us => bindArgs _ ⟨us, []⟩ = pure (List.zip _ us)) hl fun _ _ => rfl) fun f fd a F => ok_l_cell_at F T
  have H_l_plane : ∀ base : Heap, DefOk l.prog w K mg base 2 "_law_plane" ["_law_script", "_law_at", "_law_most"] (.cl) F_l_plane := fun base => d2.ok X G (fun _ _ _ _ _ _ us hl => len3 (P := fun us => bindArgs _ ⟨us, []⟩ = pure (List.zip _ us)) hl fun _ _ _ => rfl) fun f fd a F => ok_l_plane F T (H_l_mix base) (H_l_cell_at base)
  have H_p_check_many : ∀ base : Heap, DefX l.prog w K mg base 1 "check_many" ["many"] (.cl) FX_p_check_many := fun base => d3.okX X G (fun _ _ _ _ _ _ us hl => len1 (P := fun us => bindArgs _ ⟨us, []⟩ = pure (List.zip _ us)) hl fun _ => rfl) fun f fd a F => ok_p_check_many F T  X_NoMany
  have H_p_check_one_or_two : ∀ base : Heap, DefX l.prog w K mg base 2 "check_one_or_two" ["many"] (.cl) FX_p_check_one_or_two := fun base => d4.okX X G (fun _ _ _ _ _ _ us hl => len1 (P := fun us => bindArgs _ ⟨us, []⟩ = pure (List.zip _ us)) hl fun _ => rfl) fun f fd a F => ok_p_check_one_or_two F T (H_p_check_many base) X_NoMany
  have H_p_common_divisor : ∀ base : Heap, DefOk l.prog w K mg base 1 "common_divisor" ["one", "other"] (.cl) F_p_common_divisor := fun base => d5.ok X G (fun _ _ _ _ _ _ us hl => len2 (P := fun us => bindArgs _ ⟨us, []⟩ = pure (List.zip _ us)) hl fun _ _ => rfl) fun f fd a F => ok_p_common_divisor F T
  have H_p_fraction_of : ∀ base : Heap, DefOk l.prog w K mg base 2 "fraction_of" ["top", "bottom"] (.cl) F_p_fraction_of := fun base => d6.ok X G (fun _ _ _ _ _ _ us hl => len2 (P := fun us => bindArgs _ ⟨us, []⟩ = pure (List.zip _ us)) hl fun _ _ => rfl) fun f fd a F => ok_p_fraction_of F T (H_p_common_divisor base)
  have H_p_opposite_corners : ∀ base : Heap, DefOk l.prog w K mg base 1 "opposite_corners" ["folk"] (.cl) F_p_opposite_corners := fun base => d7.ok X G (fun _ _ _ _ _ _ us hl => len1 (P := fun us => bindArgs _ ⟨us, []⟩ = pure (List.zip _ us)) hl fun _ => rfl) fun f fd a F => ok_p_opposite_corners F T
  have H_p_side_between : ∀ base : Heap, DefOk l.prog w K mg base 1 "side_between" ["one", "other"] (.cl) F_p_side_between := fun base => d8.ok X G (fun _ _ _ _ _ _ us hl => len2 (P := fun us => bindArgs _ ⟨us, []⟩ = pure (List.zip _ us)) hl fun _ _ => rfl) fun f fd a F => ok_p_side_between F T
  have H_p_side_of_two : ∀ base : Heap, DefOk l.prog w K mg base 2 "side_of_two" ["folk", "corners"] (.cl) F_p_side_of_two := fun base => d9.ok X G (fun _ _ _ _ _ _ us hl => len2 (P := fun us => bindArgs _ ⟨us, []⟩ = pure (List.zip _ us)) hl fun _ _ => rfl) fun f fd a F => ok_p_side_of_two F T (H_p_side_between base)
  have H_p_best_corners : ∀ base : Heap, DefOk l.prog w K mg base 5 "best_corners" ["folk"] (.cl) F_p_best_corners := fun base => d10.ok X G (fun _ _ _ _ _ _ us hl => len1 (P := fun us => bindArgs _ ⟨us, []⟩ = pure (List.zip _ us)) hl fun _ => rfl) fun f fd a F => ok_p_best_corners F T (H_p_opposite_corners base) (H_p_side_of_two base) (fv_p_best_corners_L0 T (H_p_side_of_two base)) y10 t10 a
  have H_p_least_side : ∀ base : Heap, DefOk l.prog w K mg base 6 "least_side" ["folk", "many"] (.cl) F_p_least_side := fun base => d11.ok X G (fun _ _ _ _ _ _ us hl => len2 (P := fun us => bindArgs _ ⟨us, []⟩ = pure (List.zip _ us)) hl fun _ _ => rfl) fun f fd a F => ok_p_least_side F T (H_p_best_corners base) (H_p_side_of_two base) (H_p_side_between base)
  have H_p_square_least : ∀ base : Heap, DefX l.prog w K mg base 7 "square_least" ["folk", "many"] (.cl) FX_p_square_least := fun base => d12.okX X G (fun _ _ _ _ _ _ us hl => len2 (P := fun us => bindArgs _ ⟨us, []⟩ = pure (List.zip _ us)) hl fun _ _ => rfl) fun f fd a F => ok_p_square_least F T (H_p_check_one_or_two base) (H_p_fraction_of base) (H_p_least_side base)
  have H_l_less : ∀ base : Heap, DefOk l.prog w K mg base 1 "_law_less" ["_law_one", "_law_other"] (.cl) F_l_less := fun base => d13.ok X G (fun _ _ _ _ _ _ us hl => len2 (P := fun us => bindArgs _ ⟨us, []⟩ = pure (List.zip _ us)) hl fun _ _ => rfl) fun f fd a F => ok_l_less F T
  have H_l_shared : ∀ base : Heap, DefOk l.prog w K mg base 1 "_law_shared" ["_law_one", "_law_other"] (.cl) F_l_shared := fun base => d14.ok X G (fun _ _ _ _ _ _ us hl => len2 (P := fun us => bindArgs _ ⟨us, []⟩ = pure (List.zip _ us)) hl fun _ _ => rfl) fun f fd a F => ok_l_shared F T
  have H_l_lowest : ∀ base : Heap, DefOk l.prog w K mg base 2 "_law_lowest" ["_law_top", "_law_bottom"] (.cl) F_l_lowest := fun base => d15.ok X G (fun _ _ _ _ _ _ us hl => len2 (P := fun us => bindArgs _ ⟨us, []⟩ = pure (List.zip _ us)) hl fun _ _ => rfl) fun f fd a F => ok_l_lowest F T (H_l_shared base)
  have H_l_class : ∀ base : Heap, DefOk l.prog w K mg base 1 "_law_class" ["_law_kept"] (.cl) F_l_class := fun base => d16.ok X G (fun _ _ _ _ _ _ us hl => len1 (P := fun us => bindArgs _ ⟨us, []⟩ = pure (List.zip _ us)) hl fun _ => rfl) fun f fd a F => ok_l_class F T  I_NoName I_NoMany I_NoLine I_NoFolk I_NoReach I_NoPosts I_NoPost I_NoText I_NoTable I_NoRing I_NoWord I_NoWay I_NoThing I_PostError I_ValueError
  have H_p_square_posts : ∀ base : Heap, DefX l.prog w K mg base 3 "square_posts" ["folk", "many"] (.cl) FX_p_square_posts := fun base => d17.okX X G (fun _ _ _ _ _ _ us hl => len2 (P := fun us => bindArgs _ ⟨us, []⟩ = pure (List.zip _ us)) hl fun _ _ => rfl) fun f fd a F => ok_p_square_posts F T (H_p_check_one_or_two base)
  have H_l_caught : ∀ base : Heap, DefOk l.prog w K mg base 8 "_law_caught" ["_law_folk", "_law_many", "_law_posts"] (.cl) F_l_caught := fun base => d18.ok X G (fun _ _ _ _ _ _ us hl => len3 (P := fun us => bindArgs _ ⟨us, []⟩ = pure (List.zip _ us)) hl fun _ _ _ => rfl) fun f fd a F => ok_l_caught F T (H_p_square_posts base) (H_p_square_least base) P_PostError
  exact d19.law X G hfa (fun _ _ _ _ _ _ s v => .of_eq rfl) fun base f fd F => ok_law F T (H_l_plane base) (H_l_mix base) (H_p_square_least base) (H_l_less base) (H_l_cell_at base) (H_l_lowest base) (H_l_class base) (H_l_caught base)
theorem lam0 : lamNames PySem.Challenge.rw_nearposts_k33_whole_squares_turned.prog = (["best_corners"] : List Str) := by decide +kernel
theorem walk {l : PySem.W.OpenLaw} {q : Program} {loose : List Str} {XP : (Str → Option Value) → Heap → Prop} {YP : World → Heap → Prop} {d : DefRec} {K : Params → PySem.W.Frag} (hn : l.most = some 63) (hdf : d.params.defaults = []) (hq : ∀ y ∈ lamNames l.prog, ((recsOf q).find? fun e => e.name == y).isSome = true) (hTK : ∀ (w : World) (y : Str) (c p : Addr), y ∈ lamNames l.prog → PySem.W.tabIn (K w.params) y = some (c, p) → (K w.params).lookup p = none)
    (hY : ∀ (w : World) (h : Heap), YP w h → (K w.params).In h)
    (F : ∀ (w : World) (mg : Str → Option Value) (fa : Addr) (h : Heap), (K w.params).In h → h.Ns mainGlobals mg → mg d.name = some (.ref fa) →
      ∃ fd : FuncData, (∀ (s : Shared) (u : Value), BindsTo s fd ⟨[u], []⟩ [("_law_script", u)]) ∧ ∀ base : Heap, (K w.params).In base → base.Ns mainGlobals mg → FnOk l.prog w (K w.params) mg base CX0 9 fa fd ["_law_script"] (spR (K w.params) .cl F_law)) :
    PySem.W.WalkO q loose XP YP l.row.toRowW d [] (fun f vs => PySem.call f vs) :=
  L2.walk_ofT (n := 63) (k := 9) (x := "_law_script") (CX := fun _ => CX0) (sp := fun w => spR (K w.params) .cl F_law) hn (by decide) hdf ⟨rfl, by decide, by decide⟩ hY hq hTK F (fun _ H a ns hl hS => ⟨fun _ => False, [.list (ns.map .int)], .bool true, fun _ z => z.elim, by rw [del_false]; exact .cons (.lst hS (DenL.ints ns)) .nil, main ns hl, fun v as H' _ _ D => den_bl D.den⟩) fun _ _ _ _ _ z => z
end NW
open PySem PySem.W PyProof.Rows
set_option maxRecDepth 100000 in
set_option maxHeartbeats 0 in
theorem PySem.Challenge.cw_nearposts_k33_whole_squares_turned_holds : PySem.Challenge.rw_nearposts_k33_whole_squares_turned.Holds := by
  w_on; o_law; z_head; (case hw => w_witness2)
  k_fill
  refine L2.walkX_of2 ["best_corners"] ?E (NW.walk (l := PySem.Challenge.rw_nearposts_k33_whole_squares_turned) (K := fun P => L2.noTab ["best_corners"] (PySem.Challenge.cw_nearposts_k33_whole_squares_turned_holds.heap_303 P)) rfl rfl ?Q ?K (fun w h Y => Y) ?F)
  case E => exact fun _ => rfl
  case Q => exact L2.lam_q (by rw [NW.lam0]; kernel_rfl)
  case K => exact fun w => L2.lam_k (by rw [NW.lam0]; kernel_rfl)
  case F =>
    intro w mg fa h KX G hmg
    have hT0 : L2.isTab ["best_corners"] (PySem.Challenge.cw_nearposts_k33_whole_squares_turned_holds.heap_303 w.params) mainGlobals = false := by kernel_rfl
    refine' NW.all_mk KX G hmg ?e_NoMany ?x_all ?d0 ?d1 ?d2 ?d3 ?d4 ?d5 ?d6 ?d7 ?d8 ?d9 ?d10 ?y10 ?t10 ?d11 ?d12 ?d13 ?d14 ?d15 ?d16 ?d17 ?d18 ?d19 ?z_all
    (case e_NoMany => refine' L2.ExcAt.mk _ ?en (L2.XNo.of ?el ?ee ?et ?eo ?ei); (case en => exact (L2.nsIn_noTab hT0).trans (by k_is)); (case el => exact (L2.lookup_noTab (by kernel_rfl)).trans (by k_is)); (case ee => rfl); (case et => kernel_rfl); (case eo => kernel_rfl); (case ei => kernel_rfl))
    (case x_all => kernel_rfl)
    (case d0 => refine' L2.FnAt.mk _ _ ?a (L2.fun_mk ?l ?c ?k); (case a => exact (L2.nsIn_noTab hT0).trans (by k_is)); (case l => exact (L2.lookup_noTab (by kernel_rfl)).trans (by k_is)); (case c => kernel_rfl); (case k => kernel_rfl))
    (case d1 => refine' L2.FnAt.mk _ _ ?a (L2.fun_mk ?l ?c ?k); (case a => exact (L2.nsIn_noTab hT0).trans (by k_is)); (case l => exact (L2.lookup_noTab (by kernel_rfl)).trans (by k_is)); (case c => kernel_rfl); (case k => kernel_rfl))
    (case d2 => refine' L2.FnAt.mk _ _ ?a (L2.fun_mk ?l ?c ?k); (case a => exact (L2.nsIn_noTab hT0).trans (by k_is)); (case l => exact (L2.lookup_noTab (by kernel_rfl)).trans (by k_is)); (case c => kernel_rfl); (case k => kernel_rfl))
    (case d3 => refine' L2.FnAt.mk _ _ ?a (L2.fun_mk ?l ?c ?k); (case a => exact (L2.nsIn_noTab hT0).trans (by k_is)); (case l => exact (L2.lookup_noTab (by kernel_rfl)).trans (by k_is)); (case c => kernel_rfl); (case k => kernel_rfl))
    (case d4 => refine' L2.FnAt.mk _ _ ?a (L2.fun_mk ?l ?c ?k); (case a => exact (L2.nsIn_noTab hT0).trans (by k_is)); (case l => exact (L2.lookup_noTab (by kernel_rfl)).trans (by k_is)); (case c => kernel_rfl); (case k => kernel_rfl))
    (case d5 => refine' L2.FnAt.mk _ _ ?a (L2.fun_mk ?l ?c ?k); (case a => exact (L2.nsIn_noTab hT0).trans (by k_is)); (case l => exact (L2.lookup_noTab (by kernel_rfl)).trans (by k_is)); (case c => kernel_rfl); (case k => kernel_rfl))
    (case d6 => refine' L2.FnAt.mk _ _ ?a (L2.fun_mk ?l ?c ?k); (case a => exact (L2.nsIn_noTab hT0).trans (by k_is)); (case l => exact (L2.lookup_noTab (by kernel_rfl)).trans (by k_is)); (case c => kernel_rfl); (case k => kernel_rfl))
    (case d7 => refine' L2.FnAt.mk _ _ ?a (L2.fun_mk ?l ?c ?k); (case a => exact (L2.nsIn_noTab hT0).trans (by k_is)); (case l => exact (L2.lookup_noTab (by kernel_rfl)).trans (by k_is)); (case c => kernel_rfl); (case k => kernel_rfl))
    (case d8 => refine' L2.FnAt.mk _ _ ?a (L2.fun_mk ?l ?c ?k); (case a => exact (L2.nsIn_noTab hT0).trans (by k_is)); (case l => exact (L2.lookup_noTab (by kernel_rfl)).trans (by k_is)); (case c => kernel_rfl); (case k => kernel_rfl))
    (case d9 => refine' L2.FnAt.mk _ _ ?a (L2.fun_mk ?l ?c ?k); (case a => exact (L2.nsIn_noTab hT0).trans (by k_is)); (case l => exact (L2.lookup_noTab (by kernel_rfl)).trans (by k_is)); (case c => kernel_rfl); (case k => kernel_rfl))
    (case d10 => refine' L2.FnAt.mk _ _ ?a (L2.fun_mk ?l ?c ?k); (case a => exact (L2.nsIn_noTab hT0).trans (by k_is)); (case l => exact (L2.lookup_noTab (by kernel_rfl)).trans (by k_is)); (case c => kernel_rfl); (case k => kernel_rfl))
    (case y10 => rw [NW.lam0]; decide)
    (case t10 => kernel_rfl)
    (case d11 => refine' L2.FnAt.mk _ _ ?a (L2.fun_mk ?l ?c ?k); (case a => exact (L2.nsIn_noTab hT0).trans (by k_is)); (case l => exact (L2.lookup_noTab (by kernel_rfl)).trans (by k_is)); (case c => kernel_rfl); (case k => kernel_rfl))
    (case d12 => refine' L2.FnAt.mk _ _ ?a (L2.fun_mk ?l ?c ?k); (case a => exact (L2.nsIn_noTab hT0).trans (by k_is)); (case l => exact (L2.lookup_noTab (by kernel_rfl)).trans (by k_is)); (case c => kernel_rfl); (case k => kernel_rfl))
    (case d13 => refine' L2.FnAt.mk _ _ ?a (L2.fun_mk ?l ?c ?k); (case a => exact (L2.nsIn_noTab hT0).trans (by k_is)); (case l => exact (L2.lookup_noTab (by kernel_rfl)).trans (by k_is)); (case c => kernel_rfl); (case k => kernel_rfl))
    (case d14 => refine' L2.FnAt.mk _ _ ?a (L2.fun_mk ?l ?c ?k); (case a => exact (L2.nsIn_noTab hT0).trans (by k_is)); (case l => exact (L2.lookup_noTab (by kernel_rfl)).trans (by k_is)); (case c => kernel_rfl); (case k => kernel_rfl))
    (case d15 => refine' L2.FnAt.mk _ _ ?a (L2.fun_mk ?l ?c ?k); (case a => exact (L2.nsIn_noTab hT0).trans (by k_is)); (case l => exact (L2.lookup_noTab (by kernel_rfl)).trans (by k_is)); (case c => kernel_rfl); (case k => kernel_rfl))
    (case d16 => refine' L2.FnAt.mk _ _ ?a (L2.fun_mk ?l ?c ?k); (case a => exact (L2.nsIn_noTab hT0).trans (by k_is)); (case l => exact (L2.lookup_noTab (by kernel_rfl)).trans (by k_is)); (case c => kernel_rfl); (case k => kernel_rfl))
    (case d17 => refine' L2.FnAt.mk _ _ ?a (L2.fun_mk ?l ?c ?k); (case a => exact (L2.nsIn_noTab hT0).trans (by k_is)); (case l => exact (L2.lookup_noTab (by kernel_rfl)).trans (by k_is)); (case c => kernel_rfl); (case k => kernel_rfl))
    (case d18 => refine' L2.FnAt.mk _ _ ?a (L2.fun_mk ?l ?c ?k); (case a => exact (L2.nsIn_noTab hT0).trans (by k_is)); (case l => exact (L2.lookup_noTab (by kernel_rfl)).trans (by k_is)); (case c => kernel_rfl); (case k => kernel_rfl))
    (case d19 => refine' L2.FnAt.mk _ _ ?a (L2.fun_mk ?l ?c ?k); (case a => exact (L2.nsIn_noTab hT0).trans (by k_is)); (case l => exact (L2.lookup_noTab (by kernel_rfl)).trans (by k_is)); (case c => kernel_rfl); (case k => kernel_rfl))
    (case z_all => kernel_rfl)
