import PyProof.Rows.All
import Wide.All
import OpenK.AllK
import Wide.FinOn
import Lean
import PyProof.EqAt
import PyProof.EqKinds
import PyProof.TupleCall
import KE.KRevIter
import KE.KIntText
import PySem.Challenge.RW_nearposts_k55_folk_written_and_read
set_option Elab.async false
set_option linter.all false
set_option maxRecDepth 100000
set_option maxHeartbeats 4000000
set_option bootstrap.genMatcherCode false
set_option genSizeOf false
namespace L2
theorem o_A {P0 : Prop} {P1 : Prop} {G : Prop} (h : P0 ∧ P1) (f : P0 → P1 → G) : G := by
  obtain ⟨a0, a1⟩ := h
  exact f a0 a1
theorem o_AA {P0 : Prop} {P1 : Prop} {P2 : Prop} {G : Prop} (h : P0 ∧ P1 ∧ P2) (f : P0 → P1 → P2 → G) : G := by
  obtain ⟨a0, a1, a2⟩ := h
  exact f a0 a1 a2
theorem o_AAA {P0 : Prop} {P1 : Prop} {P2 : Prop} {P3 : Prop} {G : Prop} (h : P0 ∧ P1 ∧ P2 ∧ P3) (f : P0 → P1 → P2 → P3 → G) : G := by
  obtain ⟨a0, a1, a2, a3⟩ := h
  exact f a0 a1 a2 a3
theorem o_AAAA {P0 : Prop} {P1 : Prop} {P2 : Prop} {P3 : Prop} {P4 : Prop} {G : Prop} (h : P0 ∧ P1 ∧ P2 ∧ P3 ∧ P4) (f : P0 → P1 → P2 → P3 → P4 → G) : G := by
  obtain ⟨a0, a1, a2, a3, a4⟩ := h
  exact f a0 a1 a2 a3 a4
theorem o_AAAAA {P0 : Prop} {P1 : Prop} {P2 : Prop} {P3 : Prop} {P4 : Prop} {P5 : Prop} {G : Prop} (h : P0 ∧ P1 ∧ P2 ∧ P3 ∧ P4 ∧ P5) (f : P0 → P1 → P2 → P3 → P4 → P5 → G) : G := by
  obtain ⟨a0, a1, a2, a3, a4, a5⟩ := h
  exact f a0 a1 a2 a3 a4 a5
theorem o_AAEAEEEA {T0 : Sort _} {T1 : Sort _} {T2 : Sort _} {T3 : Sort _} {P0 : Prop} {P1 : Prop} {P2 : T0 → Prop} {P3 : T0 → T1 → T2 → T3 → Prop} {P4 : T0 → T1 → T2 → T3 → Prop} {G : Prop} (h : P0 ∧ P1 ∧ ∃ x0, P2 x0 ∧ ∃ x1, ∃ x2, ∃ x3, P3 x0 x1 x2 x3 ∧ P4 x0 x1 x2 x3) (f : P0 → P1 → ∀ x0, P2 x0 → ∀ x1, ∀ x2, ∀ x3, P3 x0 x1 x2 x3 → P4 x0 x1 x2 x3 → G) : G := by
  obtain ⟨a0, a1, a2, a3, a4, a5, a6, a7, a8⟩ := h
  exact f a0 a1 a2 a3 a4 a5 a6 a7 a8
theorem o_AAEAEEEAA {T0 : Sort _} {T1 : Sort _} {T2 : Sort _} {T3 : Sort _} {P0 : Prop} {P1 : Prop} {P2 : T0 → Prop} {P3 : T0 → T1 → T2 → T3 → Prop} {P4 : T0 → T1 → T2 → T3 → Prop} {P5 : T0 → T1 → T2 → T3 → Prop} {G : Prop} (h : P0 ∧ P1 ∧ ∃ x0, P2 x0 ∧ ∃ x1, ∃ x2, ∃ x3, P3 x0 x1 x2 x3 ∧ P4 x0 x1 x2 x3 ∧ P5 x0 x1 x2 x3) (f : P0 → P1 → ∀ x0, P2 x0 → ∀ x1, ∀ x2, ∀ x3, P3 x0 x1 x2 x3 → P4 x0 x1 x2 x3 → P5 x0 x1 x2 x3 → G) : G := by
  obtain ⟨a0, a1, a2, a3, a4, a5, a6, a7, a8, a9⟩ := h
  exact f a0 a1 a2 a3 a4 a5 a6 a7 a8 a9
theorem o_AEA {T0 : Sort _} {P0 : Prop} {P1 : T0 → Prop} {P2 : T0 → Prop} {G : Prop} (h : P0 ∧ ∃ x0, P1 x0 ∧ P2 x0) (f : P0 → ∀ x0, P1 x0 → P2 x0 → G) : G := by
  obtain ⟨a0, a1, a2, a3⟩ := h
  exact f a0 a1 a2 a3
theorem o_AEEA {T0 : Sort _} {T1 : Sort _} {P0 : Prop} {P1 : T0 → T1 → Prop} {P2 : T0 → T1 → Prop} {G : Prop} (h : P0 ∧ ∃ x0, ∃ x1, P1 x0 x1 ∧ P2 x0 x1) (f : P0 → ∀ x0, ∀ x1, P1 x0 x1 → P2 x0 x1 → G) : G := by
  obtain ⟨a0, a1, a2, a3, a4⟩ := h
  exact f a0 a1 a2 a3 a4
theorem o_AEEAA {T0 : Sort _} {T1 : Sort _} {P0 : Prop} {P1 : T0 → T1 → Prop} {P2 : T0 → T1 → Prop} {P3 : T0 → T1 → Prop} {G : Prop} (h : P0 ∧ ∃ x0, ∃ x1, P1 x0 x1 ∧ P2 x0 x1 ∧ P3 x0 x1) (f : P0 → ∀ x0, ∀ x1, P1 x0 x1 → P2 x0 x1 → P3 x0 x1 → G) : G := by
  obtain ⟨a0, a1, a2, a3, a4, a5⟩ := h
  exact f a0 a1 a2 a3 a4 a5
theorem o_E {T0 : Sort _} {P0 : T0 → Prop} {G : Prop} (h : ∃ x0, P0 x0) (f : ∀ x0, P0 x0 → G) : G := by
  obtain ⟨a0, a1⟩ := h
  exact f a0 a1
theorem o_EA {T0 : Sort _} {P0 : T0 → Prop} {P1 : T0 → Prop} {G : Prop} (h : ∃ x0, P0 x0 ∧ P1 x0) (f : ∀ x0, P0 x0 → P1 x0 → G) : G := by
  obtain ⟨a0, a1, a2⟩ := h
  exact f a0 a1 a2
theorem o_EAA {T0 : Sort _} {P0 : T0 → Prop} {P1 : T0 → Prop} {P2 : T0 → Prop} {G : Prop} (h : ∃ x0, P0 x0 ∧ P1 x0 ∧ P2 x0) (f : ∀ x0, P0 x0 → P1 x0 → P2 x0 → G) : G := by
  obtain ⟨a0, a1, a2, a3⟩ := h
  exact f a0 a1 a2 a3
theorem o_EAAA {T0 : Sort _} {P0 : T0 → Prop} {P1 : T0 → Prop} {P2 : T0 → Prop} {P3 : T0 → Prop} {G : Prop} (h : ∃ x0, P0 x0 ∧ P1 x0 ∧ P2 x0 ∧ P3 x0) (f : ∀ x0, P0 x0 → P1 x0 → P2 x0 → P3 x0 → G) : G := by
  obtain ⟨a0, a1, a2, a3, a4⟩ := h
  exact f a0 a1 a2 a3 a4
theorem o_EAAAA {T0 : Sort _} {P0 : T0 → Prop} {P1 : T0 → Prop} {P2 : T0 → Prop} {P3 : T0 → Prop} {P4 : T0 → Prop} {G : Prop} (h : ∃ x0, P0 x0 ∧ P1 x0 ∧ P2 x0 ∧ P3 x0 ∧ P4 x0) (f : ∀ x0, P0 x0 → P1 x0 → P2 x0 → P3 x0 → P4 x0 → G) : G := by
  obtain ⟨a0, a1, a2, a3, a4, a5⟩ := h
  exact f a0 a1 a2 a3 a4 a5
theorem o_EAAE {T0 : Sort _} {T1 : Sort _} {P0 : T0 → Prop} {P1 : T0 → Prop} {P2 : T0 → T1 → Prop} {G : Prop} (h : ∃ x0, P0 x0 ∧ P1 x0 ∧ ∃ x1, P2 x0 x1) (f : ∀ x0, P0 x0 → P1 x0 → ∀ x1, P2 x0 x1 → G) : G := by
  obtain ⟨a0, a1, a2, a3, a4⟩ := h
  exact f a0 a1 a2 a3 a4
theorem o_EAE {T0 : Sort _} {T1 : Sort _} {P0 : T0 → Prop} {P1 : T0 → T1 → Prop} {G : Prop} (h : ∃ x0, P0 x0 ∧ ∃ x1, P1 x0 x1) (f : ∀ x0, P0 x0 → ∀ x1, P1 x0 x1 → G) : G := by
  obtain ⟨a0, a1, a2, a3⟩ := h
  exact f a0 a1 a2 a3
theorem o_EEA {T0 : Sort _} {T1 : Sort _} {P0 : T0 → T1 → Prop} {P1 : T0 → T1 → Prop} {G : Prop} (h : ∃ x0, ∃ x1, P0 x0 x1 ∧ P1 x0 x1) (f : ∀ x0, ∀ x1, P0 x0 x1 → P1 x0 x1 → G) : G := by
  obtain ⟨a0, a1, a2, a3⟩ := h
  exact f a0 a1 a2 a3
theorem o_EEAA {T0 : Sort _} {T1 : Sort _} {P0 : T0 → T1 → Prop} {P1 : T0 → T1 → Prop} {P2 : T0 → T1 → Prop} {G : Prop} (h : ∃ x0, ∃ x1, P0 x0 x1 ∧ P1 x0 x1 ∧ P2 x0 x1) (f : ∀ x0, ∀ x1, P0 x0 x1 → P1 x0 x1 → P2 x0 x1 → G) : G := by
  obtain ⟨a0, a1, a2, a3, a4⟩ := h
  exact f a0 a1 a2 a3 a4
theorem o_EEAAA {T0 : Sort _} {T1 : Sort _} {P0 : T0 → T1 → Prop} {P1 : T0 → T1 → Prop} {P2 : T0 → T1 → Prop} {P3 : T0 → T1 → Prop} {G : Prop} (h : ∃ x0, ∃ x1, P0 x0 x1 ∧ P1 x0 x1 ∧ P2 x0 x1 ∧ P3 x0 x1) (f : ∀ x0, ∀ x1, P0 x0 x1 → P1 x0 x1 → P2 x0 x1 → P3 x0 x1 → G) : G := by
  obtain ⟨a0, a1, a2, a3, a4, a5⟩ := h
  exact f a0 a1 a2 a3 a4 a5
theorem o_EEAAAA {T0 : Sort _} {T1 : Sort _} {P0 : T0 → T1 → Prop} {P1 : T0 → T1 → Prop} {P2 : T0 → T1 → Prop} {P3 : T0 → T1 → Prop} {P4 : T0 → T1 → Prop} {G : Prop} (h : ∃ x0, ∃ x1, P0 x0 x1 ∧ P1 x0 x1 ∧ P2 x0 x1 ∧ P3 x0 x1 ∧ P4 x0 x1) (f : ∀ x0, ∀ x1, P0 x0 x1 → P1 x0 x1 → P2 x0 x1 → P3 x0 x1 → P4 x0 x1 → G) : G := by
  obtain ⟨a0, a1, a2, a3, a4, a5, a6⟩ := h
  exact f a0 a1 a2 a3 a4 a5 a6
theorem o_EEAAAAA {T0 : Sort _} {T1 : Sort _} {P0 : T0 → T1 → Prop} {P1 : T0 → T1 → Prop} {P2 : T0 → T1 → Prop} {P3 : T0 → T1 → Prop} {P4 : T0 → T1 → Prop} {P5 : T0 → T1 → Prop} {G : Prop} (h : ∃ x0, ∃ x1, P0 x0 x1 ∧ P1 x0 x1 ∧ P2 x0 x1 ∧ P3 x0 x1 ∧ P4 x0 x1 ∧ P5 x0 x1) (f : ∀ x0, ∀ x1, P0 x0 x1 → P1 x0 x1 → P2 x0 x1 → P3 x0 x1 → P4 x0 x1 → P5 x0 x1 → G) : G := by
  obtain ⟨a0, a1, a2, a3, a4, a5, a6, a7⟩ := h
  exact f a0 a1 a2 a3 a4 a5 a6 a7
theorem o_EEEA {T0 : Sort _} {T1 : Sort _} {T2 : Sort _} {P0 : T0 → T1 → T2 → Prop} {P1 : T0 → T1 → T2 → Prop} {G : Prop} (h : ∃ x0, ∃ x1, ∃ x2, P0 x0 x1 x2 ∧ P1 x0 x1 x2) (f : ∀ x0, ∀ x1, ∀ x2, P0 x0 x1 x2 → P1 x0 x1 x2 → G) : G := by
  obtain ⟨a0, a1, a2, a3, a4⟩ := h
  exact f a0 a1 a2 a3 a4
theorem o_EEEAA {T0 : Sort _} {T1 : Sort _} {T2 : Sort _} {P0 : T0 → T1 → T2 → Prop} {P1 : T0 → T1 → T2 → Prop} {P2 : T0 → T1 → T2 → Prop} {G : Prop} (h : ∃ x0, ∃ x1, ∃ x2, P0 x0 x1 x2 ∧ P1 x0 x1 x2 ∧ P2 x0 x1 x2) (f : ∀ x0, ∀ x1, ∀ x2, P0 x0 x1 x2 → P1 x0 x1 x2 → P2 x0 x1 x2 → G) : G := by
  obtain ⟨a0, a1, a2, a3, a4, a5⟩ := h
  exact f a0 a1 a2 a3 a4 a5
theorem o_EEEAAA {T0 : Sort _} {T1 : Sort _} {T2 : Sort _} {P0 : T0 → T1 → T2 → Prop} {P1 : T0 → T1 → T2 → Prop} {P2 : T0 → T1 → T2 → Prop} {P3 : T0 → T1 → T2 → Prop} {G : Prop} (h : ∃ x0, ∃ x1, ∃ x2, P0 x0 x1 x2 ∧ P1 x0 x1 x2 ∧ P2 x0 x1 x2 ∧ P3 x0 x1 x2) (f : ∀ x0, ∀ x1, ∀ x2, P0 x0 x1 x2 → P1 x0 x1 x2 → P2 x0 x1 x2 → P3 x0 x1 x2 → G) : G := by
  obtain ⟨a0, a1, a2, a3, a4, a5, a6⟩ := h
  exact f a0 a1 a2 a3 a4 a5 a6
theorem o_EEEAAAA {T0 : Sort _} {T1 : Sort _} {T2 : Sort _} {P0 : T0 → T1 → T2 → Prop} {P1 : T0 → T1 → T2 → Prop} {P2 : T0 → T1 → T2 → Prop} {P3 : T0 → T1 → T2 → Prop} {P4 : T0 → T1 → T2 → Prop} {G : Prop} (h : ∃ x0, ∃ x1, ∃ x2, P0 x0 x1 x2 ∧ P1 x0 x1 x2 ∧ P2 x0 x1 x2 ∧ P3 x0 x1 x2 ∧ P4 x0 x1 x2) (f : ∀ x0, ∀ x1, ∀ x2, P0 x0 x1 x2 → P1 x0 x1 x2 → P2 x0 x1 x2 → P3 x0 x1 x2 → P4 x0 x1 x2 → G) : G := by
  obtain ⟨a0, a1, a2, a3, a4, a5, a6, a7⟩ := h
  exact f a0 a1 a2 a3 a4 a5 a6 a7
theorem o_EEEAAAAA {T0 : Sort _} {T1 : Sort _} {T2 : Sort _} {P0 : T0 → T1 → T2 → Prop} {P1 : T0 → T1 → T2 → Prop} {P2 : T0 → T1 → T2 → Prop} {P3 : T0 → T1 → T2 → Prop} {P4 : T0 → T1 → T2 → Prop} {P5 : T0 → T1 → T2 → Prop} {G : Prop} (h : ∃ x0, ∃ x1, ∃ x2, P0 x0 x1 x2 ∧ P1 x0 x1 x2 ∧ P2 x0 x1 x2 ∧ P3 x0 x1 x2 ∧ P4 x0 x1 x2 ∧ P5 x0 x1 x2) (f : ∀ x0, ∀ x1, ∀ x2, P0 x0 x1 x2 → P1 x0 x1 x2 → P2 x0 x1 x2 → P3 x0 x1 x2 → P4 x0 x1 x2 → P5 x0 x1 x2 → G) : G := by
  obtain ⟨a0, a1, a2, a3, a4, a5, a6, a7, a8⟩ := h
  exact f a0 a1 a2 a3 a4 a5 a6 a7 a8
theorem o_EEEEAA {T0 : Sort _} {T1 : Sort _} {T2 : Sort _} {T3 : Sort _} {P0 : T0 → T1 → T2 → T3 → Prop} {P1 : T0 → T1 → T2 → T3 → Prop} {P2 : T0 → T1 → T2 → T3 → Prop} {G : Prop} (h : ∃ x0, ∃ x1, ∃ x2, ∃ x3, P0 x0 x1 x2 x3 ∧ P1 x0 x1 x2 x3 ∧ P2 x0 x1 x2 x3) (f : ∀ x0, ∀ x1, ∀ x2, ∀ x3, P0 x0 x1 x2 x3 → P1 x0 x1 x2 x3 → P2 x0 x1 x2 x3 → G) : G := by
  obtain ⟨a0, a1, a2, a3, a4, a5, a6⟩ := h
  exact f a0 a1 a2 a3 a4 a5 a6
theorem o_EEEEAAAA {T0 : Sort _} {T1 : Sort _} {T2 : Sort _} {T3 : Sort _} {P0 : T0 → T1 → T2 → T3 → Prop} {P1 : T0 → T1 → T2 → T3 → Prop} {P2 : T0 → T1 → T2 → T3 → Prop} {P3 : T0 → T1 → T2 → T3 → Prop} {P4 : T0 → T1 → T2 → T3 → Prop} {G : Prop} (h : ∃ x0, ∃ x1, ∃ x2, ∃ x3, P0 x0 x1 x2 x3 ∧ P1 x0 x1 x2 x3 ∧ P2 x0 x1 x2 x3 ∧ P3 x0 x1 x2 x3 ∧ P4 x0 x1 x2 x3) (f : ∀ x0, ∀ x1, ∀ x2, ∀ x3, P0 x0 x1 x2 x3 → P1 x0 x1 x2 x3 → P2 x0 x1 x2 x3 → P3 x0 x1 x2 x3 → P4 x0 x1 x2 x3 → G) : G := by
  obtain ⟨a0, a1, a2, a3, a4, a5, a6, a7, a8⟩ := h
  exact f a0 a1 a2 a3 a4 a5 a6 a7 a8
theorem o_EEEEAAAAAA {T0 : Sort _} {T1 : Sort _} {T2 : Sort _} {T3 : Sort _} {P0 : T0 → T1 → T2 → T3 → Prop} {P1 : T0 → T1 → T2 → T3 → Prop} {P2 : T0 → T1 → T2 → T3 → Prop} {P3 : T0 → T1 → T2 → T3 → Prop} {P4 : T0 → T1 → T2 → T3 → Prop} {P5 : T0 → T1 → T2 → T3 → Prop} {P6 : T0 → T1 → T2 → T3 → Prop} {G : Prop} (h : ∃ x0, ∃ x1, ∃ x2, ∃ x3, P0 x0 x1 x2 x3 ∧ P1 x0 x1 x2 x3 ∧ P2 x0 x1 x2 x3 ∧ P3 x0 x1 x2 x3 ∧ P4 x0 x1 x2 x3 ∧ P5 x0 x1 x2 x3 ∧ P6 x0 x1 x2 x3) (f : ∀ x0, ∀ x1, ∀ x2, ∀ x3, P0 x0 x1 x2 x3 → P1 x0 x1 x2 x3 → P2 x0 x1 x2 x3 → P3 x0 x1 x2 x3 → P4 x0 x1 x2 x3 → P5 x0 x1 x2 x3 → P6 x0 x1 x2 x3 → G) : G := by
  obtain ⟨a0, a1, a2, a3, a4, a5, a6, a7, a8, a9, a10⟩ := h
  exact f a0 a1 a2 a3 a4 a5 a6 a7 a8 a9 a10
theorem o_EEEEEAAAAA {T0 : Sort _} {T1 : Sort _} {T2 : Sort _} {T3 : Sort _} {T4 : Sort _} {P0 : T0 → T1 → T2 → T3 → T4 → Prop} {P1 : T0 → T1 → T2 → T3 → T4 → Prop} {P2 : T0 → T1 → T2 → T3 → T4 → Prop} {P3 : T0 → T1 → T2 → T3 → T4 → Prop} {P4 : T0 → T1 → T2 → T3 → T4 → Prop} {P5 : T0 → T1 → T2 → T3 → T4 → Prop} {G : Prop} (h : ∃ x0, ∃ x1, ∃ x2, ∃ x3, ∃ x4, P0 x0 x1 x2 x3 x4 ∧ P1 x0 x1 x2 x3 x4 ∧ P2 x0 x1 x2 x3 x4 ∧ P3 x0 x1 x2 x3 x4 ∧ P4 x0 x1 x2 x3 x4 ∧ P5 x0 x1 x2 x3 x4) (f : ∀ x0, ∀ x1, ∀ x2, ∀ x3, ∀ x4, P0 x0 x1 x2 x3 x4 → P1 x0 x1 x2 x3 x4 → P2 x0 x1 x2 x3 x4 → P3 x0 x1 x2 x3 x4 → P4 x0 x1 x2 x3 x4 → P5 x0 x1 x2 x3 x4 → G) : G := by
  obtain ⟨a0, a1, a2, a3, a4, a5, a6, a7, a8, a9, a10⟩ := h
  exact f a0 a1 a2 a3 a4 a5 a6 a7 a8 a9 a10
theorem o_EEEEEEAAA {T0 : Sort _} {T1 : Sort _} {T2 : Sort _} {T3 : Sort _} {T4 : Sort _} {T5 : Sort _} {P0 : T0 → T1 → T2 → T3 → T4 → T5 → Prop} {P1 : T0 → T1 → T2 → T3 → T4 → T5 → Prop} {P2 : T0 → T1 → T2 → T3 → T4 → T5 → Prop} {P3 : T0 → T1 → T2 → T3 → T4 → T5 → Prop} {G : Prop} (h : ∃ x0, ∃ x1, ∃ x2, ∃ x3, ∃ x4, ∃ x5, P0 x0 x1 x2 x3 x4 x5 ∧ P1 x0 x1 x2 x3 x4 x5 ∧ P2 x0 x1 x2 x3 x4 x5 ∧ P3 x0 x1 x2 x3 x4 x5) (f : ∀ x0, ∀ x1, ∀ x2, ∀ x3, ∀ x4, ∀ x5, P0 x0 x1 x2 x3 x4 x5 → P1 x0 x1 x2 x3 x4 x5 → P2 x0 x1 x2 x3 x4 x5 → P3 x0 x1 x2 x3 x4 x5 → G) : G := by
  obtain ⟨a0, a1, a2, a3, a4, a5, a6, a7, a8, a9⟩ := h
  exact f a0 a1 a2 a3 a4 a5 a6 a7 a8 a9
theorem o_EEEEEEEAAAAA {T0 : Sort _} {T1 : Sort _} {T2 : Sort _} {T3 : Sort _} {T4 : Sort _} {T5 : Sort _} {T6 : Sort _} {P0 : T0 → T1 → T2 → T3 → T4 → T5 → T6 → Prop} {P1 : T0 → T1 → T2 → T3 → T4 → T5 → T6 → Prop} {P2 : T0 → T1 → T2 → T3 → T4 → T5 → T6 → Prop} {P3 : T0 → T1 → T2 → T3 → T4 → T5 → T6 → Prop} {P4 : T0 → T1 → T2 → T3 → T4 → T5 → T6 → Prop} {P5 : T0 → T1 → T2 → T3 → T4 → T5 → T6 → Prop} {G : Prop} (h : ∃ x0, ∃ x1, ∃ x2, ∃ x3, ∃ x4, ∃ x5, ∃ x6, P0 x0 x1 x2 x3 x4 x5 x6 ∧ P1 x0 x1 x2 x3 x4 x5 x6 ∧ P2 x0 x1 x2 x3 x4 x5 x6 ∧ P3 x0 x1 x2 x3 x4 x5 x6 ∧ P4 x0 x1 x2 x3 x4 x5 x6 ∧ P5 x0 x1 x2 x3 x4 x5 x6) (f : ∀ x0, ∀ x1, ∀ x2, ∀ x3, ∀ x4, ∀ x5, ∀ x6, P0 x0 x1 x2 x3 x4 x5 x6 → P1 x0 x1 x2 x3 x4 x5 x6 → P2 x0 x1 x2 x3 x4 x5 x6 → P3 x0 x1 x2 x3 x4 x5 x6 → P4 x0 x1 x2 x3 x4 x5 x6 → P5 x0 x1 x2 x3 x4 x5 x6 → G) : G := by
  obtain ⟨a0, a1, a2, a3, a4, a5, a6, a7, a8, a9, a10, a11, a12⟩ := h
  exact f a0 a1 a2 a3 a4 a5 a6 a7 a8 a9 a10 a11 a12
theorem o_EEEEEEEEAA {T0 : Sort _} {T1 : Sort _} {T2 : Sort _} {T3 : Sort _} {T4 : Sort _} {T5 : Sort _} {T6 : Sort _} {T7 : Sort _} {P0 : T0 → T1 → T2 → T3 → T4 → T5 → T6 → T7 → Prop} {P1 : T0 → T1 → T2 → T3 → T4 → T5 → T6 → T7 → Prop} {P2 : T0 → T1 → T2 → T3 → T4 → T5 → T6 → T7 → Prop} {G : Prop} (h : ∃ x0, ∃ x1, ∃ x2, ∃ x3, ∃ x4, ∃ x5, ∃ x6, ∃ x7, P0 x0 x1 x2 x3 x4 x5 x6 x7 ∧ P1 x0 x1 x2 x3 x4 x5 x6 x7 ∧ P2 x0 x1 x2 x3 x4 x5 x6 x7) (f : ∀ x0, ∀ x1, ∀ x2, ∀ x3, ∀ x4, ∀ x5, ∀ x6, ∀ x7, P0 x0 x1 x2 x3 x4 x5 x6 x7 → P1 x0 x1 x2 x3 x4 x5 x6 x7 → P2 x0 x1 x2 x3 x4 x5 x6 x7 → G) : G := by
  obtain ⟨a0, a1, a2, a3, a4, a5, a6, a7, a8, a9, a10⟩ := h
  exact f a0 a1 a2 a3 a4 a5 a6 a7 a8 a9 a10
theorem o_EEEEEEEEEAA {T0 : Sort _} {T1 : Sort _} {T2 : Sort _} {T3 : Sort _} {T4 : Sort _} {T5 : Sort _} {T6 : Sort _} {T7 : Sort _} {T8 : Sort _} {P0 : T0 → T1 → T2 → T3 → T4 → T5 → T6 → T7 → T8 → Prop} {P1 : T0 → T1 → T2 → T3 → T4 → T5 → T6 → T7 → T8 → Prop} {P2 : T0 → T1 → T2 → T3 → T4 → T5 → T6 → T7 → T8 → Prop} {G : Prop} (h : ∃ x0, ∃ x1, ∃ x2, ∃ x3, ∃ x4, ∃ x5, ∃ x6, ∃ x7, ∃ x8, P0 x0 x1 x2 x3 x4 x5 x6 x7 x8 ∧ P1 x0 x1 x2 x3 x4 x5 x6 x7 x8 ∧ P2 x0 x1 x2 x3 x4 x5 x6 x7 x8) (f : ∀ x0, ∀ x1, ∀ x2, ∀ x3, ∀ x4, ∀ x5, ∀ x6, ∀ x7, ∀ x8, P0 x0 x1 x2 x3 x4 x5 x6 x7 x8 → P1 x0 x1 x2 x3 x4 x5 x6 x7 x8 → P2 x0 x1 x2 x3 x4 x5 x6 x7 x8 → G) : G := by
  obtain ⟨a0, a1, a2, a3, a4, a5, a6, a7, a8, a9, a10, a11⟩ := h
  exact f a0 a1 a2 a3 a4 a5 a6 a7 a8 a9 a10 a11
theorem o_EEEEEEEEEAAAAAAA {T0 : Sort _} {T1 : Sort _} {T2 : Sort _} {T3 : Sort _} {T4 : Sort _} {T5 : Sort _} {T6 : Sort _} {T7 : Sort _} {T8 : Sort _} {P0 : T0 → T1 → T2 → T3 → T4 → T5 → T6 → T7 → T8 → Prop} {P1 : T0 → T1 → T2 → T3 → T4 → T5 → T6 → T7 → T8 → Prop} {P2 : T0 → T1 → T2 → T3 → T4 → T5 → T6 → T7 → T8 → Prop} {P3 : T0 → T1 → T2 → T3 → T4 → T5 → T6 → T7 → T8 → Prop} {P4 : T0 → T1 → T2 → T3 → T4 → T5 → T6 → T7 → T8 → Prop} {P5 : T0 → T1 → T2 → T3 → T4 → T5 → T6 → T7 → T8 → Prop} {P6 : T0 → T1 → T2 → T3 → T4 → T5 → T6 → T7 → T8 → Prop} {P7 : T0 → T1 → T2 → T3 → T4 → T5 → T6 → T7 → T8 → Prop} {G : Prop} (h : ∃ x0, ∃ x1, ∃ x2, ∃ x3, ∃ x4, ∃ x5, ∃ x6, ∃ x7, ∃ x8, P0 x0 x1 x2 x3 x4 x5 x6 x7 x8 ∧ P1 x0 x1 x2 x3 x4 x5 x6 x7 x8 ∧ P2 x0 x1 x2 x3 x4 x5 x6 x7 x8 ∧ P3 x0 x1 x2 x3 x4 x5 x6 x7 x8 ∧ P4 x0 x1 x2 x3 x4 x5 x6 x7 x8 ∧ P5 x0 x1 x2 x3 x4 x5 x6 x7 x8 ∧ P6 x0 x1 x2 x3 x4 x5 x6 x7 x8 ∧ P7 x0 x1 x2 x3 x4 x5 x6 x7 x8) (f : ∀ x0, ∀ x1, ∀ x2, ∀ x3, ∀ x4, ∀ x5, ∀ x6, ∀ x7, ∀ x8, P0 x0 x1 x2 x3 x4 x5 x6 x7 x8 → P1 x0 x1 x2 x3 x4 x5 x6 x7 x8 → P2 x0 x1 x2 x3 x4 x5 x6 x7 x8 → P3 x0 x1 x2 x3 x4 x5 x6 x7 x8 → P4 x0 x1 x2 x3 x4 x5 x6 x7 x8 → P5 x0 x1 x2 x3 x4 x5 x6 x7 x8 → P6 x0 x1 x2 x3 x4 x5 x6 x7 x8 → P7 x0 x1 x2 x3 x4 x5 x6 x7 x8 → G) : G := by
  obtain ⟨a0, a1, a2, a3, a4, a5, a6, a7, a8, a9, a10, a11, a12, a13, a14, a15, a16⟩ := h
  exact f a0 a1 a2 a3 a4 a5 a6 a7 a8 a9 a10 a11 a12 a13 a14 a15 a16
theorem i_AAEAEEEA {T0 : Sort _} {T1 : Sort _} {T2 : Sort _} {T3 : Sort _} {P0 : Prop} {P1 : Prop} {P2 : T0 → Prop} {P3 : T0 → T1 → T2 → T3 → Prop} {P4 : T0 → T1 → T2 → T3 → Prop} (p0 : P0) (p1 : P1) (x0 : T0) (p2 : P2 x0) (x1 : T1) (x2 : T2) (x3 : T3) (p3 : P3 x0 x1 x2 x3) (p4 : P4 x0 x1 x2 x3) : P0 ∧ P1 ∧ ∃ x0, P2 x0 ∧ ∃ x1, ∃ x2, ∃ x3, P3 x0 x1 x2 x3 ∧ P4 x0 x1 x2 x3 := ⟨p0, p1, x0, p2, x1, x2, x3, p3, p4⟩
theorem i_AAEEA {T0 : Sort _} {T1 : Sort _} {P0 : Prop} {P1 : Prop} {P2 : T0 → T1 → Prop} {P3 : T0 → T1 → Prop} (p0 : P0) (p1 : P1) (x0 : T0) (x1 : T1) (p2 : P2 x0 x1) (p3 : P3 x0 x1) : P0 ∧ P1 ∧ ∃ x0, ∃ x1, P2 x0 x1 ∧ P3 x0 x1 := ⟨p0, p1, x0, x1, p2, p3⟩
theorem i_AEEA {T0 : Sort _} {T1 : Sort _} {P0 : Prop} {P1 : T0 → T1 → Prop} {P2 : T0 → T1 → Prop} (p0 : P0) (x0 : T0) (x1 : T1) (p1 : P1 x0 x1) (p2 : P2 x0 x1) : P0 ∧ ∃ x0, ∃ x1, P1 x0 x1 ∧ P2 x0 x1 := ⟨p0, x0, x1, p1, p2⟩
theorem i_AEEAA {T0 : Sort _} {T1 : Sort _} {P0 : Prop} {P1 : T0 → T1 → Prop} {P2 : T0 → T1 → Prop} {P3 : T0 → T1 → Prop} (p0 : P0) (x0 : T0) (x1 : T1) (p1 : P1 x0 x1) (p2 : P2 x0 x1) (p3 : P3 x0 x1) : P0 ∧ ∃ x0, ∃ x1, P1 x0 x1 ∧ P2 x0 x1 ∧ P3 x0 x1 := ⟨p0, x0, x1, p1, p2, p3⟩
theorem i_AEEEAAAA {T0 : Sort _} {T1 : Sort _} {T2 : Sort _} {P0 : Prop} {P1 : T0 → T1 → T2 → Prop} {P2 : T0 → T1 → T2 → Prop} {P3 : T0 → T1 → T2 → Prop} {P4 : T0 → T1 → T2 → Prop} {P5 : T0 → T1 → T2 → Prop} (p0 : P0) (x0 : T0) (x1 : T1) (x2 : T2) (p1 : P1 x0 x1 x2) (p2 : P2 x0 x1 x2) (p3 : P3 x0 x1 x2) (p4 : P4 x0 x1 x2) (p5 : P5 x0 x1 x2) : P0 ∧ ∃ x0, ∃ x1, ∃ x2, P1 x0 x1 x2 ∧ P2 x0 x1 x2 ∧ P3 x0 x1 x2 ∧ P4 x0 x1 x2 ∧ P5 x0 x1 x2 := ⟨p0, x0, x1, x2, p1, p2, p3, p4, p5⟩
theorem i_EAAEEEEAAAAAA {T0 : Sort _} {T1 : Sort _} {T2 : Sort _} {T3 : Sort _} {T4 : Sort _} {P0 : T0 → Prop} {P1 : T0 → Prop} {P2 : T0 → T1 → T2 → T3 → T4 → Prop} {P3 : T0 → T1 → T2 → T3 → T4 → Prop} {P4 : T0 → T1 → T2 → T3 → T4 → Prop} {P5 : T0 → T1 → T2 → T3 → T4 → Prop} {P6 : T0 → T1 → T2 → T3 → T4 → Prop} {P7 : T0 → T1 → T2 → T3 → T4 → Prop} {P8 : T0 → T1 → T2 → T3 → T4 → Prop} (x0 : T0) (p0 : P0 x0) (p1 : P1 x0) (x1 : T1) (x2 : T2) (x3 : T3) (x4 : T4) (p2 : P2 x0 x1 x2 x3 x4) (p3 : P3 x0 x1 x2 x3 x4) (p4 : P4 x0 x1 x2 x3 x4) (p5 : P5 x0 x1 x2 x3 x4) (p6 : P6 x0 x1 x2 x3 x4) (p7 : P7 x0 x1 x2 x3 x4) (p8 : P8 x0 x1 x2 x3 x4) : ∃ x0, P0 x0 ∧ P1 x0 ∧ ∃ x1, ∃ x2, ∃ x3, ∃ x4, P2 x0 x1 x2 x3 x4 ∧ P3 x0 x1 x2 x3 x4 ∧ P4 x0 x1 x2 x3 x4 ∧ P5 x0 x1 x2 x3 x4 ∧ P6 x0 x1 x2 x3 x4 ∧ P7 x0 x1 x2 x3 x4 ∧ P8 x0 x1 x2 x3 x4 := ⟨x0, p0, p1, x1, x2, x3, x4, p2, p3, p4, p5, p6, p7, p8⟩
theorem i_EAEEA {T0 : Sort _} {T1 : Sort _} {T2 : Sort _} {P0 : T0 → Prop} {P1 : T0 → T1 → T2 → Prop} {P2 : T0 → T1 → T2 → Prop} (x0 : T0) (p0 : P0 x0) (x1 : T1) (x2 : T2) (p1 : P1 x0 x1 x2) (p2 : P2 x0 x1 x2) : ∃ x0, P0 x0 ∧ ∃ x1, ∃ x2, P1 x0 x1 x2 ∧ P2 x0 x1 x2 := ⟨x0, p0, x1, x2, p1, p2⟩
theorem i_EAEEEAAA {T0 : Sort _} {T1 : Sort _} {T2 : Sort _} {T3 : Sort _} {P0 : T0 → Prop} {P1 : T0 → T1 → T2 → T3 → Prop} {P2 : T0 → T1 → T2 → T3 → Prop} {P3 : T0 → T1 → T2 → T3 → Prop} {P4 : T0 → T1 → T2 → T3 → Prop} (x0 : T0) (p0 : P0 x0) (x1 : T1) (x2 : T2) (x3 : T3) (p1 : P1 x0 x1 x2 x3) (p2 : P2 x0 x1 x2 x3) (p3 : P3 x0 x1 x2 x3) (p4 : P4 x0 x1 x2 x3) : ∃ x0, P0 x0 ∧ ∃ x1, ∃ x2, ∃ x3, P1 x0 x1 x2 x3 ∧ P2 x0 x1 x2 x3 ∧ P3 x0 x1 x2 x3 ∧ P4 x0 x1 x2 x3 := ⟨x0, p0, x1, x2, x3, p1, p2, p3, p4⟩
theorem i_EEA {T0 : Sort _} {T1 : Sort _} {P0 : T0 → T1 → Prop} {P1 : T0 → T1 → Prop} (x0 : T0) (x1 : T1) (p0 : P0 x0 x1) (p1 : P1 x0 x1) : ∃ x0, ∃ x1, P0 x0 x1 ∧ P1 x0 x1 := ⟨x0, x1, p0, p1⟩
theorem i_EEAA {T0 : Sort _} {T1 : Sort _} {P0 : T0 → T1 → Prop} {P1 : T0 → T1 → Prop} {P2 : T0 → T1 → Prop} (x0 : T0) (x1 : T1) (p0 : P0 x0 x1) (p1 : P1 x0 x1) (p2 : P2 x0 x1) : ∃ x0, ∃ x1, P0 x0 x1 ∧ P1 x0 x1 ∧ P2 x0 x1 := ⟨x0, x1, p0, p1, p2⟩
theorem i_EEAAA {T0 : Sort _} {T1 : Sort _} {P0 : T0 → T1 → Prop} {P1 : T0 → T1 → Prop} {P2 : T0 → T1 → Prop} {P3 : T0 → T1 → Prop} (x0 : T0) (x1 : T1) (p0 : P0 x0 x1) (p1 : P1 x0 x1) (p2 : P2 x0 x1) (p3 : P3 x0 x1) : ∃ x0, ∃ x1, P0 x0 x1 ∧ P1 x0 x1 ∧ P2 x0 x1 ∧ P3 x0 x1 := ⟨x0, x1, p0, p1, p2, p3⟩
theorem i_EEAAAA {T0 : Sort _} {T1 : Sort _} {P0 : T0 → T1 → Prop} {P1 : T0 → T1 → Prop} {P2 : T0 → T1 → Prop} {P3 : T0 → T1 → Prop} {P4 : T0 → T1 → Prop} (x0 : T0) (x1 : T1) (p0 : P0 x0 x1) (p1 : P1 x0 x1) (p2 : P2 x0 x1) (p3 : P3 x0 x1) (p4 : P4 x0 x1) : ∃ x0, ∃ x1, P0 x0 x1 ∧ P1 x0 x1 ∧ P2 x0 x1 ∧ P3 x0 x1 ∧ P4 x0 x1 := ⟨x0, x1, p0, p1, p2, p3, p4⟩
theorem i_EEAAAAA {T0 : Sort _} {T1 : Sort _} {P0 : T0 → T1 → Prop} {P1 : T0 → T1 → Prop} {P2 : T0 → T1 → Prop} {P3 : T0 → T1 → Prop} {P4 : T0 → T1 → Prop} {P5 : T0 → T1 → Prop} (x0 : T0) (x1 : T1) (p0 : P0 x0 x1) (p1 : P1 x0 x1) (p2 : P2 x0 x1) (p3 : P3 x0 x1) (p4 : P4 x0 x1) (p5 : P5 x0 x1) : ∃ x0, ∃ x1, P0 x0 x1 ∧ P1 x0 x1 ∧ P2 x0 x1 ∧ P3 x0 x1 ∧ P4 x0 x1 ∧ P5 x0 x1 := ⟨x0, x1, p0, p1, p2, p3, p4, p5⟩
theorem i_EEAAAAAAA {T0 : Sort _} {T1 : Sort _} {P0 : T0 → T1 → Prop} {P1 : T0 → T1 → Prop} {P2 : T0 → T1 → Prop} {P3 : T0 → T1 → Prop} {P4 : T0 → T1 → Prop} {P5 : T0 → T1 → Prop} {P6 : T0 → T1 → Prop} {P7 : T0 → T1 → Prop} (x0 : T0) (x1 : T1) (p0 : P0 x0 x1) (p1 : P1 x0 x1) (p2 : P2 x0 x1) (p3 : P3 x0 x1) (p4 : P4 x0 x1) (p5 : P5 x0 x1) (p6 : P6 x0 x1) (p7 : P7 x0 x1) : ∃ x0, ∃ x1, P0 x0 x1 ∧ P1 x0 x1 ∧ P2 x0 x1 ∧ P3 x0 x1 ∧ P4 x0 x1 ∧ P5 x0 x1 ∧ P6 x0 x1 ∧ P7 x0 x1 := ⟨x0, x1, p0, p1, p2, p3, p4, p5, p6, p7⟩
theorem i_EEEA {T0 : Sort _} {T1 : Sort _} {T2 : Sort _} {P0 : T0 → T1 → T2 → Prop} {P1 : T0 → T1 → T2 → Prop} (x0 : T0) (x1 : T1) (x2 : T2) (p0 : P0 x0 x1 x2) (p1 : P1 x0 x1 x2) : ∃ x0, ∃ x1, ∃ x2, P0 x0 x1 x2 ∧ P1 x0 x1 x2 := ⟨x0, x1, x2, p0, p1⟩
theorem i_EEEAAA {T0 : Sort _} {T1 : Sort _} {T2 : Sort _} {P0 : T0 → T1 → T2 → Prop} {P1 : T0 → T1 → T2 → Prop} {P2 : T0 → T1 → T2 → Prop} {P3 : T0 → T1 → T2 → Prop} (x0 : T0) (x1 : T1) (x2 : T2) (p0 : P0 x0 x1 x2) (p1 : P1 x0 x1 x2) (p2 : P2 x0 x1 x2) (p3 : P3 x0 x1 x2) : ∃ x0, ∃ x1, ∃ x2, P0 x0 x1 x2 ∧ P1 x0 x1 x2 ∧ P2 x0 x1 x2 ∧ P3 x0 x1 x2 := ⟨x0, x1, x2, p0, p1, p2, p3⟩
theorem i_EEEAAAA {T0 : Sort _} {T1 : Sort _} {T2 : Sort _} {P0 : T0 → T1 → T2 → Prop} {P1 : T0 → T1 → T2 → Prop} {P2 : T0 → T1 → T2 → Prop} {P3 : T0 → T1 → T2 → Prop} {P4 : T0 → T1 → T2 → Prop} (x0 : T0) (x1 : T1) (x2 : T2) (p0 : P0 x0 x1 x2) (p1 : P1 x0 x1 x2) (p2 : P2 x0 x1 x2) (p3 : P3 x0 x1 x2) (p4 : P4 x0 x1 x2) : ∃ x0, ∃ x1, ∃ x2, P0 x0 x1 x2 ∧ P1 x0 x1 x2 ∧ P2 x0 x1 x2 ∧ P3 x0 x1 x2 ∧ P4 x0 x1 x2 := ⟨x0, x1, x2, p0, p1, p2, p3, p4⟩
theorem i_EEEAAAAA {T0 : Sort _} {T1 : Sort _} {T2 : Sort _} {P0 : T0 → T1 → T2 → Prop} {P1 : T0 → T1 → T2 → Prop} {P2 : T0 → T1 → T2 → Prop} {P3 : T0 → T1 → T2 → Prop} {P4 : T0 → T1 → T2 → Prop} {P5 : T0 → T1 → T2 → Prop} (x0 : T0) (x1 : T1) (x2 : T2) (p0 : P0 x0 x1 x2) (p1 : P1 x0 x1 x2) (p2 : P2 x0 x1 x2) (p3 : P3 x0 x1 x2) (p4 : P4 x0 x1 x2) (p5 : P5 x0 x1 x2) : ∃ x0, ∃ x1, ∃ x2, P0 x0 x1 x2 ∧ P1 x0 x1 x2 ∧ P2 x0 x1 x2 ∧ P3 x0 x1 x2 ∧ P4 x0 x1 x2 ∧ P5 x0 x1 x2 := ⟨x0, x1, x2, p0, p1, p2, p3, p4, p5⟩
theorem i_EEEEAAAAAA {T0 : Sort _} {T1 : Sort _} {T2 : Sort _} {T3 : Sort _} {P0 : T0 → T1 → T2 → T3 → Prop} {P1 : T0 → T1 → T2 → T3 → Prop} {P2 : T0 → T1 → T2 → T3 → Prop} {P3 : T0 → T1 → T2 → T3 → Prop} {P4 : T0 → T1 → T2 → T3 → Prop} {P5 : T0 → T1 → T2 → T3 → Prop} {P6 : T0 → T1 → T2 → T3 → Prop} (x0 : T0) (x1 : T1) (x2 : T2) (x3 : T3) (p0 : P0 x0 x1 x2 x3) (p1 : P1 x0 x1 x2 x3) (p2 : P2 x0 x1 x2 x3) (p3 : P3 x0 x1 x2 x3) (p4 : P4 x0 x1 x2 x3) (p5 : P5 x0 x1 x2 x3) (p6 : P6 x0 x1 x2 x3) : ∃ x0, ∃ x1, ∃ x2, ∃ x3, P0 x0 x1 x2 x3 ∧ P1 x0 x1 x2 x3 ∧ P2 x0 x1 x2 x3 ∧ P3 x0 x1 x2 x3 ∧ P4 x0 x1 x2 x3 ∧ P5 x0 x1 x2 x3 ∧ P6 x0 x1 x2 x3 := ⟨x0, x1, x2, x3, p0, p1, p2, p3, p4, p5, p6⟩
theorem i_EEEEEAAAAA {T0 : Sort _} {T1 : Sort _} {T2 : Sort _} {T3 : Sort _} {T4 : Sort _} {P0 : T0 → T1 → T2 → T3 → T4 → Prop} {P1 : T0 → T1 → T2 → T3 → T4 → Prop} {P2 : T0 → T1 → T2 → T3 → T4 → Prop} {P3 : T0 → T1 → T2 → T3 → T4 → Prop} {P4 : T0 → T1 → T2 → T3 → T4 → Prop} {P5 : T0 → T1 → T2 → T3 → T4 → Prop} (x0 : T0) (x1 : T1) (x2 : T2) (x3 : T3) (x4 : T4) (p0 : P0 x0 x1 x2 x3 x4) (p1 : P1 x0 x1 x2 x3 x4) (p2 : P2 x0 x1 x2 x3 x4) (p3 : P3 x0 x1 x2 x3 x4) (p4 : P4 x0 x1 x2 x3 x4) (p5 : P5 x0 x1 x2 x3 x4) : ∃ x0, ∃ x1, ∃ x2, ∃ x3, ∃ x4, P0 x0 x1 x2 x3 x4 ∧ P1 x0 x1 x2 x3 x4 ∧ P2 x0 x1 x2 x3 x4 ∧ P3 x0 x1 x2 x3 x4 ∧ P4 x0 x1 x2 x3 x4 ∧ P5 x0 x1 x2 x3 x4 := ⟨x0, x1, x2, x3, x4, p0, p1, p2, p3, p4, p5⟩
theorem i_EEEEEEAAA {T0 : Sort _} {T1 : Sort _} {T2 : Sort _} {T3 : Sort _} {T4 : Sort _} {T5 : Sort _} {P0 : T0 → T1 → T2 → T3 → T4 → T5 → Prop} {P1 : T0 → T1 → T2 → T3 → T4 → T5 → Prop} {P2 : T0 → T1 → T2 → T3 → T4 → T5 → Prop} {P3 : T0 → T1 → T2 → T3 → T4 → T5 → Prop} (x0 : T0) (x1 : T1) (x2 : T2) (x3 : T3) (x4 : T4) (x5 : T5) (p0 : P0 x0 x1 x2 x3 x4 x5) (p1 : P1 x0 x1 x2 x3 x4 x5) (p2 : P2 x0 x1 x2 x3 x4 x5) (p3 : P3 x0 x1 x2 x3 x4 x5) : ∃ x0, ∃ x1, ∃ x2, ∃ x3, ∃ x4, ∃ x5, P0 x0 x1 x2 x3 x4 x5 ∧ P1 x0 x1 x2 x3 x4 x5 ∧ P2 x0 x1 x2 x3 x4 x5 ∧ P3 x0 x1 x2 x3 x4 x5 := ⟨x0, x1, x2, x3, x4, x5, p0, p1, p2, p3⟩
theorem i_EEEEEEEAAAAA {T0 : Sort _} {T1 : Sort _} {T2 : Sort _} {T3 : Sort _} {T4 : Sort _} {T5 : Sort _} {T6 : Sort _} {P0 : T0 → T1 → T2 → T3 → T4 → T5 → T6 → Prop} {P1 : T0 → T1 → T2 → T3 → T4 → T5 → T6 → Prop} {P2 : T0 → T1 → T2 → T3 → T4 → T5 → T6 → Prop} {P3 : T0 → T1 → T2 → T3 → T4 → T5 → T6 → Prop} {P4 : T0 → T1 → T2 → T3 → T4 → T5 → T6 → Prop} {P5 : T0 → T1 → T2 → T3 → T4 → T5 → T6 → Prop} (x0 : T0) (x1 : T1) (x2 : T2) (x3 : T3) (x4 : T4) (x5 : T5) (x6 : T6) (p0 : P0 x0 x1 x2 x3 x4 x5 x6) (p1 : P1 x0 x1 x2 x3 x4 x5 x6) (p2 : P2 x0 x1 x2 x3 x4 x5 x6) (p3 : P3 x0 x1 x2 x3 x4 x5 x6) (p4 : P4 x0 x1 x2 x3 x4 x5 x6) (p5 : P5 x0 x1 x2 x3 x4 x5 x6) : ∃ x0, ∃ x1, ∃ x2, ∃ x3, ∃ x4, ∃ x5, ∃ x6, P0 x0 x1 x2 x3 x4 x5 x6 ∧ P1 x0 x1 x2 x3 x4 x5 x6 ∧ P2 x0 x1 x2 x3 x4 x5 x6 ∧ P3 x0 x1 x2 x3 x4 x5 x6 ∧ P4 x0 x1 x2 x3 x4 x5 x6 ∧ P5 x0 x1 x2 x3 x4 x5 x6 := ⟨x0, x1, x2, x3, x4, x5, x6, p0, p1, p2, p3, p4, p5⟩
theorem i_EEEEEEEEAA {T0 : Sort _} {T1 : Sort _} {T2 : Sort _} {T3 : Sort _} {T4 : Sort _} {T5 : Sort _} {T6 : Sort _} {T7 : Sort _} {P0 : T0 → T1 → T2 → T3 → T4 → T5 → T6 → T7 → Prop} {P1 : T0 → T1 → T2 → T3 → T4 → T5 → T6 → T7 → Prop} {P2 : T0 → T1 → T2 → T3 → T4 → T5 → T6 → T7 → Prop} (x0 : T0) (x1 : T1) (x2 : T2) (x3 : T3) (x4 : T4) (x5 : T5) (x6 : T6) (x7 : T7) (p0 : P0 x0 x1 x2 x3 x4 x5 x6 x7) (p1 : P1 x0 x1 x2 x3 x4 x5 x6 x7) (p2 : P2 x0 x1 x2 x3 x4 x5 x6 x7) : ∃ x0, ∃ x1, ∃ x2, ∃ x3, ∃ x4, ∃ x5, ∃ x6, ∃ x7, P0 x0 x1 x2 x3 x4 x5 x6 x7 ∧ P1 x0 x1 x2 x3 x4 x5 x6 x7 ∧ P2 x0 x1 x2 x3 x4 x5 x6 x7 := ⟨x0, x1, x2, x3, x4, x5, x6, x7, p0, p1, p2⟩
theorem i_EEEEEEEEEAA {T0 : Sort _} {T1 : Sort _} {T2 : Sort _} {T3 : Sort _} {T4 : Sort _} {T5 : Sort _} {T6 : Sort _} {T7 : Sort _} {T8 : Sort _} {P0 : T0 → T1 → T2 → T3 → T4 → T5 → T6 → T7 → T8 → Prop} {P1 : T0 → T1 → T2 → T3 → T4 → T5 → T6 → T7 → T8 → Prop} {P2 : T0 → T1 → T2 → T3 → T4 → T5 → T6 → T7 → T8 → Prop} (x0 : T0) (x1 : T1) (x2 : T2) (x3 : T3) (x4 : T4) (x5 : T5) (x6 : T6) (x7 : T7) (x8 : T8) (p0 : P0 x0 x1 x2 x3 x4 x5 x6 x7 x8) (p1 : P1 x0 x1 x2 x3 x4 x5 x6 x7 x8) (p2 : P2 x0 x1 x2 x3 x4 x5 x6 x7 x8) : ∃ x0, ∃ x1, ∃ x2, ∃ x3, ∃ x4, ∃ x5, ∃ x6, ∃ x7, ∃ x8, P0 x0 x1 x2 x3 x4 x5 x6 x7 x8 ∧ P1 x0 x1 x2 x3 x4 x5 x6 x7 x8 ∧ P2 x0 x1 x2 x3 x4 x5 x6 x7 x8 := ⟨x0, x1, x2, x3, x4, x5, x6, x7, x8, p0, p1, p2⟩
theorem i_EEEEEEEEEAAAAAAA {T0 : Sort _} {T1 : Sort _} {T2 : Sort _} {T3 : Sort _} {T4 : Sort _} {T5 : Sort _} {T6 : Sort _} {T7 : Sort _} {T8 : Sort _} {P0 : T0 → T1 → T2 → T3 → T4 → T5 → T6 → T7 → T8 → Prop} {P1 : T0 → T1 → T2 → T3 → T4 → T5 → T6 → T7 → T8 → Prop} {P2 : T0 → T1 → T2 → T3 → T4 → T5 → T6 → T7 → T8 → Prop} {P3 : T0 → T1 → T2 → T3 → T4 → T5 → T6 → T7 → T8 → Prop} {P4 : T0 → T1 → T2 → T3 → T4 → T5 → T6 → T7 → T8 → Prop} {P5 : T0 → T1 → T2 → T3 → T4 → T5 → T6 → T7 → T8 → Prop} {P6 : T0 → T1 → T2 → T3 → T4 → T5 → T6 → T7 → T8 → Prop} {P7 : T0 → T1 → T2 → T3 → T4 → T5 → T6 → T7 → T8 → Prop} (x0 : T0) (x1 : T1) (x2 : T2) (x3 : T3) (x4 : T4) (x5 : T5) (x6 : T6) (x7 : T7) (x8 : T8) (p0 : P0 x0 x1 x2 x3 x4 x5 x6 x7 x8) (p1 : P1 x0 x1 x2 x3 x4 x5 x6 x7 x8) (p2 : P2 x0 x1 x2 x3 x4 x5 x6 x7 x8) (p3 : P3 x0 x1 x2 x3 x4 x5 x6 x7 x8) (p4 : P4 x0 x1 x2 x3 x4 x5 x6 x7 x8) (p5 : P5 x0 x1 x2 x3 x4 x5 x6 x7 x8) (p6 : P6 x0 x1 x2 x3 x4 x5 x6 x7 x8) (p7 : P7 x0 x1 x2 x3 x4 x5 x6 x7 x8) : ∃ x0, ∃ x1, ∃ x2, ∃ x3, ∃ x4, ∃ x5, ∃ x6, ∃ x7, ∃ x8, P0 x0 x1 x2 x3 x4 x5 x6 x7 x8 ∧ P1 x0 x1 x2 x3 x4 x5 x6 x7 x8 ∧ P2 x0 x1 x2 x3 x4 x5 x6 x7 x8 ∧ P3 x0 x1 x2 x3 x4 x5 x6 x7 x8 ∧ P4 x0 x1 x2 x3 x4 x5 x6 x7 x8 ∧ P5 x0 x1 x2 x3 x4 x5 x6 x7 x8 ∧ P6 x0 x1 x2 x3 x4 x5 x6 x7 x8 ∧ P7 x0 x1 x2 x3 x4 x5 x6 x7 x8 := ⟨x0, x1, x2, x3, x4, x5, x6, x7, x8, p0, p1, p2, p3, p4, p5, p6, p7⟩
end L2
namespace L2
open PySem PySem.Spec PyProof.Rows
noncomputable abbrev Key := Sum Int Str
noncomputable def keyIs : Key → Value → Bool
  | .inl k, v => Value.isInt k v
  | .inr x, v => Value.isStrOf x v
noncomputable def keyH (w : World) : Key → Int
  | .inl k => hashInt k
  | .inr x => hashStr w x
theorem keyIs_shape : ∀ {k : Key} {v : Value}, keyIs k v = true → (∃ i t, k = Sum.inl i ∧ v = Value.int i t) ∨ (∃ x t, k = Sum.inr x ∧ v = Value.str x t)
  | .inl i, v, h => by
    refine L2.o_E (Value.isInt_shape (k := i) (v := v) h) fun t e => ?_
    exact .inl ⟨i, t, rfl, e⟩
  | .inr x, v, h => by
    refine L2.o_E (Value.isStrOf_shape (x := x) (v := v) h) fun t e => ?_
    exact .inr ⟨x, t, rfl, e⟩
theorem key_ll (a b : Int) : decide ((Sum.inl a : Key) = Sum.inl b) = (a == b) := by
  by_cases e : a = b
  · subst e; simp
  · have h : ¬ (Sum.inl a : Key) = Sum.inl b := fun q => e (Sum.inl.inj q)
    rw [decide_eq_false h]
    exact (beq_eq_false_iff_ne.mpr e).symm
theorem key_rr (a b : Str) : decide ((Sum.inr a : Key) = Sum.inr b) = decide (a = b) := by
  by_cases e : a = b
  · subst e; simp
  · have h : ¬ (Sum.inr a : Key) = Sum.inr b := fun q => e (Sum.inr.inj q)
    rw [decide_eq_false h, decide_eq_false e]
theorem key_lr (a : Int) (b : Str) : decide ((Sum.inl a : Key) = Sum.inr b) = false := decide_eq_false (fun q => nomatch q)
theorem key_rl (a : Str) (b : Int) : decide ((Sum.inr a : Key) = Sum.inl b) = false := decide_eq_false (fun q => nomatch q)
noncomputable def mixKind (prog : Program) (w : World) : PySem.KeyKind prog w Key where
  is := keyIs
  hash := keyH w
  inj := fun v a b ha hb => by
    rcases keyIs_shape ha with ⟨i, t, rfl, rfl⟩ | ⟨x, t, rfl, rfl⟩
    · rcases keyIs_shape hb with ⟨j, u, rfl, e⟩ | ⟨y, u, rfl, e⟩
      · injection e with e1 _; rw [e1]
      · exact nomatch e
    · rcases keyIs_shape hb with ⟨j, u, rfl, e⟩ | ⟨y, u, rfl, e⟩
      · exact nomatch e
      · injection e with e1 _; rw [e1]
  byValue := fun k v h => by
    rcases keyIs_shape h with ⟨i, t, rfl, rfl⟩ | ⟨x, t, rfl, rfl⟩ <;> rfl
  pyHash := fun hv h => by
    rcases keyIs_shape hv with ⟨i, t, rfl, rfl⟩ | ⟨x, t, rfl, rfl⟩
    · exact wpAny_pyHash_int h
    · exact wpAny_pyHash_str h
  eqBool := fun hu hv h => by
    rcases keyIs_shape hu with ⟨i, t, rfl, rfl⟩ | ⟨x, t, rfl, rfl⟩
    · rcases keyIs_shape hv with ⟨j, u, rfl, rfl⟩ | ⟨y, u, rfl, rfl⟩
      · rw [key_ll] at h; exact wpAny_eqBool_int h
      · rw [key_lr] at h; exact SeqAt.EqAt.int_str i t y u _ _ _ _ h
    · rcases keyIs_shape hv with ⟨j, u, rfl, rfl⟩ | ⟨y, u, rfl, rfl⟩
      · rw [key_rl] at h; exact SeqAt.EqAt.str_int x t j u _ _ _ _ h
      · rw [key_rr] at h; exact wpAny_eqBool_str h
  «strs» := fun k x t v h => by
    rcases keyIs_shape h with ⟨i, u, rfl, e⟩ | ⟨y, u, rfl, e⟩
    · exact nomatch e
    · injection e with e1 _
      subst e1
      cases v <;> rfl
end L2
namespace L2
open PySem PySem.Spec PyProof.Rows
inductive V where
  | non | bl (b : Bool) | int (i : Int) | str (x : Str) | byt (b : Array UInt8) | flt (b : UInt64) | ref (a : Addr) | ty (n : String)
  deriving DecidableEq
noncomputable def RelV : V → Value → Prop
  | .non, u => u = Value.none
  | .bl b, u => u = Value.bool b
  | .int i, u => ∃ t, u = Value.int i t
  | .str x, u => ∃ t, u = Value.str x t
  | .byt b, u => ∃ t, u = Value.bytes b t
  | .flt b, u => ∃ t, u = Value.float b t
  | .ref a, u => u = Value.ref a
  | .ty n, u => u = Value.type n
noncomputable abbrev Vals : List V → List Value → Prop := Paired RelV
theorem Vals.length {xs : List V} {us : List Value} (r : Vals xs us) : xs.length = us.length := Paired.length r
theorem Vals.get : ∀ {xs : List V} {us : List Value} {i : Nat} {x : V}, Vals xs us → xs[i]? = some x → ∃ u, us[i]? = some u ∧ RelV x u
  | _, _, _, _, .nil, e => by simp at e
  | _, _, 0, _, .cons r _, e => by simp at e; subst e; exact ⟨_, rfl, r⟩
  | _, _, i + 1, x, .cons _ t, e => by
    refine L2.o_EA (Vals.get (i := i) (x := x) t (by simpa using e)) fun u h1 h2 => ?_
    exact ⟨u, by simpa using h1, h2⟩
theorem Vals.set {x : V} {u : Value} (r : RelV x u) : ∀ {xs : List V} {us : List Value} (i : Nat), Vals xs us → Vals (xs.set i x) (us.set i u)
  | _, _, _, .nil => .nil
  | _, _, 0, .cons _ t => .cons r t
  | _, _, i + 1, .cons q t => .cons q (Vals.set r i t)
theorem Vals.append {xs ys : List V} {us ws : List Value} (h : Vals xs us) (s : Vals ys ws) : Vals (xs ++ ys) (us ++ ws) := by
  induction h with
  | nil => exact s
  | cons r t ih => exact .cons r ih
theorem Vals.take : ∀ {xs : List V} {us : List Value} (n : Nat), Vals xs us → Vals (xs.take n) (us.take n)
  | _, _, 0, _ => .nil
  | _, _, _ + 1, .nil => .nil
  | _, _, n + 1, .cons r t => .cons r (Vals.take n t)
theorem Vals.drop : ∀ {xs : List V} {us : List Value} (n : Nat), Vals xs us → Vals (xs.drop n) (us.drop n)
  | _, _, 0, r => r
  | _, _, _ + 1, .nil => .nil
  | _, _, n + 1, .cons _ t => Vals.drop n t
noncomputable def RelO : Option V → Option Value → Prop
  | some v, some u => RelV v u
  | none, none => True
  | _, _ => False
noncomputable def KV {κ : Type} : List (κ × V) → List (κ × Value) → Prop := Paired fun (p : κ × V) (q : κ × Value) => p.1 = q.1 ∧ RelV p.2 q.2
noncomputable def kV : Key → V
  | .inl i => .int i
  | .inr x => .str x
inductive HO where
    | lst (xs : List V)
    | tup (xs : List V)
    | dK (kvs : List (Key × V)) | dT (kvs : List (List Key × V))
    | set (S : Int → Bool) (n : Nat)
    | ins (C dx : Addr) (fs : List (Str × V))
    | own (x : Addr)
    | xd (fs : List (Str × V))
    | met (f x : Addr)
    | rng (lo hi : Int)
    | frz (o : Obj) (u : HO)
    | tbl (ps : Array Value)
  | tab
    | ext (φ : Heap → Prop)
noncomputable abbrev Hp := Addr → Option HO
noncomputable def upd (H : Hp) (a : Addr) (o : HO) : Hp := fun b => if b = a then some o else H b
theorem upd_same {H : Hp} {a : Addr} {o : HO} : upd H a o a = some o := by unfold upd; rw [if_pos rfl]
theorem upd_ne {H : Hp} {a b : Addr} {o : HO} (h : b ≠ a) : upd H a o b = H b := by unfold upd; rw [if_neg h]
theorem ne_of_none {H : Hp} {a b : Addr} {o : HO} (h : H a = some o) (h' : H b = none) : a ≠ b := by
  intro e; subst e; rw [h] at h'; cases h'
section
variable (P : Program) (w : World)
noncomputable def ObjOk (H : Hp) (h : Heap) (a : Addr) : HO → Prop
  | .lst xs => xs.length ≤ sizeLine ∧ ∃ (its : List Value) (n : Nat), Vals xs its ∧ h.get? a = some { cls := .type "list", data := .seq its.toArray n }
  | .tup xs => xs.length ≤ sizeLine ∧ ∃ its : List Value, Vals xs its ∧ IsTup h a its.toArray
  | .dK kvs => kvs.length ≤ sizeLine ∧ (a == sysModules) = false ∧ ∃ vs, KV kvs vs ∧ h.DictOf (mixKind P w) a vs
  | .dT kvs => kvs.length ≤ sizeLine ∧ (a == sysModules) = false ∧ ∃ xs : List (List Key × Addr × Value),
      Paired (fun (p : List Key × V) (q : List Key × Addr × Value) => p.1 = q.1 ∧ H q.2.1 = some (.tup (p.1.map kV)) ∧ RelV p.2 q.2.2) kvs xs ∧
      ∃ o es ep, h.get? a = some o ∧ o.ExactDict ∧ o.data = .dict es ep ∧ es.toList = xs.map (entryOfKey (tupleKind (mixKind P w))) ∧ (xs.map (·.1)).Nodup
  | .set S n => h.SetOf (intKind P w) a S n
  | .ins C dx fs => H dx = some (.own a) ∧ fs.length ≤ 1000 ∧ dx ≠ a ∧ h.get? a = some (PySem.W.instObj C dx) ∧
      ∃ mA, h.Ns1 dx mA ∧ (∀ f, RelO (fs.lookup f) (mA f)) ∧ PySem.Within mA (fs.map (·.1))
  | .own _ => ∃ o, h.get? a = some o
  | .xd fs => ∃ mA, h.Ns1 a mA ∧ ∀ f, RelO (fs.lookup f) (mA f)
  | .rng lo hi => ∃ t u v, h.get? a = some { cls := .type "range", data := .fields #[.int lo t, .int hi u, .int 1 v] }
  | .frz o u => h.get? a = some o ∧ ObjOk H h a u
  | .tbl ps => h.get? a = some { cls := .none, data := .fields ps }
  | .met f x => h.get? a = some (PySem.W.methodObj (.ref f) (.ref x))
  | .tab => ∃ ps : Array Value, h.get? a = some (PySem.W.tabObj ps) ∧ TriplesOk ps.toList ∧ ∀ pos c, codeAmong pos ps.toList = some c → ∃ c' oc vs q t φ, c = Value.ref c' ∧ H c' = some (.frz oc φ) ∧ oc.data = .fields vs ∧ vs[1]? = some (Value.str q t)
  | .ext φ => φ h ∧ (∃ o, h.get? a = some o) ∧ ∀ h1 h2 : Heap, φ h1 → (∀ o, h1.get? a = some o → h2.get? a = some o) → φ h2
noncomputable def HOk (H : Hp) (h : Heap) : Prop := ∀ a o, H a = some o → ObjOk P w H h a o
end
section
variable {P : Program} {w : World} {H H' : Hp} {h h' : Heap} {a : Addr} {o : HO}
theorem ObjOk.lt (x : ObjOk P w H h a o) : a < h.objs.size := by
  cases o with
  | lst xs => obtain ⟨_, _, _, _, e⟩ := x; exact Heap.lt_size e
  | tup xs => obtain ⟨_, _, _, p⟩ := x; exact p.lt
  | dK kvs => obtain ⟨_, _, _, _, o, _, _, e, _⟩ := x; exact Heap.lt_size e
  | dT kvs => obtain ⟨_, _, _, _, o, _, _, e, _⟩ := x; exact Heap.lt_size e
  | set S n => obtain ⟨o, _, _, _, e, _⟩ := x; exact Heap.lt_size e
  | ins C dx fs => obtain ⟨_, _, _, e, _⟩ := x; exact Heap.lt_size e
  | own y => obtain ⟨_, e⟩ := x; exact Heap.lt_size e
  | xd fs => obtain ⟨_, ⟨_, _, _, e, _⟩, _⟩ := x; exact Heap.lt_size e
  | rng lo hi => obtain ⟨_, _, _, e⟩ := x; exact Heap.lt_size e
  | frz ob u => obtain ⟨e, _⟩ := x; exact Heap.lt_size e
  | tbl ps => exact Heap.lt_size (show h.get? a = some _ from x)
  | met f y => exact Heap.lt_size (show h.get? a = some _ from x)
  | tab => obtain ⟨_, e, _⟩ := x; exact Heap.lt_size e
  | ext φ => obtain ⟨_, ⟨_, e⟩, _⟩ := x; exact Heap.lt_size e
theorem Paired.mapP {α β : Type} {F G : α → β → Prop} {l₁ : List α} {l₂ : List β} (h : Paired F l₁ l₂) (f : ∀ a b, F a b → G a b) : Paired G l₁ l₂ := by
  induction h with
  | nil => exact .nil
  | cons r t ih => exact .cons (f _ _ r) ih
theorem ObjOk.stay (x : ObjOk P w H h a o) (k : ∀ b u, (b = a ∨ H b = some (.own a)) → h.get? b = some u → h'.get? b = some u)
    (ho : ∀ b, H b = some (.own a) → H' b = some (.own a)) (ht : ∀ b xs, H b = some (.tup xs) → H' b = some (.tup xs)) (hz : ∀ b o u vs, o.data = .fields vs → H b = some (.frz o u) → H' b = some (.frz o u) := by exact fun _ _ _ _ _ q => q) : ObjOk P w H' h' a o := by
  induction o with
  | lst xs => obtain ⟨z, its, n, r, e⟩ := x; exact ⟨z, its, n, r, k _ _ (.inl rfl) e⟩
  | tup xs => obtain ⟨z, its, r, ob, e, c⟩ := x; exact ⟨z, its, r, ob, k _ _ (.inl rfl) e, c⟩
  | dK kvs => obtain ⟨z, y, vs, r, ob, es, ep, e, c⟩ := x; exact ⟨z, y, vs, r, ob, es, ep, k _ _ (.inl rfl) e, c⟩
  | dT kvs =>
    refine L2.o_AAEAEEEA (x) fun z y xs r ob es ep e c => ?_
    exact L2.i_AAEAEEEA (z) (y) (xs) (Paired.mapP r fun p q z => ⟨z.1, ht _ _ z.2.1, z.2.2⟩) (ob) (es) (ep) (k _ _ (.inl rfl) e) (c)
  | set S n => obtain ⟨ob, es, ep, t, e, c⟩ := x; exact ⟨ob, es, ep, t, k _ _ (.inl rfl) e, c⟩
  | ins C dx fs =>
    obtain ⟨d, z, ne, e, mA, ⟨od, es, ep, e2, c⟩, r⟩ := x
    exact ⟨ho _ d, z, ne, k _ _ (.inl rfl) e, mA, ⟨od, es, ep, k _ _ (.inr d) e2, c⟩, r⟩
  | own y => obtain ⟨ob, e⟩ := x; exact ⟨ob, k _ _ (.inl rfl) e⟩
  | xd fs => obtain ⟨mA, ⟨od, es, ep, e, c⟩, r⟩ := x; exact ⟨mA, ⟨od, es, ep, k _ _ (.inl rfl) e, c⟩, r⟩
  | rng lo hi => obtain ⟨t, u, v, e⟩ := x; exact ⟨t, u, v, k _ _ (.inl rfl) e⟩
  | frz ob u ih => obtain ⟨e, q⟩ := x; exact ⟨k _ _ (.inl rfl) e, ih q⟩
  | tbl ps =>
    have e : h.get? a = some { cls := .none, data := .fields ps } := x
    show h'.get? a = some { cls := .none, data := .fields ps }
    exact k a _ (.inl rfl) e
  | met f y =>
    have e : h.get? a = some (PySem.W.methodObj (.ref f) (.ref y)) := x
    show h'.get? a = some (PySem.W.methodObj (.ref f) (.ref y))
    exact k a _ (.inl rfl) e
  | ext φ => obtain ⟨p, ⟨o, e⟩, st⟩ := x; exact ⟨st _ _ p fun o q => k _ _ (.inl rfl) q, ⟨o, k _ _ (.inl rfl) e⟩, st⟩
  | tab =>
    refine L2.o_EAA (x) fun ps e tr co => ?_
    exact ⟨ps, k _ _ (.inl rfl) e, tr, fun pos c z => let ⟨c', oc, vs, q, t, φ, h1, h2, h3, h4⟩ := co pos c z; ⟨c', oc, vs, q, t, φ, h1, hz _ _ _ _ h3 h2, h3, h4⟩⟩
theorem HOk.lt (x : HOk P w H h) (e : H a = some o) : a < h.objs.size := (x a o e).lt
theorem HOk.fresh (x : HOk P w H h) (e : h.objs.size ≤ a) : H a = none := by
  cases q : H a with
  | none => rfl
  | some u => exact absurd (Nat.lt_of_lt_of_le (x.lt q) e) (Nat.lt_irrefl _)
theorem HOk.kept (x : HOk P w H h) (k : ∀ b u, h.get? b = some u → h'.get? b = some u) : HOk P w H h' := fun a o e =>
  (x a o e).stay (fun b u _ q => k b u q) (fun _ q => q) fun _ _ q => q
theorem HOk.laid (x : HOk P w H h) (k : ∀ b u, h.get? b = some u → h'.get? b = some u) (hp : h.objs.size ≤ a) (new : ObjOk P w (upd H a o) h' a o) : HOk P w (upd H a o) h' := fun b u e => by
  have hn := x.fresh hp
  by_cases hb : b = a
  · subst hb; rw [upd_same] at e; cases e; exact new
  · rw [upd_ne hb] at e
    exact (x b u e).stay (fun c v _ q => k c v q) (fun c q => by rw [upd_ne (ne_of_none q hn)]; exact q) (fun c xs q => by rw [upd_ne (ne_of_none q hn)]; exact q) fun c ob xs _ _ q => by rw [upd_ne (ne_of_none q hn)]; exact q
end
noncomputable def Rd (H : Hp) (a : Addr) (u : HO) : Prop := H a = some u ∨ ∃ o, H a = some (.frz o u)
theorem Rd.of {H : Hp} {a : Addr} {u : HO} (h : H a = some u) : Rd H a u := .inl h
theorem Rd.ok {P : Program} {w : World} {H : Hp} {h : Heap} {a : Addr} {u : HO} (r : Rd H a u) (x : HOk P w H h) : ObjOk P w H h a u := by
  rcases r with r | ⟨o, r⟩
  · exact x a u r
  · refine L2.o_A (x a _ r) fun _ q => ?_
    exact q
noncomputable def Mut : Option HO → Prop
  | some (.lst _) => True
  | some (.dK _) => True
  | some (.dT _) => True
  | some (.set _ _) => True
  | some (.ins _ _ _) => True
  | some (.ext _) => True
  | _ => False
section
variable {P : Program} {w : World} {H : Hp} {h h' : Heap} {x e : Addr} {o' : HO}
theorem HOk.write (ok : HOk P w H h) (mu : Mut (H x)) (he : e = x ∨ H e = some (.own x)) (k : ∀ b u, b ≠ e → h.get? b = some u → h'.get? b = some u) (heo : ∃ u, h'.get? e = some u)
    (new : ObjOk P w (upd H x o') h' x o') : HOk P w (upd H x o') h' := fun b u q => by
  have nown : ∀ c y, H c = some (.own y) → c ≠ x := fun c y r z => by subst z; rw [r] at mu; exact mu
  have ntup : ∀ c xs, H c = some (.tup xs) → c ≠ x := fun c xs r z => by subst z; rw [r] at mu; exact mu
  have nfrz : ∀ c ob xs, H c = some (.frz ob xs) → c ≠ x := fun c ob xs r z => by subst z; rw [r] at mu; exact mu
  by_cases hb : b = x
  · subst hb; rw [upd_same] at q; cases q; exact new
  · rw [upd_ne hb] at q
    by_cases hbe : b = e
    · have q' : H b = some (.own x) := by
        rcases he with z | z
        · exact absurd (hbe.trans z) hb
        · rw [hbe]; exact z
      rw [q] at q'; cases q'
      refine L2.o_E (heo) fun v hv => ?_
      exact ⟨v, by rw [hbe]; exact hv⟩
    · refine (ok b u q).stay (fun c v hc r => k c v ?_ r) (fun c r => by rw [upd_ne (nown c b r)]; exact r) (fun c xs r => by rw [upd_ne (ntup c xs r)]; exact r) fun c ob xs _ _ r => by rw [upd_ne (nfrz c ob xs r)]; exact r
      rcases hc with rfl | hc
      · exact hbe
      · rintro rfl
        rcases he with z | z
        · exact nown c b hc z
        · rw [hc] at z; cases z; exact hb rfl
end
structure Un (fs ex : List Addr) (H H' : Hp) (h h' : Heap) : Prop where
  keep : ∀ b o, h.get? b = some o → H b = none → b ∉ fs → b ∉ ex → h'.get? b = some o
  slot : ∀ b o, h.get? b = some o → H b = none → b ∈ fs → b ∉ ex → ∃ sl, h'.get? b = some { o with slots := sl }
  free : ∀ b o, h.get? b = some o → H b = none → b ∉ ex → H' b = none
  there : ∀ b o, h.get? b = some o → b ∉ ex → ∃ o', h'.get? b = some o'
  tups : ∀ b xs, H b = some (.tup xs) → H' b = some (.tup xs)
  frzs : ∀ b o u, H b = some (.frz o u) → H' b = some (.frz o u)
  tbls : ∀ b ps, H b = some (.tbl ps) → ∃ more, H' b = some (.tbl (ps ++ more))
  tabs : ∀ b, H b = some .tab → H' b = some .tab
section
variable {fs fs' ex ex' : List Addr} {H H1 H2 : Hp} {h h1 h2 h' : Heap} {a x e : Addr} {o : HO}
theorem Un.any (u : Un fs ex H H1 h h1) {b : Addr} {ob : Obj} (q : h.get? b = some ob) (n : H b = none) (hx : b ∉ ex) : ∃ sl, h1.get? b = some { ob with slots := sl } := by
  by_cases hb : b ∈ fs
  · exact u.slot b ob q n hb hx
  · exact ⟨ob.slots, u.keep b ob q n hb hx⟩
theorem Un.trans (a : Un fs ex H H1 h h1) (b : Un fs ex H1 H2 h1 h2) : Un fs ex H H2 h h2 where
  keep := fun c ob q n hc hx => b.keep c ob (a.keep c ob q n hc hx) (a.free c ob q n hx) hc hx
  slot := fun c ob q n hc hx => by
    refine L2.o_E (a.slot c ob q n hc hx) fun sl e1 => ?_
    refine L2.o_E (b.slot c _ e1 (a.free c ob q n hx) hc hx) fun sl' e2 => ?_
    exact ⟨sl', e2⟩
  free := fun c ob q n hx => by
    refine L2.o_E (a.there c ob q hx) fun o' e1 => ?_
    exact b.free c o' e1 (a.free c ob q n hx) hx
  there := fun c ob q hx => by
    refine L2.o_E (a.there c ob q hx) fun o' e1 => ?_
    exact b.there c o' e1 hx
  tups := fun c xs q => b.tups c xs (a.tups c xs q)
  frzs := fun c ob xs q => b.frzs c ob xs (a.frzs c ob xs q)
  tabs := fun c q => b.tabs c (a.tabs c q)
  tbls := fun c ps q => by
    refine L2.o_E (a.tbls c ps q) fun m1 e1 => ?_
    refine L2.o_E (b.tbls c _ e1) fun m2 e2 => ?_
    exact ⟨m1 ++ m2, by rw [e2, Array.append_assoc]⟩
theorem Un.kept (k : ∀ b u, h.get? b = some u → h'.get? b = some u) : Un fs ex H H h h' :=
  ⟨fun b ob q _ _ _ => k b ob q, fun b ob q _ _ _ => ⟨ob.slots, k b ob q⟩, fun _ _ _ n _ => n, fun b ob q _ => ⟨ob, k b ob q⟩, fun _ _ q => q, fun _ _ _ q => q, fun _ ps q => ⟨#[], by rw [q]; simp⟩, fun _ q => q⟩
theorem Un.refl : Un fs ex H H h h := Un.kept fun _ _ q => q
theorem Un.laid (k : ∀ b u, h.get? b = some u → h'.get? b = some u) (hp : h.objs.size ≤ a) (hn : H a = none) : Un fs ex H (upd H a o) h h' where
  keep := fun b u q _ _ _ => k b u q
  slot := fun b u q _ _ _ => ⟨u.slots, k b u q⟩
  free := fun b u q n _ => by rw [upd_ne (Nat.ne_of_lt (Nat.lt_of_lt_of_le (Heap.lt_size q) hp))]; exact n
  there := fun b u q _ => ⟨u, k b u q⟩
  tups := fun b xs q => by rw [upd_ne (ne_of_none q hn)]; exact q
  frzs := fun b u xs q => by rw [upd_ne (ne_of_none q hn)]; exact q
  tbls := fun b ps q => ⟨#[], by rw [upd_ne (ne_of_none q hn), q]; simp⟩
  tabs := fun b q => by rw [upd_ne (ne_of_none q hn)]; exact q
theorem Un.write (mu : Mut (H x)) (he : e = x ∨ H e = some (.own x)) (k : ∀ b u, b ≠ e → h.get? b = some u → h'.get? b = some u) (heo : ∃ u, h'.get? e = some u) : Un fs ex H (upd H x o) h h' := by
  have hx : ∀ b, H b = none → b ≠ x := fun b n z => by subst z; rw [n] at mu; exact mu
  have hb : ∀ b, H b = none → b ≠ e := fun b n z => by
    subst z
    rcases he with r | r
    · exact hx b n r
    · rw [n] at r; cases r
  have hm : ∀ b u, H b = some u → ¬ Mut (some u) → b ≠ x := fun b u q nm z => by subst z; rw [q] at mu; exact nm mu
  refine ⟨fun b u q n _ _ => k b u (hb b n) q, fun b u q n _ _ => ⟨u.slots, k b u (hb b n) q⟩, fun b u q n _ => by rw [upd_ne (hx b n)]; exact n, fun b u q _ => ?_,
    fun b xs q => by rw [upd_ne (hm b _ q fun z => z)]; exact q, fun b u xs q => by rw [upd_ne (hm b _ q fun z => z)]; exact q, fun b ps q => ⟨#[], by rw [upd_ne (hm b _ q fun z => z), q]; simp⟩, fun b q => by rw [upd_ne (hm b _ q fun z => z)]; exact q⟩
  by_cases hbe : b = e
  · subst hbe; exact heo
  · exact ⟨u, k b u hbe q⟩
theorem Un.mono (u : Un fs ex H H1 h h1) (hs : ∀ b ∈ fs, b ∈ fs') (hx : ∀ b ∈ ex, b ∈ ex') : Un fs' ex' H H1 h h1 :=
  ⟨fun b ob q n hb he => u.keep b ob q n (fun z => hb (hs b z)) fun z => he (hx b z), fun _ _ q n _ he => u.any q n fun z => he (hx _ z), fun b ob q n he => u.free b ob q n fun z => he (hx b z), fun b ob q he => u.there b ob q fun z => he (hx b z), u.tups, u.frzs, u.tbls, u.tabs⟩
end
noncomputable def trk (h : Heap) (H : Hp) : List Addr := (List.range h.objs.size).filter fun a => (H a).isSome
noncomputable def hidT (h : Heap) (H : Hp) : Heap := PySem.W.hideAll h (trk h H)
theorem hidT_size (h : Heap) (H : Hp) : (hidT h H).objs.size = h.objs.size := PySem.W.hideAll_size _ _
theorem hidT_get {h : Heap} {H : Hp} {b : Addr} {o : Obj} (e : h.get? b = some o) (n : H b = none) : (hidT h H).get? b = some o :=
  PySem.W.hideAll_get _ e fun hm => by
    have q : (H b).isSome = true := (List.mem_filter.mp hm).2
    rw [n] at q; simp at q
theorem of_hidT {h : Heap} {H : Hp} {b : Addr} {o : Obj} (e : (hidT h H).get? b = some o) : h.get? b = some o ∧ H b = none := by
  have e' : h.get? b = some o := PySem.W.of_hideAll (trk h H) e
  refine ⟨e', ?_⟩
  cases q : H b with
  | none => rfl
  | some x =>
    have hm : b ∈ trk h H := List.mem_filter.mpr ⟨List.mem_range.mpr (Heap.lt_size e'), by simp [q]⟩
    have z : (hidT h H).get? b = none := PySem.W.hideAll_none (trk h H) hm
    rw [z] at e; cases e
noncomputable def allNews (g h : Heap) (L : Addr) : List (Addr × Obj) := (List.range h.objs.size).filterMap fun a => if a = L ∨ (g.get? a).isSome = true then none else (h.get? a).map fun o => (a, o)
noncomputable def rest (g h : Heap) (L d : Addr) : List (Addr × Obj) := (allNews g h L).filter fun p => decide (p.1 ≠ d)
end L2
namespace L2
open PySem PySem.Spec PyProof.Rows
structure Mod (K : PySem.W.Frag) (mg : Str → Option Value) (base : Heap) : Prop where
  kin : K.In base
  glob : base.Ns mainGlobals mg
  blt : ∃ mb, base.Ns builtinsNs mb ∧ ∀ x : Str, x ≠ "__name__" → mb x = bootBuiltins x
  nolimit : base.NoLimit
noncomputable def lamNames (P : Program) : List Str := ((recsOf P).filter fun d => (freeInTheComprehensionsStmts d.body).isNone).map (·.name)
noncomputable def TabsOk (P : Program) (K : PySem.W.Frag) (mg : Str → Option Value) (base : Heap) (H : Hp) : Prop := ∀ x c p, x ∈ lamNames P → PySem.W.tabIn K x = some (c, p) → H p = some .tab ∧ PySem.W.CodeHd base c p ∧ base.BuiltinsAt mg p
structure Cx where
  prog : Program
  w : World
  K : PySem.W.Frag
  mg : Str → Option Value
  base : Heap
  A : Around
  N : List Str
  s₀ : Shared
  H₀ : Hp
  env : Env
  outer : List Env
  stack : List Env
  ex : List Addr
  fn : Str → Bool
  calm : Bool
  pn : List (Addr × Obj)
  xe : Value → Shared → Prop
noncomputable def frs (l : List Env) : List Addr := l.filterMap (·.frame)
noncomputable abbrev Cx.fs (X : Cx) : List Addr := frs X.outer
noncomputable def Vis (sc : Scope) (x : Str) : Prop := sc.names.lookup x = some .local ∨ sc.names.lookup x = some .cell ∨ sc.names.lookup x = some .free
noncomputable def Loc (sc : Scope) (x : Str) : Prop := sc.names.lookup x = some .local ∨ sc.names.lookup x = some .cell
noncomputable def Look (env : Env) (h : Heap) (m : Str → Option Value) (x : Str) (u : Value) : Prop :=
  (env.kindOf x = some .local ∧ m x = some u) ∨ ((env.kindOf x = some .cell ∨ env.kindOf x = some .free) ∧ ∃ c, env.cells.lookup x = some c ∧ h.IsCell c (some u))
structure Cx.Ok (X : Cx) : Prop where
  mod : Mod X.K X.mg X.base
  kind : X.env.scope.kind = .function
  glob : X.env.globals = mainGlobals
  blt : X.env.builtins = builtinsNs
  above : X.s₀.heap.objs.size ≤ X.env.locals
  inj : ∀ x y c, X.env.cells.lookup x = some c → X.env.cells.lookup y = some c → x = y
  has : ∀ x, (X.env.kindOf x = some .cell ∨ X.env.kindOf x = some .free) → ∃ c, X.env.cells.lookup x = some c
  cab : ∀ x c, X.fn x = true → X.env.cells.lookup x = some c → X.s₀.heap.objs.size ≤ c
  hd : X.calm = true → X.A.handled = none
  frames : X.A.frames = some X.stack
  stk : X.stack = X.outer ∨ (X.stack = X.env :: X.outer ∧ X.env.frame = some X.env.locals)
  exf : ∀ b ∈ X.ex, b ≠ X.env.locals ∧ ∀ x c, X.env.cells.lookup x = some c → c ≠ b
  bs : ∀ b o, X.base.get? b = some o → X.s₀.heap.get? b = some o ∧ X.H₀ b = none
  bsz : X.base.objs.size ≤ X.s₀.heap.objs.size
  noex : ∀ b o, X.base.get? b = some o → b ∉ X.ex
  exfs : ∀ b ∈ X.ex, b ∉ X.fs
  funs : X.s₀.heap.FunFrames X.base X.outer
  frf : ∀ b ∈ X.fs, X.H₀ b = none
  tabs : TabsOk X.prog X.K X.mg X.base X.H₀
structure Inv (X : Cx) (pins : List (Addr × Obj)) (σ : List (Option V)) (H : Hp) (s : Shared) : Prop where
  ok : X.Ok
  os : s.os = X.s₀.os
  bare : AllBare s.gens
  base : Un X.fs X.ex X.H₀ H X.s₀.heap s.heap
  loc : ∃ m, s.heap.Ns X.env.locals m ∧ ∀ (i : Nat) (x : Str) (v : V), X.N[i]? = some x → σ[i]? = some (some v) → Vis X.env.scope x → ∃ u, RelV v u ∧ Look X.env s.heap m x u
  cell : ∀ x c, X.env.cells.lookup x = some c → ∃ v, s.heap.IsCell c v
  free : H X.env.locals = none
  freeC : ∀ x c, X.env.cells.lookup x = some c → H c = none ∨ (X.fn x = false ∧ ∃ o u, H c = some (.frz o u))
  pin : ∀ p ∈ X.pn ++ pins, s.heap.get? p.1 = some p.2 ∧ H p.1 = none ∧ p.1 ≠ X.env.locals ∧ p.1 ∉ X.fs ∧ ∀ v, p.2.data ≠ .cell v
  hok : HOk X.prog X.w H s.heap
  len : σ.length = X.N.length
section
variable {X : Cx} {pins : List (Addr × Obj)} {σ : List (Option V)} {H H' : Hp} {s : Shared} {h' : Heap}
theorem Cx.Ok.nofr (ok : X.Ok) {b : Addr} {o : Obj} (e : X.base.get? b = some o) : b ∉ X.fs := fun hb => by
  have := (ok.funs.mem hb).1
  rw [e] at this; cases this
theorem Inv.bs (I : Inv X pins σ H s) : ∀ b o, X.base.get? b = some o → s.heap.get? b = some o ∧ H b = none := fun b o e =>
  ⟨I.base.keep b o (I.ok.bs b o e).1 (I.ok.bs b o e).2 (I.ok.nofr e) (I.ok.noex b o e), I.base.free b o (I.ok.bs b o e).1 (I.ok.bs b o e).2 (I.ok.noex b o e)⟩
theorem Inv.bk (I : Inv X pins σ H s) : ∀ b o, X.base.get? b = some o → s.heap.get? b = some o := fun b o e => (I.bs b o e).1
theorem Inv.mod (I : Inv X pins σ H s) : Mod X.K X.mg X.base := I.ok.mod
theorem Inv.kIn (I : Inv X pins σ H s) : X.K.In s.heap := I.ok.mod.kin.keeps I.bk
theorem Inv.nolimit (I : Inv X pins σ H s) : s.heap.NoLimit := I.ok.mod.nolimit.keeps I.bk
theorem Inv.fr (I : Inv X pins σ H s) : ∃ m, Fr X.base X.env.locals s.heap m :=
  let ⟨m, hn, _⟩ := I.loc
  ⟨m, hn, I.bk, Nat.le_trans I.ok.bsz I.ok.above⟩
theorem Inv.lt (I : Inv X pins σ H s) : X.env.locals < s.heap.objs.size := let ⟨_, hn, _⟩ := I.loc; hn.lt
theorem Inv.sz (I : Inv X pins σ H s) : X.s₀.heap.objs.size ≤ s.heap.objs.size := Nat.le_trans I.ok.above (Nat.le_of_lt I.lt)
theorem Inv.nofs (I : Inv X pins σ H s) {a : Addr} (h : s.heap.objs.size ≤ a) : a ∉ X.fs := fun hb => by
  refine L2.o_AEA (I.ok.funs.mem hb) fun _ o ho _ => ?_
  exact absurd (Nat.lt_of_lt_of_le (Heap.lt_size ho) (Nat.le_trans I.sz h)) (Nat.lt_irrefl _)
theorem Inv.cne (I : Inv X pins σ H s) : ∀ x c, X.env.cells.lookup x = some c → c ≠ X.env.locals := fun x c e z => by
  refine L2.o_EEA (I.cell x c e) fun v o ho hd => ?_
  obtain ⟨m, ⟨o', es, ep, ho', hd', _⟩, _⟩ := I.loc
  rw [z, ho'] at ho; cases ho; rw [hd'] at hd; cases hd
theorem Inv.funs (I : Inv X pins σ H s) : s.heap.FunFrames X.base X.outer := by
  have all : ∀ (l : List Env), (∀ b ∈ frs l, b ∈ X.fs) → X.s₀.heap.FunFrames X.base l → s.heap.FunFrames X.base l := by
    intro l
    induction l with
    | nil => intro _ _; trivial
    | cons env r ih =>
      intro hs hl
      obtain ⟨hk, ⟨L, o, hf, hn, ho, hd⟩, hr⟩ := hl
      have hL : L ∈ X.fs := hs L (by unfold frs; rw [List.filterMap_cons, hf]; exact List.mem_cons_self)
      refine L2.o_E (I.base.slot L o ho (I.ok.frf L hL) hL fun z => I.ok.exfs L z hL) fun sl e => ?_
      exact ⟨hk, ⟨L, _, hf, hn, e, hd⟩, ih (fun b hb => hs b (by unfold frs; rw [List.filterMap_cons, hf]; exact List.mem_cons_of_mem _ hb)) hr⟩
  exact all X.outer (fun _ hb => hb) I.ok.funs
theorem Inv.stack (I : Inv X pins σ H s) : s.heap.FunFrames X.base X.stack := by
  rcases I.ok.stk with e | ⟨e, hf⟩
  · rw [e]; exact I.funs
  · rw [e]
    refine L2.o_EA (I.loc) fun m hn _ => ?_
    refine .cons (by rw [I.ok.kind]; decide) hf hn ?_ I.funs
    exact Heap.get?_none_of_le (Nat.le_trans I.ok.bsz I.ok.above)
theorem Inv.stkSub (I : Inv X pins σ H s) : ∀ b ∈ frs X.stack, b ∈ X.env.locals :: X.fs := fun b hb => by
  rcases I.ok.stk with e | ⟨e, hf⟩
  · rw [e] at hb; exact List.mem_cons_of_mem _ hb
  · rw [e] at hb
    unfold frs at hb
    rw [List.filterMap_cons, hf] at hb
    exact hb
theorem Inv.stkFree (I : Inv X pins σ H s) : ∀ b ∈ frs X.stack, H b = none := fun b hb => by
  rcases List.mem_cons.mp (I.stkSub b hb) with e | hb
  · rw [e]; exact I.free
  · refine L2.o_AEA (I.ok.funs.mem hb) fun _ o ho _ => ?_
    exact I.base.free b o ho (I.ok.frf b hb) fun z => I.ok.exfs b z hb
theorem Inv.step {g' : Array GenState} {t' : Nat} {d' : Drawn} {ch : List Addr} (I : Inv X pins σ H s)
    (hch : ∀ b ∈ ch, (b ∈ X.ex ∨ X.s₀.heap.objs.size ≤ b) ∧ b ≠ X.env.locals ∧ (∀ x c, X.env.cells.lookup x = some c → c ≠ b) ∧ ∀ p ∈ X.pn ++ pins, p.1 ≠ b)
    (keep : ∀ b o, b ≠ X.env.locals → b ∉ X.fs → b ∉ ch → s.heap.get? b = some o → H b = none → h'.get? b = some o)
    (slot : ∀ b o, b ≠ X.env.locals → b ∈ X.fs → b ∉ ch → s.heap.get? b = some o → H b = none → ∃ sl, h'.get? b = some { o with slots := sl }) (free : ∀ b o, b ∉ ch → s.heap.get? b = some o → H b = none → H' b = none)
    (there : ∀ b o, b ∉ ch → s.heap.get? b = some o → ∃ o', h'.get? b = some o')
    (tups : ∀ b xs, H b = some (.tup xs) → H' b = some (.tup xs)) (frzs : ∀ b o u, H b = some (.frz o u) → H' b = some (.frz o u)) (tbls : ∀ b ps, H b = some (.tbl ps) → ∃ more, H' b = some (.tbl (ps ++ more))) (tabs : ∀ b, H b = some .tab → H' b = some .tab)
    (ns : ∀ m, s.heap.Ns X.env.locals m → h'.Ns X.env.locals m) (hok : HOk X.prog X.w H' h') (hg : AllBare g') :
    Inv X pins σ H' { s with heap := h', gens := g', drawn := d', toks := t' } := by
  have neL : ∀ b o, X.s₀.heap.get? b = some o → b ≠ X.env.locals := fun b o e => Nat.ne_of_lt (Nat.lt_of_lt_of_le (Heap.lt_size e) I.ok.above)
  have neC : ∀ b o, X.s₀.heap.get? b = some o → b ∉ X.ex → b ∉ ch := fun b o e hx hb => by
    rcases (hch b hb).1 with z | z
    · exact hx z
    · exact absurd (Nat.lt_of_lt_of_le (Heap.lt_size e) z) (Nat.lt_irrefl _)
  have cellK : ∀ x c, X.env.cells.lookup x = some c → ∀ v, s.heap.IsCell c v → h'.IsCell c v := fun x c e v zpat => by
    refine L2.o_EA (zpat) fun o ho hd => ?_
    have nch : c ∉ ch := fun z => (hch c z).2.2.1 x c e rfl
    rcases I.freeC x c e with fc | ⟨_, ob, ub, fc⟩
    · by_cases hc : c ∈ X.fs
      · refine L2.o_E (slot c o (I.cne x c e) hc nch ho fc) fun sl q => ?_
        exact ⟨_, q, hd⟩
      · exact ⟨o, keep c o (I.cne x c e) hc nch ho fc, hd⟩
    · have q1 := (I.hok c _ fc).1
      have q2 := (hok c _ (frzs c ob ub fc)).1
      rw [ho] at q1
      cases q1
      exact ⟨o, q2, hd⟩
  refine ⟨I.ok, I.os, hg, ⟨fun b o e n hb hx => ?_, fun b o e n hb hx => ?_, fun b o e n hx => ?_, fun b o e hx => ?_, fun b xs e => tups b xs (I.base.tups b xs e), fun b o xs e => frzs b o xs (I.base.frzs b o xs e), fun b ps e => ?_, fun b e => tabs b (I.base.tabs b e)⟩, ?_, fun x c e => ?_, ?_, fun x c e => ?_, fun p hp => ?_, hok, I.len⟩
  · exact keep b o (neL b o e) hb (neC b o e hx) (I.base.keep b o e n hb hx) (I.base.free b o e n hx)
  · refine L2.o_E (I.base.slot b o e n hb hx) fun sl e1 => ?_
    refine L2.o_E (slot b _ (neL b o e) hb (neC b o e hx) e1 (I.base.free b o e n hx)) fun sl' e2 => ?_
    exact ⟨sl', e2⟩
  · refine L2.o_E (I.base.there b o e hx) fun o' e1 => ?_
    exact free b o' (neC b o e hx) e1 (I.base.free b o e n hx)
  · refine L2.o_E (I.base.there b o e hx) fun o' e1 => ?_
    exact there b o' (neC b o e hx) e1
  · refine L2.o_E (I.base.tbls b ps e) fun m1 e1 => ?_
    refine L2.o_E (tbls b _ e1) fun m2 e2 => ?_
    exact ⟨m1 ++ m2, by rw [e2, Array.append_assoc]⟩
  · refine L2.o_EA (I.loc) fun m hn hl => ?_
    refine ⟨m, ns m hn, fun i x v e1 e2 e3 => ?_⟩
    refine L2.o_EA (hl i x v e1 e2 e3) fun u r l => ?_
    refine ⟨u, r, ?_⟩
    rcases l with l | ⟨k, c, e, z⟩
    · exact .inl l
    · exact .inr ⟨k, c, e, cellK x c e _ z⟩
  · refine L2.o_E (I.cell x c e) fun v z => ?_
    exact ⟨v, cellK x c e v z⟩
  · obtain ⟨m, ⟨o, _, _, ho, _⟩, _⟩ := I.loc
    exact free _ o (fun z => (hch _ z).2.1 rfl) ho I.free
  · refine L2.o_EEA (I.cell x c e) fun v o ho hd => ?_
    rcases I.freeC x c e with fc | ⟨hfn, ob, ub, fc⟩
    · exact .inl (free c o (fun z => (hch c z).2.2.1 x c e rfl) ho fc)
    · exact .inr ⟨hfn, ob, ub, frzs c ob ub fc⟩
  · refine L2.o_AAAA (I.pin p hp) fun e n ne nf d => ?_
    have nch : p.1 ∉ ch := fun z => (hch p.1 z).2.2.2 p hp rfl
    exact ⟨keep p.1 p.2 ne nf nch e n, free p.1 p.2 nch e n, ne, nf, d⟩
theorem Inv.un {t' : Nat} (I : Inv X pins σ H s) (u : Un X.fs [] H H' s.heap h') (hok : HOk X.prog X.w H' h') : Inv X pins σ H' { s with heap := h', toks := t' } := by
  obtain ⟨m, ⟨o, es, ep, ho, r⟩, _⟩ := id I.loc
  refine L2.o_E (u.any ho I.free (by simp)) fun sl hL => ?_
  exact I.step (g' := s.gens) (d' := s.drawn) (ch := []) (fun _ z => nomatch z) (fun b o _ hb _ e n => u.keep b o e n hb (by simp)) (fun b o _ hb _ e n => u.slot b o e n hb (by simp)) (fun b o _ e n => u.free b o e n (by simp)) (fun b o _ e => u.there b o e (by simp)) u.tups u.frzs u.tbls u.tabs (fun m' hm => by
    refine L2.o_EEEA (hm) fun o' es' ep' ho' r' => ?_
    rw [ho] at ho'; cases ho'
    exact ⟨_, es', ep', hL, r'⟩) hok I.bare
theorem Inv.call {g' : Array GenState} {t' : Nat} {d' : Drawn} {ch : List Addr} (I : Inv X pins σ H s) (u : Un (frs X.stack) ch H H' s.heap h') (hok : HOk X.prog X.w H' h') (hg : AllBare g')
    (hch : ∀ b ∈ ch, (b ∈ X.ex ∨ X.s₀.heap.objs.size ≤ b) ∧ b ≠ X.env.locals ∧ (∀ x c, X.env.cells.lookup x = some c → c ≠ b) ∧ ∀ p ∈ X.pn ++ pins, p.1 ≠ b) :
    Inv X pins σ H' { s with heap := h', gens := g', drawn := d', toks := t' } := by
  obtain ⟨m, ⟨o, es, ep, ho, r⟩, _⟩ := id I.loc
  refine L2.o_E (u.any ho I.free fun z => (hch _ z).2.1 rfl) fun sl hL => ?_
  exact I.step (ch := ch) hch (fun b o hL hb hc e n => u.keep b o e n (fun z => (List.mem_cons.mp (I.stkSub b z)).elim hL hb) hc) (fun b o _ _ hc e n => u.any e n hc) (fun b o hc e n => u.free b o e n hc) (fun b o hc e => u.there b o e hc) u.tups u.frzs u.tbls u.tabs (fun m' hm => by
    refine L2.o_EEEA (hm) fun o' es' ep' ho' r' => ?_
    rw [ho] at ho'; cases ho'
    exact ⟨_, es', ep', hL, r'⟩) hok hg
theorem Inv.turned {t' : Nat} {it : Addr} (I : Inv X pins σ H s) (k : ∀ b o, b ≠ it → s.heap.get? b = some o → h'.get? b = some o) (hn : H it = none) (hL : it ≠ X.env.locals)
    (h1 : it ∈ X.ex ∨ X.s₀.heap.objs.size ≤ it) (h2 : ∀ x c, X.env.cells.lookup x = some c → c ≠ it) (h3 : ∀ p ∈ X.pn ++ pins, p.1 ≠ it) : Inv X pins σ H { s with heap := h', toks := t' } := by
  have nit : ∀ b u, H b = some u → b ≠ it := fun b u e z => by rw [z, hn] at e; cases e
  refine I.step (g' := s.gens) (d' := s.drawn) (ch := [it]) (fun b hb => ?_) (fun b o _ _ hc e _ => k b o (fun z => hc (by simp [z])) e) (fun b o _ _ hc e _ => ⟨o.slots, k b o (fun z => hc (by simp [z])) e⟩) (fun _ _ _ _ n => n)
    (fun b o hc e => ⟨o, k b o (fun z => hc (by simp [z])) e⟩) (fun _ _ e => e) (fun _ _ _ e => e) (fun b ps e => ⟨#[], by rw [e]; simp⟩) (fun _ e => e) (fun m hm => ?_) (fun b u e => ?_) I.bare
  · have e : b = it := by simpa using hb
    subst e
    exact ⟨h1, hL, h2, h3⟩
  · refine L2.o_EEEA (hm) fun o es ep ho r => ?_
    exact L2.i_EEEA (o) (es) (ep) (k _ o (Ne.symm hL) ho) (r)
  · refine (I.hok b u e).stay (fun c v hc q => k c v ?_ q) (fun _ q => q) fun _ _ q => q
    rcases hc with z | z
    · rw [z]; exact nit b u e
    · exact nit c _ z
theorem Inv.tok (I : Inv X pins σ H s) (t : Nat) : Inv X pins σ H { s with toks := t } := I.un (h' := s.heap) (t' := t) Un.refl I.hok
theorem Inv.kept {t' : Nat} (I : Inv X pins σ H s) (k : ∀ b u, s.heap.get? b = some u → h'.get? b = some u) : Inv X pins σ H { s with heap := h', toks := t' } := I.un (Un.kept k) (I.hok.kept k)
theorem Inv.laid {a : Addr} {o : HO} {t' : Nat} (I : Inv X pins σ H s) (k : ∀ b u, s.heap.get? b = some u → h'.get? b = some u) (hp : s.heap.objs.size ≤ a) (new : ObjOk X.prog X.w (upd H a o) h' a o) :
    Inv X pins σ (upd H a o) { s with heap := h', toks := t' } := I.un (Un.laid k hp (I.hok.fresh hp)) (I.hok.laid k hp new)
theorem Inv.write {x e : Addr} {o : HO} {t' : Nat} (I : Inv X pins σ H s) (mu : Mut (H x)) (he : e = x ∨ H e = some (.own x)) (k : ∀ b u, b ≠ e → s.heap.get? b = some u → h'.get? b = some u) (heo : ∃ u, h'.get? e = some u)
    (new : ObjOk X.prog X.w (upd H x o) h' x o) : Inv X pins σ (upd H x o) { s with heap := h', toks := t' } := I.un (Un.write mu he k heo) (I.hok.write mu he k heo new)
theorem Inv.weak {σ' : List (Option V)} (I : Inv X pins σ H s) (hl : σ'.length = σ.length) (w : ∀ (i : Nat) v, σ'[i]? = some (some v) → σ[i]? = some (some v)) : Inv X pins σ' H s :=
  ⟨I.ok, I.os, I.bare, I.base, let ⟨m, hn, hl'⟩ := I.loc; ⟨m, hn, fun i x v e1 e2 e3 => hl' i x v e1 (w i v e2) e3⟩, I.cell, I.free, I.freeC, I.pin, I.hok, hl.trans I.len⟩
theorem Inv.pins_of {pins' : List (Addr × Obj)} (I : Inv X pins σ H s) (h : ∀ p ∈ pins', s.heap.get? p.1 = some p.2 ∧ H p.1 = none ∧ p.1 ≠ X.env.locals ∧ p.1 ∉ X.fs ∧ ∀ v, p.2.data ≠ .cell v) : Inv X pins' σ H s :=
  ⟨I.ok, I.os, I.bare, I.base, I.loc, I.cell, I.free, I.freeC, fun p hp => (List.mem_append.mp hp).elim (fun z => I.pin p (List.mem_append_left _ z)) (h p), I.hok, I.len⟩
theorem nodup_ix {N : List Str} (hN : N.Nodup) {i j : Nat} {x : Str} (a : N[i]? = some x) (b : N[j]? = some x) : i = j := by
  refine L2.o_E (List.getElem?_eq_some_iff.mp a) fun h1 e1 => ?_
  refine L2.o_E (List.getElem?_eq_some_iff.mp b) fun h2 e2 => ?_
  exact (List.getElem_inj hN).mp (e1.trans e2.symm)
theorem store_ok2 {M : Model} {A : Around} {E : Value → Shared → Prop} {i : Nat} {x : Str} {v : V} {u : Value} {Q : Unit → Shared → Prop} (I : Inv X pins σ H s) (hN : X.N.Nodup) (hi : X.N[i]? = some x) (hx : Loc X.env.scope x) (r : RelV v u)
    (h : ∀ s', Inv X pins (σ.set i (some v)) H s' → (∃ a, Heap.SameBut a s.heap s'.heap ∧ (a = X.env.locals ∨ X.env.cells.lookup x = some a)) → Q () s') (hf : X.fn x = true ∨ X.env.scope.names.lookup x = some .local := by first | exact .inl rfl | exact .inr rfl | assumption) : wpAny M A (storeName X.env x u) Q E s := by
  refine L2.o_EA (id I.loc) fun m hn hl => ?_
  have hcls : (X.env.scope.kind == .class || (X.env.scope.kind == .module && X.env.locals != X.env.globals)) = false := by rw [I.ok.kind]; rfl
  have hiσ : i < σ.length := by rw [I.len]; exact (List.getElem?_eq_some_iff.mp hi).1
  have cne := I.cne
  have tracked : ∀ {a : Addr} {h' : Heap}, (∃ o, s.heap.get? a = some o ∧ H a = none) → Heap.SameBut a s.heap h' → HOk X.prog X.w H h' := fun {a h'} ha hs b ob e => by
    refine L2.o_EA (ha) fun _ _ hfree => ?_
    refine (I.hok b ob e).stay (fun c w' hc q => (hs.2 c ?_).trans q) (fun _ q => q) fun _ _ q => q
    rintro rfl
    rcases hc with rfl | hc
    · rw [hfree] at e; cases e
    · rw [hfree] at hc; cases hc
  rcases hx with hk | hk
  · refine wpAny_storeName_local hk hn (fun h' hn' hs => ?_) hcls
    refine L2.o_EEEA (id hn) fun oL _ _ hoL _ => ?_
    refine h _ ⟨I.ok, I.os, I.bare, ⟨fun b o e n hb hx => ?_, fun b o e n hb hx => ?_, I.base.free, fun b o e hx => ?_, I.base.tups, I.base.frzs, I.base.tbls, I.base.tabs⟩, ⟨_, hn', fun j y v' e1 e2 e3 => ?_⟩, fun y c e => ?_, I.free, I.freeC, fun p hp => ?_, tracked ⟨oL, hoL, I.free⟩ hs, by simpa using I.len⟩ ⟨_, hs, .inl rfl⟩
    · exact (hs.2 b (Nat.ne_of_lt (Nat.lt_of_lt_of_le (Heap.lt_size e) I.ok.above))).trans (I.base.keep b o e n hb hx)
    · refine L2.o_E (I.base.slot b o e n hb hx) fun sl e1 => ?_
      exact ⟨sl, (hs.2 b (Nat.ne_of_lt (Nat.lt_of_lt_of_le (Heap.lt_size e) I.ok.above))).trans e1⟩
    · refine L2.o_E (I.base.there b o e hx) fun o' e1 => ?_
      exact ⟨o', (hs.2 b (Nat.ne_of_lt (Nat.lt_of_lt_of_le (Heap.lt_size e) I.ok.above))).trans e1⟩
    · by_cases hj : j = i
      · subst hj
        rw [hi] at e1; cases e1
        rw [List.getElem?_set_self hiσ] at e2
        cases e2
        exact ⟨u, r, .inl ⟨hk, by simp⟩⟩
      · rw [List.getElem?_set_ne (Ne.symm hj)] at e2
        refine L2.o_EA (hl j y v' e1 e2 e3) fun u' r' q => ?_
        refine ⟨u', r', ?_⟩
        rcases q with ⟨k, e⟩ | ⟨k, c, e, z⟩
        · refine .inl ⟨k, ?_⟩
          have : y ≠ x := fun e => hj (nodup_ix hN e1 (e ▸ hi))
          simp [this, e]
        · exact .inr ⟨k, c, e, z.sameBut hs (cne y c e)⟩
    · refine L2.o_E (I.cell y c e) fun w' z => ?_
      exact ⟨w', z.sameBut hs (cne y c e)⟩
    · refine L2.o_AAAA (I.pin p hp) fun e n ne nf d => ?_
      exact ⟨(hs.2 p.1 ne).trans e, n, ne, nf, d⟩
  · have hfn : X.fn x = true := by
      rcases hf with z | z
      · exact z
      · rw [z] at hk; cases hk
    refine L2.o_E (I.ok.has x (.inl hk)) fun c hc => ?_
    refine L2.o_E (I.cell x c hc) fun w' z => ?_
    refine wpAny_storeName_cell I.ok.kind hk hc z (fun h' hc' hs => ?_)
    refine L2.o_EA (id z) fun oc hoc hocd => ?_
    refine h { s with heap := h' } ⟨I.ok, I.os, I.bare, ⟨fun b o e n hb hx => ?_, fun b o e n hb hx => ?_, I.base.free, fun b o e hx => ?_, I.base.tups, I.base.frzs, I.base.tbls, I.base.tabs⟩, ⟨m, hn.sameBut hs (Ne.symm (cne x c hc)), fun j y v' e1 e2 e3 => ?_⟩, fun y c' e => ?_, I.free, I.freeC, fun p hp => ?_, tracked ⟨oc, hoc, (I.freeC x c hc).resolve_right fun z => by have z1 := z.1; rw [hfn] at z1; cases z1⟩ hs, by simpa using I.len⟩ ⟨c, hs, .inr hc⟩
    · exact (hs.2 b (Nat.ne_of_lt (Nat.lt_of_lt_of_le (Heap.lt_size e) (I.ok.cab x c hfn hc)))).trans (I.base.keep b o e n hb hx)
    · refine L2.o_E (I.base.slot b o e n hb hx) fun sl e1 => ?_
      exact ⟨sl, (hs.2 b (Nat.ne_of_lt (Nat.lt_of_lt_of_le (Heap.lt_size e) (I.ok.cab x c hfn hc)))).trans e1⟩
    · refine L2.o_E (I.base.there b o e hx) fun o' e1 => ?_
      exact ⟨o', (hs.2 b (Nat.ne_of_lt (Nat.lt_of_lt_of_le (Heap.lt_size e) (I.ok.cab x c hfn hc)))).trans e1⟩
    · by_cases hj : j = i
      · subst hj
        rw [hi] at e1; cases e1
        rw [List.getElem?_set_self hiσ] at e2
        cases e2
        exact ⟨u, r, .inr ⟨.inl hk, c, hc, hc'⟩⟩
      · rw [List.getElem?_set_ne (Ne.symm hj)] at e2
        refine L2.o_EA (hl j y v' e1 e2 e3) fun u' r' q => ?_
        refine ⟨u', r', ?_⟩
        rcases q with q | ⟨k, c', e, z'⟩
        · exact .inl q
        · refine .inr ⟨k, c', e, z'.sameBut hs ?_⟩
          rintro rfl
          exact hj (nodup_ix hN e1 (I.ok.inj _ _ _ e hc ▸ hi))
    · by_cases hcc : c' = c
      · subst hcc; exact ⟨_, hc'⟩
      · refine L2.o_E (I.cell y c' e) fun w2 z2 => ?_
        exact ⟨w2, z2.sameBut hs hcc⟩
    · refine L2.o_AAAA (I.pin p hp) fun e n ne nf d => ?_
      refine ⟨(hs.2 p.1 ?_).trans e, n, ne, nf, d⟩
      intro q
      rw [q, hoc] at e
      have q' : oc = p.2 := Option.some.inj e
      exact d w' (by rw [← q']; exact hocd)
theorem store_ok {M : Model} {A : Around} {E : Value → Shared → Prop} {i : Nat} {x : Str} {v : V} {u : Value} {Q : Unit → Shared → Prop} (I : Inv X pins σ H s) (hN : X.N.Nodup) (hi : X.N[i]? = some x) (hx : Loc X.env.scope x) (r : RelV v u)
    (h : ∀ s', Inv X pins (σ.set i (some v)) H s' → Q () s') (hf : X.fn x = true ∨ X.env.scope.names.lookup x = some .local := by first | exact .inl rfl | exact .inr rfl | assumption) : wpAny M A (storeName X.env x u) Q E s :=
  store_ok2 I hN hi hx r (fun s' I' _ => h s' I') hf
theorem Inv.call' {s' : Shared} {ch : List Addr} (I : Inv X pins σ H s) (ho : s'.os = s.os) (u : Un (frs X.stack) ch H H' s.heap s'.heap) (hok : HOk X.prog X.w H' s'.heap) (hg : AllBare s'.gens)
    (hch : ∀ b ∈ ch, (b ∈ X.ex ∨ X.s₀.heap.objs.size ≤ b) ∧ b ≠ X.env.locals ∧ (∀ x c, X.env.cells.lookup x = some c → c ≠ b) ∧ ∀ p ∈ X.pn ++ pins, p.1 ≠ b) : Inv X pins σ H' s' := by
  obtain ⟨h', g', d', t', o'⟩ := s'
  have e : o' = s.os := ho
  subst e
  exact I.call (g' := g') (t' := t') (d' := d') u hok hg hch
end
noncomputable abbrev XK := Value → Option Addr → Hp → Prop
noncomputable abbrev St := List (Option V)
noncomputable abbrev VK := V → Hp → Prop
noncomputable abbrev TE := St → Hp → VK → Prop
noncomputable abbrev TT := St → Hp → (Bool → Hp → Prop) → Prop
noncomputable abbrev TA := St → Hp → (List V → Hp → Prop) → Prop
structure Ends where
  nx : St → Hp → Prop
  rt : VK
  bk : St → Hp → Prop := fun _ _ => False
  ct : St → Hp → Prop := fun _ _ => False
noncomputable abbrev TS := Ends → St → Hp → Prop
inductive EP (X : Cx) (pins : List (Addr × Obj)) (σ : St) (Q : VK) (u : Value) (s' : Shared) : Prop
  | mk (v : V) (H' : Hp) (I : Inv X pins σ H' s') (r : RelV v u) (q : Q v H') : EP X pins σ Q u s'
inductive TP (X : Cx) (pins : List (Addr × Obj)) (σ : St) (Q : Bool → Hp → Prop) (b : Bool) (s' : Shared) : Prop
  | mk (H' : Hp) (I : Inv X pins σ H' s') (q : Q b H') : TP X pins σ Q b s'
theorem TP.elim {X : Cx} {pins : List (Addr × Obj)} {σ : St} {Q : Bool → Hp → Prop} {b : Bool} {s' : Shared} {P : Prop} (h : TP X pins σ Q b s') (k : ∀ H', Inv X pins σ H' s' → Q b H' → P) : P := by cases h with | mk H' I q => exact k H' I q
inductive AP (X : Cx) (pins : List (Addr × Obj)) (σ : St) (Q : List V → Hp → Prop) (us : List Value) (s' : Shared) : Prop
  | mk (vs : List V) (H' : Hp) (I : Inv X pins σ H' s') (r : Vals vs us) (q : Q vs H') : AP X pins σ Q us s'
noncomputable def SP (X : Cx) (pins : List (Addr × Obj)) (D : Ends) (f : Flow) (s' : Shared) : Prop :=
  match f with
  | .next => ∃ σ' H', Inv X pins σ' H' s' ∧ D.nx σ' H'
  | .brk => ∃ σ' H', Inv X pins σ' H' s' ∧ D.bk σ' H'
  | .cont => ∃ σ' H', Inv X pins σ' H' s' ∧ D.ct σ' H'
  | .ret u => ∃ v σ' H', Inv X pins σ' H' s' ∧ RelV v u ∧ D.rt v H'
noncomputable def PE (X : Cx) (e : Expr) (t : TE) : Prop :=
  ∀ (pins : List (Addr × Obj)) (s : Shared) (σ : St) (H : Hp) (Q : VK), Inv X pins σ H s → t σ H Q → wpAny (model X.prog X.w) X.A (eval e X.env) (EP X pins σ Q) X.xe s
noncomputable def PT (X : Cx) (e : Expr) (t : TT) : Prop :=
  ∀ (pins : List (Addr × Obj)) (s : Shared) (σ : St) (H : Hp) (Q : Bool → Hp → Prop), Inv X pins σ H s → t σ H Q → wpAny (model X.prog X.w) X.A (isTrue e X.env (eval e X.env)) (TP X pins σ Q) X.xe s
noncomputable def PW (X : Cx) (e : Expr) (t : TT) : Prop :=
  ∀ (whole : Sem Value) (pins : List (Addr × Obj)) (s : Shared) (σ : St) (H : Hp) (Q : Bool → Hp → Prop), Inv X pins σ H s → t σ H Q → wpAny (model X.prog X.w) X.A (isTrue e X.env whole) (TP X pins σ Q) X.xe s
theorem PW.pt {X : Cx} {e : Expr} {t : TT} (h : PW X e t) : PT X e t := h _
noncomputable def PA (X : Cx) (es : List Expr) (t : TA) : Prop :=
  ∀ (pos : Pos) (pins : List (Addr × Obj)) (s : Shared) (σ : St) (H : Hp) (Q : List V → Hp → Prop), Inv X pins σ H s → t σ H Q → wpAny (model X.prog X.w) X.A (spliced (backTo pos (starEach es X.env))) (AP X pins σ Q) X.xe s
noncomputable def PS (X : Cx) (st : Stmt) (t : TS) : Prop :=
  ∀ (pins : List (Addr × Obj)) (s : Shared) (σ : St) (H : Hp) (D : Ends), Inv X pins σ H s → t D σ H → wpAny (model X.prog X.w) X.A (exec st X.env) (SP X pins D) X.xe s
noncomputable def PSs (X : Cx) (st : List Stmt) (t : TS) : Prop :=
  ∀ (pins : List (Addr × Obj)) (s : Shared) (σ : St) (H : Hp) (D : Ends), Inv X pins σ H s → t D σ H → wpAny (model X.prog X.w) X.A (execs st X.env) (SP X pins D) X.xe s
theorem thn {α : Type} {t : Sem α} {Q Q' : α → Shared → Prop} {M : Model} {A : Around} {E : Value → Shared → Prop} {s : Shared} (h : wpAny M A t Q E s) (hQ : ∀ a s, Q a s → Q' a s) : wpAny M A t Q' E s := wpAny_mono h hQ fun _ _ x => x
end L2
namespace L2
open PySem PySem.Spec PyProof.Rows
section
variable {X : Cx}
noncomputable def tVar (i : Nat) : TE := fun σ H Q => ∃ v, σ[i]? = some (some v) ∧ Q v H
noncomputable def tC (v : V) : TE := fun _ H Q => Q v H
theorem pe_var {i : Nat} {x : Str} {pos : Pos} (hN : X.N[i]? = some x) (hv : Vis X.env.scope x) (hd : (x == ("__debug__" : Str)) = false := by decide) (hcd : (x == ("__classdict__" : Str)) = false := by decide) : PE X (.Name x pos) (tVar i) := by
  intro pins s σ H Q I h
  revert h
  refine fun zqq => L2.o_EA zqq fun v e h => ?_
  clear zqq
  refine L2.o_EA (I.loc) fun m hn hl => ?_
  refine L2.o_EA (hl i x v hN e hv) fun u r l => ?_
  have fin : EP X pins σ Q u s := ⟨v, H, I, r, h⟩
  rcases l with ⟨hk, hm⟩ | ⟨hk, c, hc, hcell⟩
  · exact wpAny_Name (wpAny_loadName_local I.ok.kind hk hn hm fin) hd
  · rcases hk with hk | hk
    · exact wpAny_Name (wpAny_loadName_cell I.ok.kind hk hc hcell fin) hd
    · exact wpAny_Name (wpAny_loadName_free I.ok.kind hk hc hcell fin hcd) hd
theorem pe_int {i j pos} : PE X (.Constant (.int i) j pos) (tC (.int i)) := fun _ _ _ H _ I h => wpAny_Constant_int ⟨.int i, H, I.tok _, ⟨_, rfl⟩, h⟩
theorem pe_bl {b j pos} : PE X (.Constant (.bool b) j pos) (tC (.bl b)) := fun _ _ _ H _ I h => Constant_bool ⟨.bl b, H, I, rfl, h⟩
theorem pe_non {j pos} : PE X (.Constant .none j pos) (tC .non) := fun _ _ _ H _ I h => Constant_none ⟨.non, H, I, rfl, h⟩
theorem pe_str {x j pos} : PE X (.Constant (.str x) j pos) (tC (.str x)) := fun _ _ _ H _ I h => Calls.Constant_str ⟨.str x, H, I.tok _, ⟨_, rfl⟩, h⟩
noncomputable def Gl (X : Cx) (x : Str) : Prop := X.env.kindOf x = some .globalImplicit
theorem ld_glob {E : Value → Shared → Prop} {pins : List (Addr × Obj)} {s : Shared} {σ : St} {H : Hp} {x : Str} {u : Value} {pos : Pos} {Q : Value → Shared → Prop} (I : Inv X pins σ H s) (hg : Gl X x) (hm : X.mg x = some u) (h : Q u s)
    (hd : (x == ("__debug__" : Str)) = false := by decide) : wpAny (model X.prog X.w) X.A (eval (.Name x pos) X.env) Q E s :=
  Calls.Name_function_global I.ok.kind hg (Calls.loadGlobal_global (by rw [I.ok.glob]; exact I.mod.glob.keeps I.bk) hm h) hd
theorem ld_blt {E : Value → Shared → Prop} {pins : List (Addr × Obj)} {s : Shared} {σ : St} {H : Hp} {x : Str} {u : Value} {pos : Pos} {Q : Value → Shared → Prop} (I : Inv X pins σ H s) (hg : Gl X x) (hm : X.mg x = none) (hv : bootBuiltins x = some u) (h : Q u s)
    (hn : x ≠ "__name__" := by decide) (hd : (x == ("__debug__" : Str)) = false := by decide) : wpAny (model X.prog X.w) X.A (eval (.Name x pos) X.env) Q E s := by
  refine L2.o_EA (I.mod.blt) fun mb h1 h2 => ?_
  exact Calls.Name_function_global I.ok.kind hg (Calls.loadGlobal_builtin (by rw [I.ok.glob]; exact I.mod.glob.keeps I.bk) hm (by rw [I.ok.blt]; exact h1.keeps I.bk) ((h2 x hn).trans hv) h) hd
theorem pe_glob {x : Str} {v : V} {u : Value} {pos : Pos} (hg : Gl X x) (hm : X.mg x = some u) (r : RelV v u) (hd : (x == ("__debug__" : Str)) = false := by decide) : PE X (.Name x pos) (tC v) :=
  fun _ _ _ H _ I h => ld_glob I hg hm ⟨v, H, I, r, h⟩ hd
theorem pe_bltn {x : Str} {v : V} {u : Value} {pos : Pos} (hg : Gl X x) (hm : X.mg x = none) (hv : bootBuiltins x = some u) (r : RelV v u) (hn : x ≠ "__name__" := by decide) (hd : (x == ("__debug__" : Str)) = false := by decide) : PE X (.Name x pos) (tC v) :=
  fun _ _ _ H _ I h => ld_blt I hg hm hv ⟨v, H, I, r, h⟩ hn hd
noncomputable def t2I (ta tb : TE) (k : Int → Int → Hp → Prop) : St → Hp → Prop := fun σ H => ta σ H fun x H1 => tb σ H1 fun y H2 => ∃ i j, x = .int i ∧ y = .int j ∧ k i j H2
variable {a b : Expr} {ta tb : TE} {pos : Pos}
noncomputable def PC (X : Cx) (op : CmpOp) (a b : Expr) (t : TE) : Prop :=
  ∀ (pins : List (Addr × Obj)) (s : Shared) (σ : St) (H : Hp) (Q : VK), Inv X pins σ H s → t σ H Q →
    wpAny (model X.prog X.w) X.A (eval a X.env) (fun v s₁ => wpAny (model X.prog X.w) X.A (eval b X.env) (fun u s₂ => wpAny (model X.prog X.w) X.A (compareOp op v u) (EP X pins σ Q) X.xe s₂) X.xe s₁) X.xe s
noncomputable def tCmp (p : Int → Int → Bool) (ta tb : TE) : TE := fun σ H Q => t2I ta tb (fun i j H2 => Q (.bl (p i j)) H2) σ H
noncomputable abbrev tLt : TE → TE → TE := tCmp fun i j => decide (i < j)
noncomputable abbrev tLe : TE → TE → TE := tCmp fun i j => decide (i ≤ j)
noncomputable abbrev tGt : TE → TE → TE := tCmp fun i j => decide (j < i)
noncomputable abbrev tGe : TE → TE → TE := tCmp fun i j => decide (j ≤ i)
noncomputable abbrev tEqI : TE → TE → TE := tCmp fun i j => decide (i = j)
noncomputable abbrev tNeI : TE → TE → TE := tCmp fun i j => !decide (i = j)
noncomputable def tB (t : TE) : TT := fun σ H Q => t σ H fun x H1 => ∃ c, x = .bl c ∧ Q c H1
theorem pt_val {e : Expr} {t : TE} (h : PE X e t) (he : ∀ whole, isTrue e X.env whole = (do let v ← whole; standAt e.pos; holding [v] (truthy v)) := by intro _; rfl) : PT X e (tB t) := by
  intro pins s σ H Q I hw
  refine isTrue_plain (thn (h pins s σ H _ I hw) fun v s1 ⟨x, H1, I1, r1, q1⟩ => ?_) (he _)
  revert q1
  refine fun zqq => L2.o_EA zqq fun d zq1 q => ?_
  clear zqq
  subst zq1
  cases r1
  exact wpAny_truthy_bool ⟨H1, I1, q⟩
variable {tA tB' : TT} {rest : List Expr}
noncomputable def tOr (t u : TT) : TT := fun σ H Q => t σ H fun c H1 => if c = true then Q true H1 else u σ H1 Q
noncomputable def tNot (t : TT) : TT := fun σ H Q => t σ H fun c H1 => Q (!c) H1
theorem pw_or1 (ha : PT X a tA) : PW X (.BoolOp .Or [a] pos) tA := by
  intro wh pins s σ H Q I h
  refine isTrue_or (thn (ha pins s σ H Q I h) fun c s1 e => ?_)
  cases c with
  | false => exact isTrue_or_nil e
  | true => exact e
theorem pw_or (ha : PT X a tA) (hb : PW X (.BoolOp .Or (b :: rest) pos) tB') : PW X (.BoolOp .Or (a :: b :: rest) pos) (tOr tA tB') := by
  intro wh pins s σ H Q I h
  refine isTrue_or (thn (ha pins s σ H _ I h) fun c s1 zpat => ?_)
  obtain ⟨H1, I1, q1⟩ := zpat
  cases c with
  | true => exact ⟨H1, I1, q1⟩
  | false => exact hb wh pins s1 σ H1 Q I1 q1
theorem pt_not (ha : PT X a tA) : PT X (.UnaryOp .Not a pos) (tNot tA) := by
  intro pins s σ H Q I h
  exact isTrue_not (wpAny_mono (ha pins s σ H (fun c H1 => Q (!c) H1) I h) (fun c s' q => q.elim fun H' I' q' => ⟨H', I', q'⟩) fun _ _ z => z)
noncomputable def tAndV (ta tb : TE) : TE := fun σ H Q => ta σ H fun x H1 => ∃ c, x = .bl c ∧ if c = true then tb σ H1 Q else Q (.bl false) H1
noncomputable def tNotV (ta : TE) : TE := fun σ H Q => ta σ H fun x H1 => ∃ c, x = .bl c ∧ Q (.bl (!c)) H1
theorem pe_one {op} {t : TE} (h : PE X a t) : PE X (.BoolOp op [a] pos) t := fun pins s σ H Q I hw => BoolOp_one (h pins s σ H Q I hw)
theorem pe_and (ha : PE X a ta) (hb : PE X (.BoolOp .And (b :: rest) pos) tb) : PE X (.BoolOp .And (a :: b :: rest) pos) (tAndV ta tb) := by
  intro pins s σ H Q I h
  refine BoolOp_and (thn (ha pins s σ H _ I h) fun v s1 zpat => ?_)
  obtain ⟨x, H1, I1, r1, q1⟩ := zpat
  revert q1
  refine fun zqq => L2.o_EA zqq fun c zq1 q1 => ?_
  clear zqq
  subst zq1
  cases r1
  refine wpAny_truthy_bool ?_
  cases c with
  | true => exact hb pins s1 σ H1 Q I1 q1
  | false => exact ⟨.bl false, H1, I1, rfl, q1⟩
theorem pe_not (ha : PE X a ta) : PE X (.UnaryOp .Not a pos) (tNotV ta) := by
  intro pins s σ H Q I h
  refine UnaryOp_ (thn (ha pins s σ H _ I h) fun v s1 zpat => ?_)
  obtain ⟨x, H1, I1, r1, q1⟩ := zpat
  revert q1
  refine fun zqq => L2.o_EA zqq fun c zq1 q1 => ?_
  clear zqq
  subst zq1
  cases r1
  exact not_of (wpAny_truthy_bool ⟨.bl (!c), H1, I1, rfl, q1⟩)
noncomputable def tIf (t : TT) (ta tb : TE) : TE := fun σ H Q => t σ H fun c H1 => if c = true then ta σ H1 Q else tb σ H1 Q
theorem pe_ifExp {c : Expr} (hc : PT X c tA) (ha : PE X a ta) (hb : PE X b tb) : PE X (.IfExp c a b pos) (tIf tA ta tb) := by
  intro pins s σ H Q I h
  refine wpAny_IfExp (thn (hc pins s σ H _ I h) fun d s1 zpat => ?_)
  obtain ⟨H1, I1, q1⟩ := zpat
  cases d with
  | true => exact ha pins s1 σ H1 Q I1 q1
  | false => exact hb pins s1 σ H1 Q I1 q1
end
end L2
namespace L2
open PySem PySem.Spec PyProof.Rows
noncomputable def SqL (K : PySem.W.Frag) (H : Hp) (a : Addr) (xs : List V) : Prop :=
  Rd H a (.lst xs) ∨
    ∃ (o : Obj) (its : Array Value) (n : Nat), K.lookup a = some o ∧ o.cls = .type "list" ∧ o.dict = none ∧ o.data = .seq its n ∧ its.size ≤ sizeLine ∧ Vals xs its.toList
noncomputable def SqT (K : PySem.W.Frag) (H : Hp) (a : Addr) (xs : List V) : Prop :=
  Rd H a (.tup xs) ∨
    ∃ (o : Obj) (its : Array Value) (n : Nat), K.lookup a = some o ∧ o.cls = .type "tuple" ∧ o.data = .seq its n ∧ its.size ≤ sizeLine ∧ Vals xs its.toList
noncomputable def absV : Value → Option V
  | .none => some .non
  | .bool b => some (.bl b)
  | .int i _ => some (.int i)
  | .str x _ => some (.str x)
  | .bytes b _ => some (.byt b)
  | .float b _ => some (.flt b)
  | .ref a => some (.ref a)
  | .type n => some (.ty n)
  | _ => none
theorem RelV.abs {x : V} {u : Value} (r : RelV x u) : absV u = some x := by
  cases x with
  | non => cases r; rfl
  | bl _ => cases r; rfl
  | int _ => obtain ⟨t, rfl⟩ := r; rfl
  | str _ => obtain ⟨t, rfl⟩ := r; rfl
  | byt _ => obtain ⟨t, rfl⟩ := r; rfl
  | flt _ => obtain ⟨t, rfl⟩ := r; rfl
  | ref _ => cases r; rfl
  | ty _ => cases r; rfl
theorem RelV.inj {x y : V} {u : Value} (r : RelV x u) (q : RelV y u) : x = y := Option.some.inj (r.abs.symm.trans q.abs)
theorem Vals.inj {xs ys : List V} {us : List Value} (h : Vals xs us) (h' : Vals ys us) : xs = ys := by
  induction h generalizing ys with
  | nil => cases h'; rfl
  | cons r t ih =>
    cases h' with
    | cons r' t' => rw [r.inj r', ih t']
section
variable {X : Cx} {pins : List (Addr × Obj)} {σ : St} {H : Hp} {s : Shared} {a : Addr} {xs ys : List V}
theorem SqL.of {K : PySem.W.Frag} (h : H a = some (.lst xs)) : SqL K H a xs := .inl (.inl h)
theorem SqT.of {K : PySem.W.Frag} (h : H a = some (.tup xs)) : SqT K H a xs := .inl (.inl h)
theorem Inv.list (I : Inv X pins σ H s) (h : SqL X.K H a xs) : ∃ its : List Value, Vals xs its ∧ PlainL s.heap a its.toArray ∧ xs.length ≤ sizeLine := by
  rcases h with h | ⟨o, its, n, hk, hc, hd, hs, hz, r⟩
  · refine L2.o_AEEA (h.ok I.hok) fun z its n r e => ?_
    exact ⟨its, r, ⟨_, n, e, rfl, rfl, rfl⟩, z⟩
  · refine ⟨its.toList, r, ⟨o, n, I.kIn a o hk, hc, hd, by simpa using hs⟩, ?_⟩
    have e := r.length
    simp only [Array.length_toList] at e
    omega
theorem Inv.tuple (I : Inv X pins σ H s) (h : SqT X.K H a xs) : ∃ its : List Value, Vals xs its ∧ IsTup s.heap a its.toArray ∧ xs.length ≤ sizeLine := by
  rcases h with h | ⟨o, its, n, hk, hc, hs, hz, r⟩
  · refine L2.o_AEA (h.ok I.hok) fun z its r p => ?_
    exact ⟨its, r, p, z⟩
  · refine ⟨its.toList, r, ⟨o, I.kIn a o hk, hc, n, by simpa using hs⟩, ?_⟩
    have e := r.length
    simp only [Array.length_toList] at e
    omega
theorem Inv.list_inj (I : Inv X pins σ H s) (h : SqL X.K H a xs) (h' : SqL X.K H a ys) : xs = ys := by
  obtain ⟨its, r, ⟨o, n, e, _, _, d⟩, _⟩ := I.list h
  obtain ⟨its', r', ⟨o', n', e', _, _, d'⟩, _⟩ := I.list h'
  rw [e] at e'; cases e'
  rw [d] at d'
  injection d' with d1 _
  have : its = its' := by simpa using congrArg Array.toList d1
  subst this
  exact r.inj r'
end
noncomputable abbrev Cx.wish (X : Cx) (E : Value → Shared → Prop) : Cx := { X with xe := E }
noncomputable abbrev Cx.nox (X : Cx) : Cx := X.wish fun _ _ => False
theorem Cx.Ok.wish {X : Cx} (ok : X.Ok) (E : Value → Shared → Prop) : (X.wish E).Ok :=
  ⟨ok.mod, ok.kind, ok.glob, ok.blt, ok.above, ok.inj, ok.has, ok.cab, ok.hd, ok.frames, ok.stk, ok.exf, ok.bs, ok.bsz, ok.noex, ok.exfs, ok.funs, ok.frf, ok.tabs⟩
theorem Cx.Ok.unwish {X : Cx} {E : Value → Shared → Prop} (ok : (X.wish E).Ok) : X.Ok :=
  ⟨ok.mod, ok.kind, ok.glob, ok.blt, ok.above, ok.inj, ok.has, ok.cab, ok.hd, ok.frames, ok.stk, ok.exf, ok.bs, ok.bsz, ok.noex, ok.exfs, ok.funs, ok.frf, ok.tabs⟩
section
variable {X : Cx} {pins : List (Addr × Obj)} {σ : St} {H : Hp} {s : Shared} {E : Value → Shared → Prop}
theorem Inv.wish (I : Inv X pins σ H s) (E : Value → Shared → Prop) : Inv (X.wish E) pins σ H s := ⟨I.ok.wish E, I.os, I.bare, I.base, I.loc, I.cell, I.free, I.freeC, I.pin, I.hok, I.len⟩
theorem Inv.unwish (I : Inv (X.wish E) pins σ H s) : Inv X pins σ H s := ⟨I.ok.unwish, I.os, I.bare, I.base, I.loc, I.cell, I.free, I.freeC, I.pin, I.hok, I.len⟩
theorem SP.unwish {D : Ends} {f : Flow} {s' : Shared} (h : SP (X.wish E) pins D f s') : SP X pins D f s' := by
  cases f with
  | next => obtain ⟨σ', H', I, q⟩ := h; exact ⟨σ', H', I.unwish, q⟩
  | brk => obtain ⟨σ', H', I, q⟩ := h; exact ⟨σ', H', I.unwish, q⟩
  | cont => obtain ⟨σ', H', I, q⟩ := h; exact ⟨σ', H', I.unwish, q⟩
  | ret u => obtain ⟨v, σ', H', I, r, q⟩ := h; exact ⟨v, σ', H', I.unwish, r, q⟩
theorem PE.nox {e : Expr} {t : TE} (h : PE X.nox e t) : PE X e t := fun pins s σ H Q I hw =>
  wpAny_mono (h pins s σ H Q (I.wish _) hw) (fun _ _ ⟨v, H', I', r, q⟩ => ⟨v, H', I'.unwish, r, q⟩) fun _ _ z => False.elim z
theorem PT.nox {e : Expr} {t : TT} (h : PT X.nox e t) : PT X e t := fun pins s σ H Q I hw =>
  wpAny_mono (h pins s σ H Q (I.wish _) hw) (fun _ _ ⟨H', I', q⟩ => ⟨H', I'.unwish, q⟩) fun _ _ z => False.elim z
theorem PSs.nox {st : List Stmt} {t : TS} (h : PSs X.nox st t) : PSs X st t := fun pins s σ H D I hw =>
  wpAny_mono (h pins s σ H D (I.wish _) hw) (fun _ _ q => q.unwish) fun _ _ z => False.elim z
end
section
variable {X : Cx} {st : Stmt} {rest : List Stmt} {t u : TS} {e : Expr} {te : TE} {pos : Pos}
noncomputable def tNext : TS := fun D σ H => D.nx σ H
noncomputable def tSeq (t u : TS) : TS := fun D σ H => t { D with nx := u D } σ H
theorem pss_nil : PSs X [] tNext := fun _ _ σ H _ I h => wpAny_execs_nil ⟨σ, H, I, h⟩
theorem pss_cons (h1 : PS X st t) (h2 : PSs X rest u) : PSs X (st :: rest) (tSeq t u) := by
  intro pins s σ H D I h
  refine wpAny_execs_cons (thn (h1 pins s σ H { D with nx := u D } I h) fun f s1 q => ?_)
  cases f with
  | next =>
    revert q
    refine fun zqq => L2.o_EEA zqq fun σ' H' I' q => ?_
    clear zqq
    exact h2 pins s1 σ' H' D I' q
  | ret v => exact q
  | brk => exact q
  | cont => exact q
theorem pss_one (h1 : PS X st t) : PSs X [st] t := by
  intro pins s σ H D I h
  refine wpAny_execs_cons (thn (h1 pins s σ H D I h) fun f s1 q => ?_)
  cases f with
  | next => exact wpAny_execs_nil q
  | ret v => exact q
  | brk => exact q
  | cont => exact q
theorem Inv.quiet {pins : List (Addr × Obj)} {σ : St} {H : Hp} {s : Shared} (I : Inv X pins σ H s) : interactive X.env = false := by simp [interactive, I.ok.kind]
noncomputable def tDrop (te : TE) : TS := fun D σ H => te σ H fun _ H1 => D.nx σ H1
theorem ps_expr (he : PE X e te) (hs : swapsWith e none pos.line X.env = pure false := by rfl) : PS X (.Expr e pos) (tDrop te) := by
  intro pins s σ H D I h
  exact wpAny_Expr_any (thn (he pins s σ H _ I h) fun v s1 ⟨x, H1, I1, r1, q1⟩ => ⟨σ, H1, I1, q1⟩) I.quiet hs
noncomputable def tRet (te : TE) : TS := fun D σ H => te σ H D.rt
theorem ps_ret (he : PE X e te) : PS X (.Return (some e) pos) (tRet te) := by
  intro pins s σ H D I h
  exact wpAny_Return_some (thn (he pins s σ H _ I h) fun v s1 ⟨x, H1, I1, r1, q1⟩ => ⟨x, σ, H1, I1, r1, q1⟩)
noncomputable def tIfS (c : TT) (t u : TS) : TS := fun D σ H => c σ H fun b H1 => if b = true then t D σ H1 else u D σ H1
theorem ps_if {c : Expr} {a b : List Stmt} {tc : TT} (hc : PT X c tc) (ha : PSs X a t) (hb : PSs X b u) : PS X (.If c a b pos) (tIfS tc t u) := by
  intro pins s σ H D I h
  refine wpAny_If (thn (hc pins s σ H _ I h) fun d s1 zpat => ?_)
  obtain ⟨H1, I1, q1⟩ := zpat
  cases d with
  | true => exact ha pins s1 σ H1 D I1 q1
  | false => exact hb pins s1 σ H1 D I1 q1
noncomputable def tNever : TS := fun _ _ _ => False
theorem ps_never : PS X st tNever := fun _ _ _ _ _ _ h => h.elim
end
noncomputable abbrev TG := V → St → Hp → (St → Hp → Prop) → Prop
noncomputable abbrev TGs := List V → St → Hp → (St → Hp → Prop) → Prop
noncomputable def PG (X : Cx) (target : Expr) (t : TG) : Prop :=
  ∀ (pins : List (Addr × Obj)) (s : Shared) (σ : St) (H : Hp) (v : V) (u : Value) (Q : St → Hp → Prop), Inv X pins σ H s → RelV v u → t v σ H Q →
    wpAny (model X.prog X.w) X.A (assign target X.env u) (fun _ s' => ∃ σ' H', Inv X pins σ' H' s' ∧ Q σ' H') X.xe s
noncomputable def PGs (X : Cx) (ts : List Expr) (t : TGs) : Prop :=
  ∀ (pins : List (Addr × Obj)) (s : Shared) (σ : St) (H : Hp) (vs : List V) (us : List Value) (Q : St → Hp → Prop), Inv X pins σ H s → Vals vs us → t vs σ H Q →
    wpAny (model X.prog X.w) X.A (assignInOrder ((assignEach ts X.env).map (·.2)) us) (fun _ s' => ∃ σ' H', Inv X pins σ' H' s' ∧ Q σ' H') X.xe s
noncomputable abbrev TSet := V → V → V → Hp → (Hp → Prop) → Prop
noncomputable def PSet (X : Cx) (t : TSet) : Prop :=
  ∀ (pins : List (Addr × Obj)) (s : Shared) (σ : St) (H : Hp) (o i v : V) (ov iv u : Value) (Q : Hp → Prop), Inv X pins σ H s → RelV o ov → RelV i iv → RelV v u → t o i v H Q →
    wpAny (model X.prog X.w) X.A (setItem ov iv u) (fun _ s' => ∃ H', Inv X pins σ H' s' ∧ Q H') X.xe s
noncomputable abbrev TIp := V → V → Hp → VK → Prop
section
variable {X : Cx} {pos : Pos}
noncomputable def gName (i : Nat) : TG := fun v σ H Q => Q (σ.set i (some v)) H
theorem pg_name {i : Nat} {x : Str} (hN : X.N.Nodup) (hi : X.N[i]? = some x) (hx : Loc X.env.scope x) (hf : X.fn x = true ∨ X.env.scope.names.lookup x = some .local := by first | exact .inl rfl | exact .inr rfl | assumption) : PG X (.Name x pos) (gName i) := by
  intro pins s σ H v u Q I r h
  exact wpAny_assign_Name (store_ok I hN hi hx r (fun s' I' => ⟨_, H, I', h⟩) hf)
noncomputable def gNil : TGs := fun vs σ H Q => vs = [] ∧ Q σ H
noncomputable def gCons (t : TG) (u : TGs) : TGs := fun vs σ H Q => ∃ v r, vs = v :: r ∧ t v σ H fun σ' H' => u r σ' H' Q
theorem pgs_nil : PGs X [] gNil := by
  intro pins s σ H vs us Q I r h
  revert h
  refine fun zqq => L2.o_A zqq fun e h => ?_
  clear zqq
  subst e
  cases r
  exact assignInOrder_nil ⟨σ, H, I, h⟩
theorem pgs_cons {e : Expr} {es : List Expr} {t : TG} {u : TGs} (h1 : PG X e t) (h2 : PGs X es u)
    (hs : (assignEach (e :: es) X.env).map (·.2) = assign e X.env :: (assignEach es X.env).map (·.2) := by rfl) : PGs X (e :: es) (gCons t u) := by
  intro pins s σ H vs us Q I r h
  revert h
  refine fun zqq => L2.o_EEA zqq fun v vr e1 h => ?_
  clear zqq
  subst e1
  cases r with
  | cons r rr =>
    rw [hs]
    refine assignInOrder_cons (thn (h1 pins s σ H _ _ _ I r h) fun _ s1 zpat => ?_)
    refine L2.o_EEA (zpat) fun σ1 H1 I1 q1 => ?_
    exact h2 pins s1 σ1 H1 _ _ Q I1 rr q1
noncomputable def gTup (K : PySem.W.Frag) (n : Nat) (t : TGs) : TG := fun v σ H Q => ∃ a xs, v = .ref a ∧ SqT K H a xs ∧ xs.length = n ∧ t xs σ H Q
theorem pg_tup {es : List Expr} {k : Nat} {t : TGs} {n : Nat} (hc : X.calm = true) (h : PGs X es t)
    (hn : (assignEach es X.env).length = n := by rfl) (hst : (assignEach es X.env).findIdx? (·.1) = none := by rfl) : PG X (.Tuple es k pos) (gTup X.K n t) := by
  intro pins s σ H v u Q I r hw
  revert hw
  refine fun zqq => L2.o_EEAAA zqq fun a xs e1 hq hl hw => ?_
  clear zqq
  subst e1
  cases r
  refine L2.o_EAA (I.tuple hq) fun its rv ht hz => ?_
  refine assign_Tuple_tuple (I.ok.hd hc) ht (by simp [hn, ← hl, rv.length]) hst fun h' hx => ?_
  have I1 : Inv X pins σ H { s with heap := h' } := I.kept (t' := s.toks) fun b o e => hx b o (Nat.ne_of_lt (Heap.lt_size e)) e
  exact h pins _ σ H xs _ Q I1 (by simpa using rv) hw
noncomputable def gSub (to ti : TE) (t : TSet) : TG := fun v σ H Q => to σ H fun o H1 => ti σ H1 fun i H2 => t o i v H2 fun H3 => Q σ H3
theorem pg_sub {o i : Expr} {to ti : TE} {t : TSet} (ho : PE X o to) (hi : PE X i ti) (hs : PSet X t)
    (ha : ∀ v, assign (.Subscript o i pos) X.env v = (do
      let ov ← holding [v] (eval o X.env)
      let iv ← holding [v, ov] (eval i X.env)
      standAt pos
      holding [v, ov, iv] (setItem ov iv v)
      release [v, ov, iv] []) := by intro _; rfl) : PG X (.Subscript o i pos) (gSub to ti t) := by
  intro pins s σ H v u Q I r h
  rw [ha]
  refine wpAny_bind (wpAny_holding (thn (ho pins s σ H _ I h) fun ov s1 zpat => ?_))
  obtain ⟨x, H1, I1, r1, q1⟩ := zpat
  refine wpAny_bind (wpAny_holding (thn (hi pins s1 σ H1 _ I1 q1) fun iv s2 zpat => ?_))
  obtain ⟨y, H2, I2, r2, q2⟩ := zpat
  refine wpAny_bind (wpAny_standAt (wpAny_bind (wpAny_holding (thn (hs pins s2 σ H2 x y v ov iv u _ I2 r1 r2 r q2) fun _ s3 zpat => ?_))))
  refine L2.o_EA (zpat) fun H3 I3 q3 => ?_
  exact wpAny_release ⟨σ, H3, I3, q3⟩
noncomputable def tAsg (te : TE) (g : TG) : TS := fun D σ H => te σ H fun x H1 => g x σ H1 D.nx
theorem ps_asg {tg e : Expr} {te : TE} {g : TG} (he : PE X e te) (hg : PG X tg g) (hs : swapsWithSole [tg] e pos.line X.env = pure false := by rfl) (hw : swappedStores [tg] e X.env = pure none := by rfl)
    (h1 : (assignEach [tg] X.env).map (·.2) = [assign tg X.env] := by rfl) : PS X (.Assign [tg] e pos) (tAsg te g) := by
  intro pins s σ H D I h
  refine wpAny_Assign_stores (thn (he pins s σ H _ I h) fun v s1 ⟨x, H1, I1, r1, q1⟩ => ?_) hs hw
  rw [h1]
  exact thn (hg pins s1 σ H1 x v _ I1 r1 q1) fun _ s2 q => q
theorem ps_set {i : Nat} {x : Str} {e : Expr} {te : TE} {pos' : Pos} (hN : X.N.Nodup) (hi : X.N[i]? = some x) (hx : Loc X.env.scope x) (he : PE X e te) (hs : swapsWith e (some (.Name x pos')) pos.line X.env = pure false := by rfl) (hf : X.fn x = true ∨ X.env.scope.names.lookup x = some .local := by first | exact .inl rfl | exact .inr rfl | assumption) :
    PS X (.Assign [.Name x pos'] e pos) (tAsg te (gName i)) := by
  intro pins s σ H D I h
  refine wpAny_Assign_Name (thn (he pins s σ H _ I h) fun v s1 ⟨y, H1, I1, r1, q1⟩ => ?_) hs
  exact store_ok I1 hN hi hx r1 (fun s2 I2 => ⟨_, H1, I2, q1⟩) hf
end
section
variable {X : Cx} {pos : Pos}
noncomputable def tWhile (c : TT) (tb : TS) : TS := fun D σ H => ∃ W : Nat → St → Hp → Prop, (∃ m, W m σ H) ∧ ∀ m σ H, W m σ H →
  c σ H fun b H1 => if b = true then ∃ N : St → Hp → Prop, (∀ σ' H', N σ' H' → ∃ m', m' < m ∧ W m' σ' H') ∧ tb { D with nx := N, ct := N, bk := D.nx } σ H1 else D.nx σ H1
theorem ps_while {c : Expr} {body : List Stmt} {tc : TT} {tb : TS} (hp : PassesOwn (model X.prog X.w) X.A X.env X.xe) (hc : PT X c tc) (hb : PSs X body tb) : PS X (.While c body [] pos) (tWhile tc tb) := by
  intro pins s σ H D I h
  obtain ⟨W, ⟨m0, w0⟩, turn⟩ := h
  refine wpAny_While (codeAny_whileLoop (fun n s' => ∃ σ' H', Inv X pins σ' H' s' ∧ W n σ' H') ?_ m0 ⟨σ, H, I, w0⟩)
  rintro n s1 ⟨σ1, H1, I1, w1⟩
  refine wpAny_passesOwn hp (thn (hc pins s1 σ1 H1 _ I1 (turn n σ1 H1 w1)) fun b s2 zpat => ?_)
  obtain ⟨H2, I2, q2⟩ := zpat
  cases b with
  | true =>
    revert q2
    refine fun zqq => L2.o_EA zqq fun N hN q2 => ?_
    clear zqq
    rw [if_pos rfl]
    refine wpAny_passesOwn hp (thn (hb pins s2 σ1 H2 _ I2 q2) fun f s3 q3 => ?_)
    cases f with
    | next =>
      refine L2.o_EEA (q3) fun σ3 H3 I3 n3 => ?_
      refine L2.o_EA (hN σ3 H3 n3) fun m' hm w3 => ?_
      exact L2.i_EAEEA (m') (hm) (σ3) (H3) (I3) (w3)
    | cont =>
      refine L2.o_EEA (q3) fun σ3 H3 I3 n3 => ?_
      refine L2.o_EA (hN σ3 H3 n3) fun m' hm w3 => ?_
      exact L2.i_EAEEA (m') (hm) (σ3) (H3) (I3) (w3)
    | brk => exact q3
    | ret v => exact q3
  | false =>
    rw [if_neg Bool.false_ne_true]
    exact wpAny_execs_nil ⟨σ1, H2, I2, q2⟩
end
structure It where
  go : Nat → Hp → Prop
  yld : Nat → Hp → V → Hp → Prop
  stop : Nat → Hp → Prop
noncomputable def FpOk (X : Cx) (pins : List (Addr × Obj)) (H : Hp) (b : Addr) : Prop :=
  H b = none ∧ b ≠ X.env.locals ∧ b ∉ X.fs ∧ (b ∈ X.ex ∨ X.s₀.heap.objs.size ≤ b) ∧ (∀ x c, X.env.cells.lookup x = some c → c ≠ b) ∧ ∀ p ∈ X.pn ++ pins, p.1 ≠ b
theorem Inv.fpOk {X : Cx} {pins : List (Addr × Obj)} {σ : St} {H H' : Hp} {s : Shared} {b : Addr} (I : Inv X pins σ H s) (hb : s.heap.objs.size ≤ b) (hn : H' b = none) : FpOk X pins H' b := by
  refine ⟨hn, Nat.ne_of_gt (Nat.lt_of_lt_of_le I.lt hb), I.nofs hb, .inr (Nat.le_trans I.sz hb), fun x c e z => ?_, fun p hp z => ?_⟩
  · refine L2.o_E (I.cell x c e) fun v q => ?_
    exact absurd (Nat.lt_of_lt_of_le q.lt (by rw [z]; exact hb)) (Nat.lt_irrefl _)
  · exact absurd (Nat.lt_of_lt_of_le (Heap.lt_size (I.pin p hp).1) (by rw [z]; exact hb)) (Nat.lt_irrefl _)
structure Turn (P : Program) (w : World) (K : PySem.W.Frag) (tg : Expr) (J : It) (fp : List Addr) (it : Addr) (tn : Nat → Heap → Prop) : Prop where
  mem : it ∈ fp
  obj : ∀ i h, tn i h → ∀ b ∈ fp, ∃ o, h.get? b = some o ∧ ∀ v, o.data ≠ .cell v
  keep : ∀ i h h', tn i h → (∀ b ∈ fp, ∀ o, h.get? b = some o → h'.get? b = some o) → tn i h'
  item : ∀ (X : Cx), X.prog = P → X.w = w → X.K = K → X.calm = true → ∀ (i : Nat) (pins : List (Addr × Obj)) (s : Shared) (σ : St) (H : Hp) (E : Value → Shared → Prop), Inv X pins σ H s → (∀ b ∈ fp, FpOk X pins H b) → tn i s.heap → J.go i H →
    wpAny (model P w) X.A (pyNext (.ref it)) (fun r s1 => ∃ u, r = some u ∧
      wpAny (model P w) X.A (letOwnedTupleGo tg (.ref it) u) (fun _ s2 => ∃ x H', Inv X pins σ H' s2 ∧ RelV x u ∧ J.yld i H x H' ∧ tn (i + 1) s2.heap ∧ ∀ b ∈ fp, H' b = none) E s1) E s
  done : ∀ (X : Cx), X.prog = P → X.w = w → X.K = K → X.calm = true → ∀ (i : Nat) (pins : List (Addr × Obj)) (s : Shared) (σ : St) (H : Hp) (E : Value → Shared → Prop), Inv X pins σ H s → (∀ b ∈ fp, FpOk X pins H b) → tn i s.heap → J.stop i H →
    wpAny (model P w) X.A (pyNext (.ref it)) (fun r s1 => r = none ∧ Inv X pins σ H s1) E s
  self : ∀ (A : Around) (i : Nat) (s : Shared) (Q : Value → Shared → Prop) (E : Value → Shared → Prop), tn i s.heap → Q (.ref it) s → wpAny (model P w) A (pyIter (.ref it)) Q E s
noncomputable abbrev TI := St → Hp → (It → Hp → Prop) → Prop
noncomputable def PIE (X : Cx) (pins : List (Addr × Obj)) (σ : St) (tg : Expr) (R : It → Hp → Prop) (itv : Value) (s2 : Shared) : Prop :=
  ∃ (it : Addr) (fp : List Addr) (tn : Nat → Heap → Prop) (J : It) (H' : Hp), itv = .ref it ∧ Inv X pins σ H' s2 ∧ Turn X.prog X.w X.K tg J fp it tn ∧ tn 0 s2.heap ∧ (∀ b ∈ fp, FpOk X pins H' b) ∧ R J H'
noncomputable def PI (X : Cx) (tg iter : Expr) (wi : TI) : Prop :=
  ∀ (pins : List (Addr × Obj)) (s : Shared) (σ : St) (H : Hp) (R : It → Hp → Prop), Inv X pins σ H s → wi σ H R →
    wpAny (model X.prog X.w) X.A (eval iter X.env) (fun v s1 => wpAny (model X.prog X.w) X.A (pyIter v) (PIE X pins σ tg R) X.xe s1) X.xe s
theorem go_of {M : Model} {A : Around} {E : Value → Shared → Prop} {s : Shared} {tg : Expr} {it : Addr} {u : Value} {o : Obj} {n : String} {vs : Array Value} {Q : Unit → Shared → Prop} (ho : s.heap.get? it = some o) (hc : o.cls = .type n) (hd : o.data = .fields vs)
    (hn : ["enumerate", "zip", "dict_itemiterator", "dict_reverseitemiterator", "odict_iterator", "itertools.zip_longest", "itertools.pairwise"].contains n = false) (hQ : Q () s) : wpAny M A (letOwnedTupleGo tg (.ref it) u) Q E s := by
  unfold letOwnedTupleGo
  cases tg <;> first
    | exact wpAny_pure hQ
    | (cases u <;> first
        | exact wpAny_pure hQ
        | (refine wpAny_bind (wpAny_load ho ?_)
           rw [hc, hd]
           show wpAny M A (if (["enumerate", "zip", "dict_itemiterator", "dict_reverseitemiterator", "odict_iterator", "itertools.zip_longest", "itertools.pairwise"].contains n && vs[0]? == some (rawInt _)) = true then _ else _) Q E s
           rw [if_neg (by intro h; rw [hn, Bool.false_and] at h; cases h)]
           exact wpAny_pure hQ))
noncomputable def Itl (K : PySem.W.Frag) (a : Addr) : It :=
  ⟨fun i H => ∃ xs x, SqL K H a xs ∧ xs[i]? = some x, fun i H x H' => H' = H ∧ ∀ xs, SqL K H a xs → xs[i]? = some x, fun i H => ∃ xs, SqL K H a xs ∧ xs.length ≤ i⟩
noncomputable def Itr (lo : Int) (n : Nat) : It := ⟨fun i _ => i < n, fun i H x H' => H' = H ∧ x = .int (lo + i), fun i _ => n ≤ i⟩
theorem turn_list {P : Program} {w : World} {K : PySem.W.Frag} {tg : Expr} (a it : Addr) : Turn P w K tg (Itl K a) [it] it (fun i h => h.IsListIter it a i) where
  mem := by simp
  obj := fun i h st b hb => by
    have e : b = it := by simpa using hb
    subst e
    refine L2.o_EAA (st) fun o e c d => ?_
    exact ⟨o, e, fun v z => by rw [d] at z; cases z⟩
  keep := fun i h h' st k => st.at fun o e => k it (by simp) o e
  item := by
    intro X hP hw hK hc i pins s σ H E I hf st hg
    subst hP hw hK
    refine L2.o_EEA (hg) fun xs x hq hx => ?_
    refine L2.o_EAA (I.list hq) fun its rv p hz => ?_
    refine L2.o_EA (rv.get hx) fun u hu ru => ?_
    refine L2.o_AAAAA (hf it (by simp)) fun f0 f1 f2 f3 f4 f5 => ?_
    refine wpAny_pyNext_list_item st p.isList (x := u) (by simpa using hu) fun h' st' sb => ?_
    have I1 : Inv X pins σ H { s with heap := h' } := I.turned (t' := s.toks) (fun b o hb e => (sb.2 b hb).trans e) f0 f1 f3 f4 f5
    refine L2.o_EAA (id st') fun o e c d => ?_
    exact ⟨u, rfl, go_of (s := { s with heap := h' }) e c d (by decide) ⟨x, H, I1, ru, ⟨rfl, fun ys hy => by rw [I.list_inj hy hq]; exact hx⟩, st', fun b hb => (hf b hb).1⟩⟩
  done := by
    intro X hP hw hK hc i pins s σ H E I hf st hg
    subst hP hw hK
    refine L2.o_EA (hg) fun xs hq hx => ?_
    refine L2.o_EAA (I.list hq) fun its rv p hz => ?_
    refine L2.o_AAAAA (hf it (by simp)) fun f0 f1 f2 f3 f4 f5 => ?_
    have hl := rv.length
    exact wpAny_pyNext_list_end (I.ok.hd hc) st p.isList (by simp; omega) fun h' eb => ⟨rfl, I.turned (t' := s.toks) (fun b o hb e => eb b o hb e) f0 f1 f3 f4 f5⟩
  self := fun _ _ _ _ _ st h => wpAny_pyIter_listiter st h
theorem turn_range {P : Program} {w : World} {K : PySem.W.Frag} {tg : Expr} (it : Addr) (lo : Int) (n : Nat) : Turn P w K tg (Itr lo n) [it] it (fun i h => IsRangeIter h it (lo + (i : Nat) * 1) ((n : Int) - (i : Nat)) 1) where
  mem := by simp
  obj := fun i h st b hb => by
    have e : b = it := by simpa using hb
    subst e
    exact ⟨_, st, fun v z => by
      have z' : Data.fields _ = Data.cell v := z
      cases z'⟩
  keep := fun i h h' st k => k it (by simp) _ st
  item := by
    intro X hP hw hK hc i pins s σ H E I hf st hg
    subst hP hw hK
    refine L2.o_AAAAA (hf it (by simp)) fun f0 f1 f2 f3 f4 f5 => ?_
    have W := Walks.range (prog := X.prog) (w := X.w) (I.ok.hd hc) it lo 1 n
    refine W.item i s _ _ hg st fun v h' tk hv st' kk => ?_
    revert hv
    refine fun zqq => L2.o_E zqq fun t zq1 => ?_
    clear zqq
    subst zq1
    have I1 : Inv X pins σ H { s with heap := h', toks := tk } := I.turned (fun b o hb e => kk b o (by simpa using hb) e) f0 f1 f3 f4 f5
    refine ⟨_, rfl, go_of (s := { s with heap := h', toks := tk }) (n := "range_iterator") st' rfl rfl (by decide) ⟨.int (lo + i), H, I1, ⟨t, ?_⟩, ⟨rfl, rfl⟩, st', fun b hb => (hf b hb).1⟩⟩
    rw [Int.mul_one]
  done := by
    intro X hP hw hK hc i pins s σ H E I hf st hg
    subst hP hw hK
    refine L2.o_AAAAA (hf it (by simp)) fun f0 f1 f2 f3 f4 f5 => ?_
    exact wpAny_pyNext_range_end (I.ok.hd hc) st (by have : n ≤ i := hg; omega) fun h' eb => ⟨rfl, I.turned (t' := s.toks) (fun b o hb e => eb b o hb e) f0 f1 f3 f4 f5⟩
  self := fun _ _ _ _ _ st h => wpAny_pyIter_rangeiter st h
end L2
namespace L2
open PySem PySem.Spec PyProof.Rows
section
variable {X : Cx} {tg : Expr}
noncomputable def iList (K : PySem.W.Frag) (tl : TE) : TI := fun σ H R => tl σ H fun x H1 => ∃ a, x = .ref a ∧ (∃ xs, SqL K H1 a xs) ∧ R (Itl K a) H1
theorem pi_list {l : Expr} {tl : TE} (hl : PE X l tl) : PI X tg l (iList X.K tl) := by
  intro pins s σ H R I h
  refine thn (hl pins s σ H _ I h) fun v s1 zpat => ?_
  obtain ⟨x, H1, I1, r1, q1⟩ := zpat
  obtain ⟨a, e, ⟨xs, hq⟩, q⟩ := q1
  subst e
  cases r1
  refine L2.o_EAA (I1.list hq) fun its rv p hz => ?_
  refine wpAny_pyIter_list p.isList ?_
  refine L2.i_EEEEEAAAAA (s1.heap.objs.size) ([s1.heap.objs.size]) (_) (_) (H1) (rfl) (I1.kept (t' := s1.toks) fun b o e => Heap.get?_push_of_some _ e) (turn_list a _) (⟨_, Heap.get?_push_size _ rfl, rfl, rfl⟩) (fun b hb => ?_) (q)
  have e : b = s1.heap.objs.size := by simpa using hb
  subst e
  exact I1.fpOk (Nat.le_refl _) (I1.hok.fresh (Nat.le_refl _))
theorem range_it {pins : List (Addr × Obj)} {σ : St} {H : Hp} {s : Shared} {R : It → Hp → Prop} {E : Value → Shared → Prop} {lo hi : Int} {t u v : Tok} {tk : Nat} (I : Inv X pins σ H s) (h1 : -(2 ^ 62) ≤ lo) (h2 : lo < 2 ^ 62) (h3 : -(2 ^ 62) ≤ hi) (h4 : hi < 2 ^ 62)
    (q : R (Itr lo (hi - lo).toNat) H) : wpAny (model X.prog X.w) X.A (pyIter (.ref s.heap.objs.size)) (PIE X pins σ tg R) E { s with heap := s.heap.push { cls := .type "range", data := .fields #[.int lo t, .int hi u, .int 1 v] }, toks := tk } := by
  refine wpAny_pyIter_range (IsRange.new ..) (small_one h1 h2 h3 h4) ?_
  have I1 : Inv X pins σ H { s with heap := s.heap.push { cls := .type "range", data := .fields #[.int lo t, .int hi u, .int 1 v] }, toks := tk } := I.kept fun b o e => Heap.get?_push_of_some _ e
  refine ⟨(s.heap.push { cls := .type "range", data := .fields #[.int lo t, .int hi u, .int 1 v] }).objs.size, [(s.heap.push { cls := .type "range", data := .fields #[.int lo t, .int hi u, .int 1 v] }).objs.size], _, _, H, rfl,
    I1.kept (t' := tk) fun b o e => Heap.get?_push_of_some _ e, turn_range _ lo (hi - lo).toNat, ?_, fun b hb => ?_, q⟩
  · have e1 : lo + ((0 : Nat) : Int) * 1 = lo := by simp
    have e2 : (((hi - lo).toNat : Nat) : Int) - ((0 : Nat) : Int) = Builtin.Range.rangeSize lo hi 1 := by rw [rangeSize_one]; split <;> omega
    show IsRangeIter _ _ (lo + ((0 : Nat) : Int) * 1) ((((hi - lo).toNat : Nat) : Int) - ((0 : Nat) : Int)) 1
    rw [e1, e2]
    exact Heap.get?_push_size _ rfl
  · have e : b = (s.heap.push { cls := .type "range", data := .fields #[.int lo t, .int hi u, .int 1 v] }).objs.size := by simpa using hb
    subst e
    exact I1.fpOk (Nat.le_refl _) (I1.hok.fresh (Nat.le_refl _))
noncomputable def iRng1 (ta : TA) : TI := fun σ H R => ta σ H fun vs H1 => ∃ j : Int, vs = [.int j] ∧ -(2 ^ 62) ≤ j ∧ j < 2 ^ 62 ∧ R (Itr 0 j.toNat) H1
theorem pi_range1 {a : Expr} {ta : TA} {p pos : Pos} (hg : Gl X "range") (hm : X.mg "range" = none) (ha : PA X [a] ta) (hs : starEach [a] X.env = [(false, eval a X.env)] := by rfl) : PI X tg (.Call (.Name "range" p) [a] [] pos) (iRng1 ta) := by
  intro pins s σ H R I h
  refine Call_ (ld_blt I hg hm boot_range (PyProof.Rows.callWith_type1 (thn (ha pos pins s σ H _ I h) fun us s1 ⟨vs, H1, I1, r1, q1⟩ => ?_) hs rfl))
  revert q1
  refine fun zqq => L2.o_EAAA zqq fun j e q1 q2 q => ?_
  clear zqq
  subst e
  cases r1 with
  | cons r rr =>
    cases rr
    revert r
    refine fun zqq => L2.o_E zqq fun t zq1 => ?_
    clear zqq
    subst zq1
    exact call_range_1 (range_it I1 (by omega) (by omega) q1 q2 (by simpa using q))
noncomputable def tFor (wi : TI) (g : TG) (tb : TS) : TS := fun D σ H => wi σ H fun J H1 => ∃ W : Nat → Nat → St → Hp → Prop, (∃ m, W 0 m σ H1) ∧ ∀ i m σ H, W i m σ H →
  (J.stop i H ∧ D.nx σ H) ∨ (J.go i H ∧ ∃ N : St → Hp → Prop, (∀ σ' H', N σ' H' → ∃ m', m' < m ∧ W (i + 1) m' σ' H') ∧ ∀ x H', J.yld i H x H' → g x σ H' fun σ2 H2 => tb { D with nx := N, ct := N, bk := D.nx } σ2 H2)
noncomputable def pinsAt (fp : List Addr) (h : Heap) : List (Addr × Obj) := fp.filterMap fun b => (h.get? b).map fun o => (b, o)
theorem mem_pinsAt {fp : List Addr} {h : Heap} {b : Addr} {o : Obj} (hb : b ∈ fp) (e : h.get? b = some o) : (b, o) ∈ pinsAt fp h := List.mem_filterMap.mpr ⟨b, hb, by rw [e]; rfl⟩
theorem of_pinsAt {fp : List Addr} {h : Heap} {p : Addr × Obj} (hp : p ∈ pinsAt fp h) : p.1 ∈ fp ∧ h.get? p.1 = some p.2 := by
  refine L2.o_EA (List.mem_filterMap.mp hp) fun b hb e => ?_
  cases q : h.get? b with
  | none => rw [q] at e; cases e
  | some o =>
    rw [q] at e
    have e' : (b, o) = p := Option.some.inj e
    subst e'
    exact ⟨hb, q⟩
theorem Inv.pinned {pins : List (Addr × Obj)} {σ : St} {H : Hp} {s : Shared} {fp : List Addr} (I : Inv X pins σ H s) (hf : ∀ b ∈ fp, FpOk X pins H b) (ho : ∀ b ∈ fp, ∃ o, s.heap.get? b = some o ∧ ∀ v, o.data ≠ .cell v) : Inv X (pins ++ pinsAt fp s.heap) σ H s :=
  I.pins_of fun p hp => (List.mem_append.mp hp).elim (fun z => I.pin p (List.mem_append_right _ z)) fun z => by
    refine L2.o_A (of_pinsAt z) fun hb e => ?_
    refine L2.o_AAA (hf p.1 hb) fun f0 f1 f2 _ => ?_
    refine L2.o_EA (ho p.1 hb) fun o e' d => ?_
    rw [e] at e'; cases e'
    exact ⟨e, f0, f1, f2, d⟩
theorem Inv.unpinned {pins pl : List (Addr × Obj)} {σ : St} {H : Hp} {s : Shared} (I : Inv X (pins ++ pl) σ H s) : Inv X pins σ H s := I.pins_of fun p hp => I.pin p (List.mem_append_right _ (List.mem_append_left _ hp))
theorem ps_for {iter : Expr} {body : List Stmt} {wi : TI} {g : TG} {tb : TS} {pos : Pos} (hp : PassesOwn (model X.prog X.w) X.A X.env X.xe) (hc : X.calm = true) (hi : PI X tg iter wi) (hg : PG X tg g) (hb : PSs X body tb)
    (hs : ∀ x, foldedSetIterable iter X.env x = pure x := by intro _; rfl) : PS X (.For tg iter body [] pos) (tFor wi g tb) := by
  intro pins s σ H D I h
  refine wpAny_For (thn (hi pins s σ H _ I h) fun v s1 h1 => thn h1 fun itv s2 h2 => ?_) hs
  obtain ⟨it, fp, tn, J, H2, e, I2, T, st2, f2, W, ⟨m0, w0⟩, turn⟩ := h2
  subst e
  have stat : ∀ {H' : Hp}, (∀ b ∈ fp, H' b = none) → ∀ b ∈ fp, FpOk X pins H' b := fun hn b hb => ⟨hn b hb, (f2 b hb).2⟩
  refine codeAny_forLoop_any (fun n s' => ∃ i σ' H', Inv X pins σ' H' s' ∧ tn i s'.heap ∧ (∀ b ∈ fp, H' b = none) ∧ W i n σ' H') ?_ m0 ⟨0, σ, H2, I2, st2, fun b hb => (f2 b hb).1, w0⟩
  rintro n s3 ⟨i, σ3, H3, I3, st3, fr3, w3⟩
  rcases turn i n σ3 H3 w3 with ⟨stop, qn⟩ | ⟨go, N, hN, step⟩
  · refine wpAny_passesOwn hp (thn (T.done X rfl rfl rfl hc i pins s3 σ3 H3 X.xe I3 (stat fr3) st3 stop) fun r s4 zpat => ?_)
    refine L2.o_A (zpat) fun hr I4 => ?_
    subst hr
    exact wpAny_execs_nil ⟨σ3, H3, I4, qn⟩
  · refine wpAny_passesOwn hp (thn (T.item X rfl rfl rfl hc i pins s3 σ3 H3 X.xe I3 (stat fr3) st3 go) fun r s4 zpat => ?_)
    refine L2.o_EA (zpat) fun u hr h4 => ?_
    subst hr
    refine wpAny_passesOwn hp (thn h4 fun _ s5 zpat => ?_)
    refine L2.o_EEAAAA (zpat) fun x H5 I5 r5 y5 st5 fr5 => ?_
    have I5' := I5.pinned (stat fr5) (T.obj _ _ st5)
    refine wpAny_passesOwn hp (thn (hg _ s5 σ3 H5 x u _ I5' r5 (step x H5 y5)) fun _ s6 zpat => ?_)
    refine L2.o_EEA (zpat) fun σ6 H6 I6 q6 => ?_
    refine wpAny_passesOwn hp (thn (hb _ s6 σ6 H6 _ I6 q6) fun f s7 q7 => ?_)
    have again : ∀ {σ7 : St} {H7 : Hp}, Inv X (pins ++ pinsAt fp s5.heap) σ7 H7 s7 → N σ7 H7 → ∃ m, m < n ∧ ∃ i σ' H', Inv X pins σ' H' s7 ∧ tn i s7.heap ∧ (∀ b ∈ fp, H' b = none) ∧ W i m σ' H' := fun {σ7 H7} I7 n7 => by
      refine L2.o_EA (hN σ7 H7 n7) fun m' hm w7 => ?_
      refine L2.i_EAEEEAAA (m') (hm) (i + 1) (σ7) (H7) (I7.unpinned) (T.keep _ _ _ st5 fun b hb o e => (I7.pin (b, o) (List.mem_append_right _ (List.mem_append_right _ (mem_pinsAt hb e)))).1) (fun b hb => ?_) (w7)
      refine L2.o_EA (T.obj _ _ st5 b hb) fun o e d => ?_
      exact (I7.pin (b, o) (List.mem_append_right _ (List.mem_append_right _ (mem_pinsAt hb e)))).2.1
    cases f with
    | next => obtain ⟨σ7, H7, I7, n7⟩ := q7; exact again I7 n7
    | cont => obtain ⟨σ7, H7, I7, n7⟩ := q7; exact again I7 n7
    | brk => obtain ⟨σ7, H7, I7, q7⟩ := q7; exact ⟨σ7, H7, I7.unpinned, q7⟩
    | ret v => obtain ⟨x7, σ7, H7, I7, r7, q7⟩ := q7; exact ⟨x7, σ7, H7, I7.unpinned, r7, q7⟩
end
end L2
namespace L2
open PySem PySem.Spec PyProof.Rows
noncomputable abbrev R2 := V → V → Hp → VK → Prop
noncomputable def OpR (X : Cx) (f : Value → Value → Sem Value) (r : R2) : Prop :=
  ∀ (pins : List (Addr × Obj)) (s : Shared) (σ : St) (H : Hp) (x y : V) (v u : Value) (Q : VK), Inv X pins σ H s → RelV x v → RelV y u → r x y H Q →
    wpAny (model X.prog X.w) X.A (f v u) (EP X pins σ Q) X.xe s
noncomputable def UnR (X : Cx) (f : Value → Sem Value) (r : V → Hp → VK → Prop) : Prop :=
  ∀ (pins : List (Addr × Obj)) (s : Shared) (σ : St) (H : Hp) (x : V) (v : Value) (Q : VK), Inv X pins σ H s → RelV x v → r x H Q →
    wpAny (model X.prog X.w) X.A (f v) (EP X pins σ Q) X.xe s
noncomputable def CallR (X : Cx) (f : Value) (r : List V → Hp → VK → Prop) : Prop :=
  ∀ (pins : List (Addr × Obj)) (s : Shared) (σ : St) (H : Hp) (xs : List V) (us : List Value) (Q : VK), Inv X pins σ H s → Vals xs us → r xs H Q →
    wpAny (model X.prog X.w) X.A (call f us) (EP X pins σ Q) X.xe s
noncomputable def tOp (r : R2) (ta tb : TE) : TE := fun σ H Q => ta σ H fun x H1 => tb σ H1 fun y H2 => r x y H2 Q
noncomputable def tUn (r : V → Hp → VK → Prop) (ta : TE) : TE := fun σ H Q => ta σ H fun x H1 => r x H1 Q
noncomputable def rI (C : Int → Int → Prop) (g : Int → Int → V) : R2 := fun x y H Q => ∃ i j, x = .int i ∧ y = .int j ∧ C i j ∧ Q (g i j) H
noncomputable def rI0 (g : Int → Int → V) : R2 := fun x y H Q => ∃ i j, x = .int i ∧ y = .int j ∧ Q (g i j) H
noncomputable def rU (g : Int → V) : V → Hp → VK → Prop := fun x H Q => ∃ i, x = .int i ∧ Q (g i) H
section
variable {X : Cx} {a b c : Expr} {ta tb tc : TE} {pos : Pos}
theorem binT (ha : PE X a ta) (hb : PE X b tb) {pins : List (Addr × Obj)} {s : Shared} {σ : St} {H : Hp} {R : V → V → Hp → Prop} (I : Inv X pins σ H s)
    (h : ta σ H fun x H1 => tb σ H1 fun y H2 => R x y H2) {Q : Value → Shared → Prop} {f : Value → Value → Sem Value}
    (hf : ∀ v u s2 x y H2, Inv X pins σ H2 s2 → RelV x v → RelV y u → R x y H2 → wpAny (model X.prog X.w) X.A (f v u) Q X.xe s2) :
    wpAny (model X.prog X.w) X.A (eval a X.env) (fun v s₁ => wpAny (model X.prog X.w) X.A (eval b X.env) (fun u s₂ => wpAny (model X.prog X.w) X.A (f v u) Q X.xe s₂) X.xe s₁) X.xe s := by
  refine thn (ha pins s σ H _ I h) fun v s1 zpat => ?_
  obtain ⟨x, H1, I1, r1, q1⟩ := zpat
  refine thn (hb pins s1 σ H1 _ I1 q1) fun u s2 zpat => ?_
  obtain ⟨y, H2, I2, r2, q2⟩ := zpat
  exact hf v u s2 x y H2 I2 r1 r2 q2
theorem pe_op {op : Operator} {r : R2} (ho : OpR X (binaryOp op) r) (ha : PE X a ta) (hb : PE X b tb) : PE X (.BinOp a op b pos) (tOp r ta tb) := by
  intro pins s σ H Q I h
  exact wpAny_BinOp (binT ha hb I h fun v u s2 x y H2 I2 rx ry q => ho pins s2 σ H2 x y v u Q I2 rx ry q)
theorem pe_un {op : UnaryOp} {r : V → Hp → VK → Prop} (ho : UnR X (unaryOp op) r) (ha : PE X a ta) : PE X (.UnaryOp op a pos) (tUn r ta) := by
  intro pins s σ H Q I h
  exact UnaryOp_ (thn (ha pins s σ H _ I h) fun v s1 ⟨x, H1, I1, r1, q1⟩ => ho pins s1 σ H1 x v Q I1 r1 q1)
theorem opI {f : Value → Value → Sem Value} {C : Int → Int → Prop} {g : Int → Int → Int}
    (rule : ∀ (i j : Int) (t u : Tok) (s : Shared) (Q : Value → Shared → Prop) (E : Value → Shared → Prop), C i j → Q (.int (g i j) s.toks) { s with toks := s.toks + 1 } → wpAny (model X.prog X.w) X.A (f (.int i t) (.int j u)) Q E s) :
    OpR X f (rI C fun i j => .int (g i j)) := by
  intro pins s σ H x y v u Q I rx ry h
  revert h
  refine fun zqq => L2.o_EEAAA zqq fun i j zq2 zq3 hc q => ?_
  clear zqq
  subst zq2
  subst zq3
  revert rx
  refine fun zqq => L2.o_E zqq fun t zq1 => ?_
  clear zqq
  subst zq1
  revert ry
  refine fun zqq => L2.o_E zqq fun t' zq1 => ?_
  clear zqq
  subst zq1
  exact rule i j t t' s _ _ hc ⟨.int (g i j), H, I.tok _, ⟨_, rfl⟩, q⟩
theorem opI0 {f : Value → Value → Sem Value} {g : Int → Int → Int}
    (rule : ∀ (i j : Int) (t u : Tok) (s : Shared) (Q : Value → Shared → Prop) (E : Value → Shared → Prop), Q (.int (g i j) s.toks) { s with toks := s.toks + 1 } → wpAny (model X.prog X.w) X.A (f (.int i t) (.int j u)) Q E s) :
    OpR X f (rI0 fun i j => .int (g i j)) := by
  intro pins s σ H x y v u Q I rx ry h
  revert h
  refine fun zqq => L2.o_EEAA zqq fun i j zq2 zq3 q => ?_
  clear zqq
  subst zq2
  subst zq3
  revert rx
  refine fun zqq => L2.o_E zqq fun t zq1 => ?_
  clear zqq
  subst zq1
  revert ry
  refine fun zqq => L2.o_E zqq fun t' zq1 => ?_
  clear zqq
  subst zq1
  exact rule i j t t' s _ _ ⟨.int (g i j), H, I.tok _, ⟨_, rfl⟩, q⟩
theorem opB0 {f : Value → Value → Sem Value} {g : Int → Int → Bool}
    (rule : ∀ (i j : Int) (t u : Tok) (s : Shared) (Q : Value → Shared → Prop) (E : Value → Shared → Prop), Q (.bool (g i j)) s → wpAny (model X.prog X.w) X.A (f (.int i t) (.int j u)) Q E s) :
    OpR X f (rI0 fun i j => .bl (g i j)) := by
  intro pins s σ H x y v u Q I rx ry h
  revert h
  refine fun zqq => L2.o_EEAA zqq fun i j zq2 zq3 q => ?_
  clear zqq
  subst zq2
  subst zq3
  revert rx
  refine fun zqq => L2.o_E zqq fun t zq1 => ?_
  clear zqq
  subst zq1
  revert ry
  refine fun zqq => L2.o_E zqq fun t' zq1 => ?_
  clear zqq
  subst zq1
  exact rule i j t t' s _ _ ⟨.bl (g i j), H, I, rfl, q⟩
noncomputable def CPow (i j : Int) : Prop := 0 ≤ j ∧ j ≤ 1000000 ∧ i.natAbs < 2 ^ 64
noncomputable def CMul (i j : Int) : Prop := (-(2 ^ 64) < i ∧ i < 2 ^ 64) ∨ (-(2 ^ 64) < j ∧ j < 2 ^ 64)
theorem CMul.ok {i j : Int} (h : CMul i j) : IntMulOk i j := by
  rcases h with ⟨h1, h2⟩ | ⟨h1, h2⟩
  · exact .of_left (intBits_le_64 h1 h2)
  · exact .of_right (intBits_le_64 h1 h2)
theorem op_add : OpR X (binaryOp .Add) (rI0 fun i j => .int (i + j)) := opI0 fun _ _ _ _ _ _ _ q => add_int q
theorem op_sub : OpR X (binaryOp .Sub) (rI0 fun i j => .int (i - j)) := opI0 fun _ _ _ _ _ _ _ q => sub_int q
theorem op_modN : OpR X (binaryOp .Mod) (rI (fun _ j => j ≠ 0) fun i j => .int (i.fmod j)) := opI fun _ _ _ _ _ _ _ hc q => mod_int' hc q
theorem op_pow : OpR X (binaryOp .Pow) (rI CPow fun i j => .int (i ^ j.toNat)) := opI fun _ _ _ _ _ _ _ hc q => pow_int_small hc.1 hc.2.1 hc.2.2 q
theorem unI {f : Value → Sem Value} {g : Int → Int}
    (rule : ∀ (i : Int) (t : Tok) (s : Shared) (Q : Value → Shared → Prop) (E : Value → Shared → Prop), Q (.int (g i) s.toks) { s with toks := s.toks + 1 } → wpAny (model X.prog X.w) X.A (f (.int i t)) Q E s) :
    UnR X f (rU fun i => .int (g i)) := by
  intro pins s σ H x v Q I rx h
  revert h
  refine fun zqq => L2.o_EA zqq fun i zq1 q => ?_
  clear zqq
  subst zq1
  revert rx
  refine fun zqq => L2.o_E zqq fun t zq1 => ?_
  clear zqq
  subst zq1
  exact rule i t s _ _ ⟨.int (g i), H, I.tok _, ⟨_, rfl⟩, q⟩
theorem un_neg : UnR X (unaryOp .USub) (rU fun i => .int (-i)) := unI fun _ _ _ _ _ q => neg_int q
end
section
variable {X : Cx} {a b c : Expr} {ta tb tc : TE} {pos : Pos}
theorem fin_bl {pins : List (Addr × Obj)} {σ : St} {H : Hp} {s : Shared} {Q : VK} {k k' : Bool} (I : Inv X pins σ H s) (q : Q (.bl k) H) (e : k = k') : EP X pins σ Q (.bool k') s := by
  subst e
  exact ⟨.bl k, H, I, rfl, q⟩
theorem op_gt : OpR X (compareOp .Gt) (rI0 fun i j => .bl (decide (j < i))) := opB0 fun _ _ _ _ _ _ _ q => gt_int q
theorem op_ge : OpR X (compareOp .GtE) (rI0 fun i j => .bl (decide (j ≤ i))) := opB0 fun _ _ _ _ _ _ _ q => ge_int q
theorem op_in_str : OpR X (compareOp .In) (fun x y H Q => ∃ i j, x = .str i ∧ y = .str j ∧ Q (.bl (!(Builtin.Str.occurrences j i 0 j.length 1).isEmpty)) H) := by
  intro pins s σ H x y v u Q I rx ry h
  revert h
  refine fun zqq => L2.o_EEAA zqq fun i j zq2 zq3 q => ?_
  clear zqq
  subst zq2
  subst zq3
  revert rx
  refine fun zqq => L2.o_E zqq fun t zq1 => ?_
  clear zqq
  subst zq1
  revert ry
  refine fun zqq => L2.o_E zqq fun t' zq1 => ?_
  clear zqq
  subst zq1
  exact in_str (fin_bl I q rfl)
theorem OpR.or {f : Value → Value → Sem Value} {r r' : R2} (h : OpR X f r) (h' : OpR X f r') : OpR X f (fun x y H Q => r x y H Q ∨ r' x y H Q) := by
  intro pins s σ H x y v u Q I rx ry q
  rcases q with q | q
  · exact h pins s σ H x y v u Q I rx ry q
  · exact h' pins s σ H x y v u Q I rx ry q
theorem nomark (b : Expr) {op : CmpOp} (h : op ≠ .In := by decide) (h2 : op ≠ .NotIn := by decide) : behindInMarks op b = false := by
  have e1 : (op == CmpOp.In) = false := by cases op <;> first | rfl | exact absurd rfl h
  have e2 : (op == CmpOp.NotIn) = false := by cases op <;> first | rfl | exact absurd rfl h2
  cases b <;> simp [behindInMarks, e1, e2]
theorem pe_cmpR {op : CmpOp} {r : R2} (ho : OpR X (compareOp op) r) (ha : PE X a ta) (hb : PE X b tb) (hm : behindInMarks op b = false) : PE X (.Compare a [op] [b] pos) (tOp r ta tb) := by
  intro pins s σ H Q I h
  exact wpAny_Compare1 (binT ha hb I h fun v u s2 x y H2 I2 rx ry q => ho pins s2 σ H2 x y v u Q I2 rx ry q) hm
noncomputable def tTest (t : TE) : TT := fun σ H Q => t σ H fun x H' => ∃ k, x = .bl k ∧ Q k H'
theorem pt_cmpR {op : CmpOp} {r : R2} (ho : OpR X (compareOp op) r) (ha : PE X a ta) (hb : PE X b tb) (hm : behindInMarks op b = false) : PT X (.Compare a [op] [b] pos) (tTest (tOp r ta tb)) := by
  intro pins s σ H Q I h
  refine wpAny_isTrue_Compare1 (thn (ha pins s σ H _ I h) fun v s1 ⟨x, H1, I1, r1, q1⟩ => thn (hb pins s1 σ H1 _ I1 q1) fun u s2 ⟨y, H2, I2, r2, q2⟩ =>
    thn (ho pins s2 σ H2 x y v u _ I2 r1 r2 q2) fun c s3 ⟨z, H3, I3, r3, k, e, q3⟩ => ?_) hm
  subst e
  cases r3
  exact wpAny_truthy_bool ⟨H3, I3, q3⟩
theorem line63 : (sizeLine : Nat) < 2 ^ 63 := by rw [sizeLine_eq]; decide
theorem op_add_str : OpR X (binaryOp .Add) (fun x y H Q => ∃ i j, x = .str i ∧ y = .str j ∧ i.length + j.length ≤ sizeLine ∧ Q (.str (i ++ j)) H) := by
  intro pins s σ H x y v u Q I rx ry h
  revert h
  refine fun zqq => L2.o_EEAAA zqq fun i j zq2 zq3 hz q => ?_
  clear zqq
  subst zq2
  subst zq3
  revert rx
  refine fun zqq => L2.o_E zqq fun t zq1 => ?_
  clear zqq
  subst zq1
  revert ry
  refine fun zqq => L2.o_E zqq fun t' zq1 => ?_
  clear zqq
  subst zq1
  exact add_str (fun t' tk => ⟨.str (i ++ j), H, I.tok _, ⟨_, rfl⟩, q⟩) hz
theorem vals1 {x : V} {us : List Value} (r : Vals [x] us) : ∃ u, us = [u] ∧ RelV x u := by
  cases r with
  | cons r1 r2 => cases r2; exact ⟨_, rfl, r1⟩
theorem vals2 {x y : V} {us : List Value} (r : Vals [x, y] us) : ∃ u w', us = [u, w'] ∧ RelV x u ∧ RelV y w' := by
  cases r with
  | cons r1 r2 =>
    cases r2 with
    | cons r3 r4 => cases r4; exact ⟨_, _, rfl, r1, r3⟩
theorem call_abs : CallR X (.builtin "abs") (fun xs H Q => ∃ i, xs = [.int i] ∧ Q (.int (if i < 0 then -i else i)) H) := by
  intro pins s σ H xs us Q I r h
  revert h
  refine fun zqq => L2.o_EA zqq fun i zq1 q => ?_
  clear zqq
  subst zq1
  refine L2.o_EAE (vals1 r) fun u zq1 t zq3 => ?_
  subst zq1
  subst zq3
  exact call_abs_int fun u tk => ⟨.int (if i < 0 then -i else i), H, I.tok _, ⟨_, rfl⟩, q⟩
theorem call_min2 (hc : X.calm = true) : CallR X (.builtin "min") (fun xs H Q => ∃ i j, xs = [.int i, .int j] ∧ Q (.int (if j < i then j else i)) H) := by
  intro pins s σ H xs us Q I r h
  revert h
  refine fun zqq => L2.o_EEA zqq fun i j zq2 q => ?_
  clear zqq
  subst zq2
  obtain ⟨u, w', rfl, ⟨t, rfl⟩, ⟨t', rfl⟩⟩ := vals2 r
  refine min_two_ints (I.ok.hd hc) fun h' tk k => ⟨_, H, I.kept k, ?_, q⟩
  by_cases hj : j < i
  · rw [if_pos hj, if_pos hj]; exact ⟨_, rfl⟩
  · rw [if_neg hj, if_neg hj]; exact ⟨_, rfl⟩
theorem call_int1 : CallR X (.type "int") (fun xs H Q => (∃ i, xs = [.int i] ∧ Q (.int i) H) ∨ ∃ k, xs = [.bl k] ∧ Q (.int (if k then 1 else 0)) H) := by
  intro pins s σ H xs us Q I r h
  rcases h with ⟨i, rfl, q⟩ | ⟨k, rfl, q⟩
  · refine L2.o_EAE (vals1 r) fun u zq1 t zq3 => ?_
    subst zq1
    subst zq3
    exact call_int_int ⟨.int i, H, I, ⟨_, rfl⟩, q⟩
  · refine L2.o_EA (vals1 r) fun u zq1 r1 => ?_
    subst zq1
    cases r1
    exact call_int_bool ⟨.int (if k then 1 else 0), H, I.tok _, ⟨_, rfl⟩, q⟩
theorem call_str_int : CallR X (.type "str") (fun xs H Q => ∃ i, xs = [.int i] ∧ i.natAbs.log2 < 1920 ∧ Q (.str (toString i)) H) := by
  intro pins s σ H xs us Q I r h
  revert h
  refine fun zqq => L2.o_EAA zqq fun i zq1 hz q => ?_
  clear zqq
  subst zq1
  refine L2.o_EAE (vals1 r) fun u zq1 t zq3 => ?_
  subst zq1
  subst zq3
  exact PySem.P.str_of_int hz ⟨.str _, H, I.tok _, ⟨_, rfl⟩, q⟩
end
end L2
namespace L2
open PySem PySem.Spec PyProof.Rows
structure ObjM (h : Heap) (x dx C : Addr) (mA : Str → Option Value) : Prop where
  obj : h.get? x = some (PySem.W.instObj C dx)
  ns : h.Ns1 dx mA
  ne : dx ≠ x
section
variable {prog : Program} {w : World} {A : Around} {E : Value → Shared → Prop} {s : Shared} {K : PySem.W.Frag} {x dx C f : Addr} {mA : Str → Option Value} {name : Str} {v : Value}
end
section
variable {P : Program} {w : World} {H H' : Hp} {h h' : Heap} {a C dx : Addr} {fs fs' : List (Str × V)}
end
structure Cls (K : PySem.W.Frag) (C : Addr) : Prop where
  pg : PySem.W.plainGet K C Str.empty = true
  hd : PySem.W.hasDictIn K C = true
  po : PySem.W.plainOver K C = true
  sa : PySem.W.findIn K (.ref C) "__setattr__" = some (some (.builtin "object.__setattr__"))
theorem Cls.get {K : PySem.W.Frag} {C : Addr} (c : Cls K C) (f : Str) : PySem.W.plainGet K C f = true := c.pg
noncomputable def NoAttr (K : PySem.W.Frag) (C : Addr) (f : Str) : Prop := PySem.W.findIn K (.ref C) f = some none
structure Con (K : PySem.W.Frag) (C : Addr) (f : Str) (v : V) (u : Value) : Prop where
  at_ : PySem.W.findIn K (.ref C) f = some (some u)
  rel : RelV v u
  get : PySem.W.specialIn K u "__get__" = some none
  cp : PySem.W.copiedNames.contains f = false
structure Meth (K : PySem.W.Frag) (C : Addr) (m : Str) (f : Addr) : Prop where
  at_ : PySem.W.findIn K (.ref C) m = some (some (.ref f))
  fn : PySem.W.isFn K (.ref f) = true
  kp : PySem.W.keepIn K (.ref f) = true
section
variable {X : Cx} {pins : List (Addr × Obj)} {σ : St} {H : Hp} {s : Shared} {a C dx : Addr} {fs : List (Str × V)} {f : Str} {v : V} {A : Around} {E : Value → Shared → Prop}
end
section
variable {X : Cx} {o e value : Expr} {f : Str} {pos pos' tpos : Pos} {ta tv : TE}
end
section
variable {X : Cx} {pins : List (Addr × Obj)} {σ : St} {H : Hp} {s : Shared} {A : Around} {E : Value → Shared → Prop} {Q : Value → Shared → Prop} {c : Value} {b : Bool}
inductive TyOf (K : PySem.W.Frag) (H : Hp) : V → Value → Prop where
  | non : TyOf K H .non (.type "NoneType")
  | bl (x : Bool) : TyOf K H (.bl x) (.type "bool")
  | int (i : Int) : TyOf K H (.int i) (.type "int")
  | str (x : Str) : TyOf K H (.str x) (.type "str")
  | flt (x : UInt64) : TyOf K H (.flt x) (.type "float")
  | lst {a : Addr} {xs : List V} (e : H a = some (.lst xs)) : TyOf K H (.ref a) (.type "list")
  | frz {a : Addr} {o : Obj} {xs : List V} (e : H a = some (.frz o (.lst xs))) : TyOf K H (.ref a) (.type "list")
  | tup {a : Addr} {xs : List V} (e : H a = some (.tup xs)) : TyOf K H (.ref a) (.type "tuple")
  | dK {a : Addr} {kvs : List (Key × V)} (e : H a = some (.dK kvs)) : TyOf K H (.ref a) (.type "dict")
  | dT {a : Addr} {kvs : List (List Key × V)} (e : H a = some (.dT kvs)) : TyOf K H (.ref a) (.type "dict")
  | ins {a C dx : Addr} {fs : List (Str × V)} (e : H a = some (.ins C dx fs)) (cl : Cls K C) (ha : PySem.W.findIn K (.ref C) "__class__" = some (some (.builtin "object.__class__")))
      (hn : PySem.W.specialIn K (.builtin "object.__class__") "__get__" = some (some (.builtin "getset_descriptor.__get__"))) (htk : PySem.W.takesIn K (.builtin "object.__class__") = some true)
      (hm : PySem.W.mroIn K C (.type "object") = some true) : TyOf K H (.ref a) (.ref C)
end
end L2
namespace L2
open PySem PySem.Spec PyProof.Rows
structure Room (k : Nat) (A : Around) : Prop where
  hd : A.handled = none
  dp : A.depth + 3 * k + 5 < recursionLimit
  un : A.units + 16 * k + 200 < cLine
theorem Room.mono {j k : Nat} {A : Around} (r : Room k A) (h : j ≤ k) : Room j A := ⟨r.hd, by have := r.dp; omega, by have := r.un; omega⟩
theorem Room.deeper {k : Nat} {A : Around} (r : Room (k + 1) A) (env : Env) : Room k (A.deeper env) :=
  ⟨r.hd, by have := r.dp; show A.depth + 1 + 3 * k + 5 < _; omega, by have := r.un; show A.units + 3 + 16 * k + 200 < _; omega⟩
theorem Room.in1 {k : Nat} {A : Around} (r : Room (k + 1) A) : Room k A.in1 :=
  ⟨r.hd, by have := r.dp; show A.depth + 3 * k + 5 < _; omega, by have := r.un; show A.units + 1 + 16 * k + 200 < _; omega⟩
theorem Room.depth {k : Nat} {A : Around} (r : Room k A) : A.depth < recursionLimit := by have := r.dp; omega
theorem Room.units {k : Nat} {A : Around} (r : Room k A) : A.units + 64 < cLine := by have := r.un; omega
noncomputable def tNil : TA := fun _ H Q => Q [] H
noncomputable def tCons (ta : TE) (tr : TA) : TA := fun σ H Q => ta σ H fun x H1 => tr σ H1 fun xs H2 => Q (x :: xs) H2
section
variable {X : Cx} {e : Expr} {es : List Expr} {te : TE} {t : TA} {pos : Pos}
theorem pa_nil : PA X [] tNil := fun _ _ _ _ H Q I h => Calls.spliced_nil ⟨[], H, I, .nil, h⟩
theorem pa_cons (ha : PE X e te) (hr : PA X es t) (hs : starEach (e :: es) X.env = (false, eval e X.env) :: starEach es X.env := by rfl) : PA X (e :: es) (tCons te t) := by
  intro pos pins s σ H Q I h
  rw [hs]
  show wpAny _ _ (spliced ((false, eval e X.env) :: backTo pos (starEach es X.env))) _ _ s
  refine Calls.spliced_cons (thn (ha pins s σ H _ I h) fun u s1 zpat => ?_)
  obtain ⟨x, H1, I1, r1, q1⟩ := zpat
  exact thn (hr pos pins s1 σ H1 _ I1 q1) fun us s2 ⟨xs, H2, I2, r2, q2⟩ => ⟨x :: xs, H2, I2, .cons r1 r2, q2⟩
noncomputable def tTup (t : TA) : TE := fun σ H Q => t σ H fun xs H1 => xs.length ≤ sizeLine ∧ ∀ p, H1 p = none → Q (.ref p) (upd H1 p (.tup xs))
noncomputable def tLst (t : TA) : TE := fun σ H Q => t σ H fun xs H1 => xs.length ≤ sizeLine ∧ ∀ p, H1 p = none → Q (.ref p) (upd H1 p (.lst xs))
theorem pe_tup {x1} (h : PA X es t) : PE X (.Tuple es x1 pos) (tTup t) := by
  intro pins s σ H Q I hq
  refine wpAny_Tuple_spliced (thn (h pos pins s σ H _ I hq) fun us s1 ⟨xs, H1, I1, r, z, q⟩ => ⟨by rw [← r.length]; exact z, ?_⟩)
  have hf : H1 s1.heap.objs.size = none := I1.hok.fresh (Nat.le_refl _)
  refine ⟨.ref s1.heap.objs.size, upd H1 s1.heap.objs.size (.tup xs), I1.laid (t' := s1.toks) (fun b u e => Heap.get?_push_of_some _ e) (Nat.le_refl _) ?_, rfl, q _ hf⟩
  exact ⟨z, us, r, ⟨_, Heap.get?_push_size _ rfl, rfl, _, rfl⟩⟩
theorem pe_lst (h : PA X es t) : PE X (.List es pos) (tLst t) := by
  intro pins s σ H Q I hq
  refine wpAny_List_spliced (thn (h pos pins s σ H _ I hq) fun us s1 ⟨xs, H1, I1, r, z, q⟩ => ⟨by rw [← r.length]; exact z, ?_⟩)
  have hf : H1 s1.heap.objs.size = none := I1.hok.fresh (Nat.le_refl _)
  refine ⟨.ref s1.heap.objs.size, upd H1 s1.heap.objs.size (.lst xs), I1.laid (t' := s1.toks) (fun b u e => Heap.get?_push_of_some _ e) (Nat.le_refl _) ?_, rfl, q _ hf⟩
  exact L2.i_AEEA (z) (us) (0) (r) (Heap.get?_push_size _ rfl)
end
noncomputable abbrev Sp := List V → Hp → VK → XK → Prop
noncomputable abbrev CXT := List Env → Hp → Shared → XK → Value → Shared → Prop
structure Env0 (P : Program) (w : World) (K : PySem.W.Frag) (mg : Str → Option Value) (base : Heap) (A : Around) (outer : List Env) (s : Shared) (H : Hp) : Prop where
  frames : A.frames = some outer
  mod : Mod K mg base
  bs : ∀ b o, base.get? b = some o → s.heap.get? b = some o ∧ H b = none
  bsz : base.objs.size ≤ s.heap.objs.size
  funs : s.heap.FunFrames base outer
  frf : ∀ b ∈ frs outer, H b = none
  hok : HOk P w H s.heap
  bare : AllBare s.gens
  tabs : TabsOk P K mg base H
noncomputable def CE (outer : List Env) (P : Program) (w : World) (H : Hp) (s : Shared) (Q : VK) (u : Value) (s' : Shared) : Prop :=
  ∃ v H', s'.os = s.os ∧ AllBare s'.gens ∧ Un (frs outer) [] H H' s.heap s'.heap ∧ HOk P w H' s'.heap ∧ RelV v u ∧ Q v H'
noncomputable def CR (CX : CXT) (outer : List Env) (P : Program) (w : World) (H : Hp) (s : Shared) (Q : VK) (E : XK) (r : Result) (s' : Shared) : Prop :=
  match r with
  | .ok (.ret u) => CE outer P w H s Q u s'
  | .ok _ => False
  | .error e => CX outer H s E e s'
structure FnOk (P : Program) (w : World) (K : PySem.W.Frag) (mg : Str → Option Value) (base : Heap) (CX : CXT) (k : Nat) (f : Addr) (fd : FuncData) (ps : List Str) (sp : Sp) : Prop where
  len : ∀ vs H Q E, sp vs H Q E → vs.length = ps.length
  run : ∀ (A : Around) (outer : List Env) (s : Shared) (H : Hp) (args : Args) (us : List Value) (vs : List V) (Q : VK) (E : XK), Room k A → Env0 P w K mg base A outer s H → BindsTo s fd args (ps.zip us) → Vals vs us → sp vs H Q E →
    codeAny (model P w) A (.call (.ref f) args) (CR CX outer P w H s Q E) s
theorem FnOk.mono {P : Program} {w : World} {K : PySem.W.Frag} {mg : Str → Option Value} {base : Heap} {CX : CXT} {j k : Nat} {f : Addr} {fd : FuncData} {ps : List Str} {sp : Sp} (F : FnOk P w K mg base CX j f fd ps sp) (h : j ≤ k) :
    FnOk P w K mg base CX k f fd ps sp := ⟨F.len, fun A outer s H args us vs Q E hr => F.run A outer s H args us vs Q E (hr.mono h)⟩
theorem FnOk.imp {P : Program} {w : World} {K : PySem.W.Frag} {mg : Str → Option Value} {base : Heap} {CX : CXT} {k : Nat} {f : Addr} {fd : FuncData} {ps : List Str} {sp sp' : Sp} (F : FnOk P w K mg base CX k f fd ps sp)
    (h : ∀ vs H Q E, sp' vs H Q E → sp vs H Q E) : FnOk P w K mg base CX k f fd ps sp' :=
  ⟨fun vs H Q E q => F.len vs H Q E (h _ _ _ _ q), fun A outer s H args us vs Q E hr he hb hv hs => F.run A outer s H args us vs Q E hr he hb hv (h _ _ _ _ hs)⟩
theorem Env0.in1 {P : Program} {w : World} {K : PySem.W.Frag} {mg : Str → Option Value} {base : Heap} {A : Around} {outer : List Env} {s : Shared} {H : Hp} (e : Env0 P w K mg base A outer s H) :
    Env0 P w K mg base A.in1 outer s H := ⟨e.frames, e.mod, e.bs, e.bsz, e.funs, e.frf, e.hok, e.bare, e.tabs⟩
section
variable {X : Cx} {pins : List (Addr × Obj)} {σ : St} {H : Hp} {s s' : Shared}
theorem Inv.env0 (I : Inv X pins σ H s) : Env0 X.prog X.w X.K X.mg X.base X.A X.stack s H :=
  ⟨I.ok.frames, I.ok.mod, I.bs, Nat.le_trans I.ok.bsz I.sz, I.stack, I.stkFree, I.hok, I.bare, fun x c p h1 h2 => let z := I.ok.tabs x c p h1 h2; ⟨I.base.tabs p z.1, z.2⟩⟩
theorem Inv.after {Q : VK} {u : Value} (I : Inv X pins σ H s) (h : CE X.stack X.prog X.w H s Q u s') : EP X pins σ Q u s' := by
  refine L2.o_EEAAAAA (h) fun v H' os bare un hok r q => ?_
  obtain ⟨hh, g, d, t, os'⟩ := s'
  obtain rfl : os' = s.os := os
  exact ⟨v, H', I.call (h' := hh) (g' := g) (d' := d) (t' := t) (ch := []) un hok bare (fun b z => absurd z (by simp)), r, q⟩
end
noncomputable def tCall (sp : Sp) (dvs : List V) (E : XK) (t : TA) : TE := fun σ H Q => t σ H fun vs H1 => sp (vs ++ dvs) H1 Q E
noncomputable def Binds (K : PySem.W.Frag) (fd : FuncData) (ps : List Str) (ds : List Value) : Prop :=
  ∀ (s : Shared) (us : List Value), K.In s.heap → (us ++ ds).length = ps.length → BindsTo s fd ⟨us, []⟩ (ps.zip (us ++ ds))
theorem Binds.all {K : PySem.W.Frag} {fd : FuncData} {ps : List Str} (h : ∀ us : List Value, us.length = ps.length → bindArgs fd ⟨us, []⟩ = pure (ps.zip us)) : Binds K fd ps [] := fun s us _ hl => by
  rw [List.append_nil] at hl ⊢
  exact .of_eq (h us hl)
noncomputable def Passes (CX : CXT) (X : Cx) (E : XK) : Prop := ∀ (pins : List (Addr × Obj)) (σ : St) (H : Hp) (s : Shared) (e : Value) (s' : Shared), Inv X pins σ H s → CX X.stack H s E e s' → X.xe e s'
section
variable {X : Cx} {CX : CXT} {k : Nat} {f C : Addr} {fd : FuncData} {ps : List Str} {sp : Sp} {dvs : List V} {ds : List Value} {E : XK} {x m : Str} {p pos apos : Pos} {e o : Expr} {es : List Expr} {ta : TE} {t : TA}
theorem run_fn {pins : List (Addr × Obj)} {σ : St} {H : Hp} {s : Shared} {Q : VK} {us : List Value} {vs : List V} (F : FnOk X.prog X.w X.K X.mg X.base CX k f fd ps sp) (hr : Room k X.A) (hb : Binds X.K fd ps ds) (hd : Vals dvs ds) (hx : Passes CX X E)
    (I : Inv X pins σ H s) (r : Vals vs us) (h : sp (vs ++ dvs) H Q E) : wpAny (model X.prog X.w) X.A (call (.ref f) us) (EP X pins σ Q) X.xe s := by
  have r2 : Vals (vs ++ dvs) (us ++ ds) := r.append hd
  have hl : (us ++ ds).length = ps.length := by rw [← r2.length]; exact F.len _ _ _ _ h
  refine wpAny_call (codeAny_mono (F.run X.A X.stack s H ⟨us, []⟩ (us ++ ds) (vs ++ dvs) Q E hr I.env0 (hb s us I.kIn hl) r2 h) fun r s' hq => ?_)
  cases r with
  | error e => exact hx pins σ H s e s' I hq
  | ok fl =>
    cases fl with
    | ret u => exact I.after hq
    | next => exact False.elim hq
    | brk => exact False.elim hq
    | cont => exact False.elim hq
theorem pe_call (F : FnOk X.prog X.w X.K X.mg X.base CX k f fd ps sp) (hr : Room k X.A) (hg : Gl X x) (hm : X.mg x = some (.ref f)) (hk : PySem.W.keepIn X.K (.ref f) = true) (hb : Binds X.K fd ps ds) (hd : Vals dvs ds) (hx : Passes CX X E)
    (ha : PA X (e :: es) t) (hdb : (x == ("__debug__" : Str)) = false := by decide) (he : starEach (e :: es) X.env = (false, eval e X.env) :: starEach es X.env := by rfl) (hpl : (backTo pos (starEach es X.env)).any (·.1) = false := by rfl) :
    PE X (.Call (.Name x p) (e :: es) [] pos) (tCall sp dvs E t) := by
  intro pins s σ H Q I h
  refine wpAny_Call_Name_kw (ld_glob I hg hm ?_ hdb)
  refine PySem.W.callWith_K (h₀ := X.base) I.ok.mod.kin hk (thn (ha pos pins s σ H _ I h) fun us s1 ⟨vs, H1, I1, r, q⟩ => ⟨I1.kIn, ?_⟩) he hpl
  exact run_fn F hr hb hd hx I1 r q
structure Mk (K : PySem.W.Frag) (C f : Addr) : Prop where
  makes : PySem.W.makesIn K C = true
  init : PySem.W.findIn K (.ref C) "__init__" = some (some (.ref f))
  fn : PySem.W.isFn K (.ref f) = true
  kp : PySem.W.keepIn K (.ref C) = true
end
section
variable {X : Cx} {CX : CXT} {k : Nat} {f C : Addr} {fd : FuncData} {ps ks : List Str} {sp : Sp} {E : XK} {x m : Str} {p pos apos kpos : Pos} {e o : Expr} {es : List Expr} {kws : List Keyword} {te ta : TE} {t tk : TA} {nm : Option Str}
structure KBinds (K : PySem.W.Frag) (fd : FuncData) (ps ks : List Str) (g : List Value → List Value → List Value) (gV : List V → List V → List V) : Prop where
  to : ∀ (s : Shared) (us ws : List Value), K.In s.heap → (g us ws).length = ps.length → BindsTo s fd ⟨us, ks.zip ws⟩ (ps.zip (g us ws))
  rel : ∀ {vs : List V} {us : List Value} {zs : List V} {ws : List Value}, Vals vs us → Vals zs ws → Vals (gV vs zs) (g us ws)
variable {g : List Value → List Value → List Value} {gV : List V → List V → List V}
end
structure FnScope (N P : List Str) (sc : Scope) : Prop where
  kind : sc.kind = .function
  co : sc.isCoroutine = false
  gen : sc.isGenerator = false
  nd : N.Nodup
  pre : N.take P.length = P
  par : ∀ x ∈ P, sc.names.lookup x = some .local ∨ sc.names.lookup x = some .cell
  nofree : ∀ y ∈ sc.names, y.2 ≠ .free
theorem bindL_out {kindOf : Str → Option NameKind} {x : Str} : ∀ {binds : List (Str × Value)} {m : Str → Option Value}, (∀ v, (x, v) ∉ binds) → bindL kindOf binds m x = m x
  | [], _, _ => rfl
  | (n, v) :: r, m, h => by
    unfold bindL
    rw [bindL_out fun w hw => h w (List.mem_cons_of_mem _ hw)]
    split
    · have : x ≠ n := by rintro rfl; exact h v List.mem_cons_self
      simp [this]
    · rfl
theorem bindC_out {kindOf : Str → Option NameKind} {x : Str} : ∀ {binds : List (Str × Value)} {m : Str → Option Value}, (∀ v, (x, v) ∉ binds) → bindC kindOf binds m x = m x
  | [], _, _ => rfl
  | (n, v) :: r, m, h => by
    unfold bindC
    rw [bindC_out fun w hw => h w (List.mem_cons_of_mem _ hw)]
    split
    · rfl
    · have : x ≠ n := by rintro rfl; exact h v List.mem_cons_self
      simp [this]
theorem bindL_get {kindOf : Str → Option NameKind} {x : Str} {v : Value} : ∀ {P : List Str} {vs : List Value} {i : Nat} {m : Str → Option Value}, P.Nodup → P[i]? = some x → vs[i]? = some v → kindOf x = some .local →
    bindL kindOf (P.zip vs) m x = some v
  | [], _, _, _, _, h, _, _ => by simp at h
  | _ :: _, [], _, _, _, _, h, _ => by simp at h
  | p :: P, w :: vs, 0, m, nd, h1, h2, hk => by
    simp at h1 h2; subst h1; subst h2
    show bindL kindOf ((p, w) :: P.zip vs) m p = _
    unfold bindL
    rw [bindL_out fun v hv => (List.nodup_cons.mp nd).1 (List.of_mem_zip hv).1, if_pos hk]
    simp
  | p :: P, w :: vs, i + 1, m, nd, h1, h2, hk => by
    show bindL kindOf ((p, w) :: P.zip vs) m x = _
    unfold bindL
    exact bindL_get (i := i) (List.nodup_cons.mp nd).2 (by simpa using h1) (by simpa using h2) hk
theorem bindC_get {kindOf : Str → Option NameKind} {x : Str} {v : Value} : ∀ {P : List Str} {vs : List Value} {i : Nat} {m : Str → Option Value}, P.Nodup → P[i]? = some x → vs[i]? = some v → kindOf x ≠ some .local →
    bindC kindOf (P.zip vs) m x = some v
  | [], _, _, _, _, h, _, _ => by simp at h
  | _ :: _, [], _, _, _, _, h, _ => by simp at h
  | p :: P, w :: vs, 0, m, nd, h1, h2, hk => by
    simp at h1 h2; subst h1; subst h2
    show bindC kindOf ((p, w) :: P.zip vs) m p = _
    unfold bindC
    rw [bindC_out fun v hv => (List.nodup_cons.mp nd).1 (List.of_mem_zip hv).1, if_neg hk]
    simp
  | p :: P, w :: vs, i + 1, m, nd, h1, h2, hk => by
    show bindC kindOf ((p, w) :: P.zip vs) m x = _
    unfold bindC
    exact bindC_get (i := i) (List.nodup_cons.mp nd).2 (by simpa using h1) (by simpa using h2) hk
noncomputable def start (N : List Str) (vs : List V) : St := vs.map some ++ List.replicate (N.length - vs.length) none
noncomputable def cxOf (CX : CXT) (P : Program) (w : World) (K : PySem.W.Frag) (mg : Str → Option Value) (base : Heap) (N : List Str) (qual : Str) (scope : Scope) (f : Addr) (cd : Value) (A : Around) (outer : List Env) (s : Shared) (H : Hp) (E : XK) : Cx where
  prog := P
  w := w
  K := K
  mg := mg
  base := base
  A := A.deeper (envOfC qual scope s.heap.objs.size f cd)
  N := N
  s₀ := s
  H₀ := H
  env := envOfC qual scope s.heap.objs.size f cd
  outer := outer
  stack := envOfC qual scope s.heap.objs.size f cd :: outer
  ex := []
  calm := true
  fn := fun _ => true
  pn := []
  xe := fun e s' => wpAny (model P w) (A.deeper (envOfC qual scope s.heap.objs.size f cd)) (leaving (envOfC qual scope s.heap.objs.size f cd) e) (fun _ s'' => CX outer H s E e s'') (fun e' s'' => CX outer H s E e' s'') s'
theorem cell_has {sc : Scope} {n : Nat} {x : Str} (h : sc.names.lookup x = some .cell) : ∃ c, (cellsFrom n sc.names []).lookup x = some c := by
  have q := PySem.W.cellsFrom_some sc.names n [] (.inl h)
  exact Option.isSome_iff_exists.mp q
theorem inv_start {CX : CXT} {P : Program} {w : World} {K : PySem.W.Frag} {mg : Str → Option Value} {base : Heap} {N ps : List Str} {qual : Str} {scope : Scope} {f : Addr} {cd : Value} {A : Around} {outer : List Env} {s s1 : Shared} {H : Hp} {E : XK} {us : List Value} {vs : List V}
    (S : FnScope N ps scope) (hd : A.handled = none) (e0 : Env0 P w K mg base A outer s H) (hl : vs.length = ps.length) (r : Vals vs us)
    (x : InCallC s s.heap.objs.size (bindL (envOfC qual scope s.heap.objs.size f cd).kindOf (ps.zip us) fun _ => none) (cellsFrom (s.heap.objs.size + 1) scope.names []) (bindC (envOfC qual scope s.heap.objs.size f cd).kindOf (ps.zip us) fun _ => none) s1) :
    Inv (cxOf CX P w K mg base N qual scope f cd A outer s H E) [] (start N vs) H s1 := by
  have hpl : ps.length ≤ N.length := by have := congrArg List.length S.pre; rw [List.length_take] at this; omega
  refine L2.o_EEA (x.done) fun h1 tk zq2 hk => ?_
  subst zq2
  have noA : ∀ b : Addr, b ∉ (cxOf CX P w K mg base N qual scope f cd A outer s H E).ex := fun b z => absurd (show b ∈ ([] : List Addr) from z) (by simp)
  refine ⟨⟨e0.mod, S.kind, rfl, rfl, Nat.le_refl _, fun y z c h1 h2 => ?_, fun y hy => ?_, fun y c _ h => ?_, fun _ => hd, Around.frames_deeper e0.frames, .inr ⟨rfl, rfl⟩, fun b z => absurd z (noA b), e0.bs, e0.bsz, fun b _ _ => noA b, fun b z => absurd z (noA b), e0.funs, e0.frf, e0.tabs⟩,
    rfl, e0.bare, Un.kept hk, ⟨_, x.toInCall.ns, fun i y v h1 h2 h3 => ?_⟩, fun y c h => ⟨_, x.cell y c h⟩, e0.hok.fresh (Nat.le_refl _), fun y c h => ?_, fun p hp => absurd (show p ∈ ([] : List (Addr × Obj)) from hp) (by simp), e0.hok.kept hk, ?_⟩
  · exact name_of_addr x.apart (PySem.mem_of_lookup h1) (PySem.mem_of_lookup h2)
  · have hy : scope.names.lookup y = some .cell ∨ scope.names.lookup y = some .free := hy
    rcases hy with hy | hy
    · exact cell_has hy
    · exact absurd rfl (S.nofree _ (PySem.mem_of_lookup hy))
  · exact Nat.le_of_lt (x.above y c (PySem.mem_of_lookup h))
  · have hi : i < vs.length := by
      unfold start at h2
      by_cases hi : i < vs.length
      · exact hi
      · rw [List.getElem?_append_right (by simpa using hi)] at h2
        rw [List.getElem?_replicate] at h2
        split at h2 <;> cases h2
    have ha : vs[i]? = some v := by
      unfold start at h2
      rw [List.getElem?_append_left (by simpa using hi), List.getElem?_map] at h2
      cases e : vs[i]? with
      | none => rw [e] at h2; cases h2
      | some a => rw [e] at h2; cases h2; rfl
    refine L2.o_EA (r.get ha) fun u hu rv => ?_
    have hp : ps[i]? = some y := by
      rw [← S.pre, List.getElem?_take_of_lt (by omega)]; exact h1
    have ndP : ps.Nodup := by rw [← S.pre]; exact S.nd.sublist (List.take_sublist _ _)
    refine ⟨u, rv, ?_⟩
    rcases S.par y (List.mem_of_getElem? hp) with k | k
    · exact .inl ⟨k, bindL_get ndP hp hu k⟩
    · refine L2.o_E (cell_has (n := s.heap.objs.size + 1) k) fun c e => ?_
      refine .inr ⟨.inl k, c, e, ?_⟩
      have q := x.cell y c e
      rw [bindC_get ndP hp hu (by show scope.names.lookup y ≠ _; rw [k]; decide)] at q
      exact q
  · exact .inl (e0.hok.fresh (Nat.le_of_lt (x.above y c (PySem.mem_of_lookup h))))
  · unfold start
    show _ = N.length
    rw [List.length_append, List.length_map, List.length_replicate]
    omega
theorem fn_of {CX : CXT} {P : Program} {w : World} {K : PySem.W.Frag} {mg : Str → Option Value} {base : Heap} {k : Nat} {f : Addr} {name qual : Str} {params : Arguments} {body : List Stmt} {scope : Scope} {dV kV doc pm cdv ct oc : Value} {an od : Option Addr}
    {osl : Array (Option Value)} {N ps : List Str} {sp : Sp} (lk : K.lookup f = some ⟨oc, od, .func (PySem.W.fnOf name qual params body scope dV kV doc pm an cdv ct), osl⟩) (hcd : PySem.W.codeIn K cdv qual = true) (S : FnScope N ps scope)
    (len : ∀ vs H Q E, sp vs H Q E → vs.length = ps.length)
    (hbody : ∀ (A : Around) (outer : List Env) (s : Shared) (H : Hp) (vs : List V) (Q : VK) (E : XK), Room k (A.deeper (envOfC qual scope s.heap.objs.size f cdv)) → sp vs H Q E →
      ∃ t, PSs (cxOf CX P w K mg base N qual scope f cdv A outer s H E) body t ∧ t { nx := fun _ H' => Q .non H', rt := Q } (start N vs) H) :
    FnOk P w K mg base CX (k + 1) f (PySem.W.fnOf name qual params body scope dV kV doc pm an cdv ct) ps sp := by
  refine ⟨len, fun A outer s H args us vs Q E hr e0 hb r hsp => ?_⟩
  have hl := len _ _ _ _ hsp
  have KX : K.In s.heap := e0.mod.kin.keeps fun b o e => (e0.bs b o e).1
  have lim : s.heap.NoLimit := e0.mod.nolimit.keeps fun b o e => (e0.bs b o e).1
  have hkind : ∀ y ∈ ps.zip us, scope.names.lookup y.1 = some .local ∨ (scope.names.lookup y.1 = some .cell ∧ ((cellsFrom (s.heap.objs.size + 1) scope.names []).lookup y.1).isSome = true) := fun ⟨n, v⟩ hy => by
    rcases S.par n (List.of_mem_zip hy).1 with q | q
    · exact .inl q
    · exact .inr ⟨q, PySem.W.cellsFrom_some _ _ _ (.inl q)⟩
  refine codeAny_call_function hr.depth (KX _ _ lk) rfl S.co S.gen rfl (PySem.W.codeRec_of KX hcd) (hb _ _ _ _ ?_)
  refine wpAny_newFunctionEnv_cells S.kind hkind fun env he s1 x => ?_
  subst he
  refine ⟨lim.keeps x.toInCall.keep, codeAny_func ?_⟩
  refine L2.o_EA (hbody A outer s H vs Q E (hr.deeper _) hsp) fun t ht hq => ?_
  have I : Inv (cxOf CX P w K mg base N qual scope f cdv A outer s H E) [] (start N vs) H s1 := inv_start S hr.hd e0 hl r x
  refine wpAny_mono (ht [] s1 (start N vs) H _ I hq) (fun fl s' hs => ?_) fun e s' hs => hs
  have fin : ∀ {σ' : St} {H' : Hp} {v : V} {u : Value}, Inv (cxOf CX P w K mg base N qual scope f cdv A outer s H E) [] σ' H' s' → RelV v u → Q v H' → CE outer P w H s Q u s' :=
    fun {σ' H' v u} J rv q => ⟨v, H', J.os, J.bare, J.base, J.hok, rv, q⟩
  cases fl with
  | ret u =>
    refine L2.o_EEEAA (hs) fun v σ' H' J rv q => ?_
    exact fin J rv q
  | next =>
    refine L2.o_EEA (hs) fun σ' H' J q => ?_
    exact fin (v := V.non) (u := Value.none) J rfl q
  | brk =>
    refine L2.o_EEA (hs) fun _ _ _ q => ?_
    exact False.elim q
  | cont =>
    refine L2.o_EEA (hs) fun _ _ _ q => ?_
    exact False.elim q
end L2
namespace L2
open PySem PySem.Spec PyProof.Rows
section
variable {X : Cx} {x : Str} {p pos : Pos} {e : Expr} {es : List Expr} {t : TA} {id T : String} {r : List V → Hp → VK → Prop}
noncomputable def tCB (r : List V → Hp → VK → Prop) (t : TA) : TE := fun σ H Q => t σ H fun vs H1 => r vs H1 Q
theorem pe_callB (hc : CallR X (.builtin id) r) (hg : Gl X x) (hm : X.mg x = none) (hv : bootBuiltins x = some (.builtin id)) (ha : PA X (e :: es) t) (hn : x ≠ "__name__" := by decide) (hdb : (x == ("__debug__" : Str)) = false := by decide)
    (he : starEach (e :: es) X.env = (false, eval e X.env) :: starEach es X.env := by rfl) (hpl : (backTo pos (starEach es X.env)).any (·.1) = false := by rfl) : PE X (.Call (.Name x p) (e :: es) [] pos) (tCB r t) := by
  intro pins s σ H Q I h
  refine wpAny_Call_Name_kw (ld_blt I hg hm hv ?_ hn hdb)
  exact PyProof.Rows.callWith_builtin1 (thn (ha pos pins s σ H _ I h) fun us s1 ⟨vs, H1, I1, r1, q1⟩ => hc pins s1 σ H1 vs us Q I1 r1 q1) he hpl
theorem pe_callTy (hc : CallR X (.type T) r) (hg : Gl X x) (hm : X.mg x = none) (hv : bootBuiltins x = some (.type T)) (ha : PA X (e :: es) t) (hn : x ≠ "__name__" := by decide) (hdb : (x == ("__debug__" : Str)) = false := by decide)
    (he : starEach (e :: es) X.env = (false, eval e X.env) :: starEach es X.env := by rfl) (hpl : (backTo pos (starEach es X.env)).any (·.1) = false := by rfl) : PE X (.Call (.Name x p) (e :: es) [] pos) (tCB r t) := by
  intro pins s σ H Q I h
  refine wpAny_Call_Name_kw (ld_blt I hg hm hv ?_ hn hdb)
  exact PyProof.Rows.callWith_type1 (thn (ha pos pins s σ H _ I h) fun us s1 ⟨vs, H1, I1, r1, q1⟩ => hc pins s1 σ H1 vs us Q I1 r1 q1) he hpl
end
end L2
namespace HT
open PySem PyProof.Rows
section
open PySem.SeqAt
open PySem.AutoSeq1 (wpAny_loadPart')
open PySem.MeetsSeq PySem.MeetsSeq2 PySem.MeetsSeq3
end
section
variable {prog : Program} {w : World} {A : Around} {E : Value → Shared → Prop} {s : Shared}
end
end HT
namespace L2
open PySem PySem.Spec PyProof.Rows
noncomputable abbrev TO := St → Hp → (Option Int → Hp → Prop) → Prop
noncomputable def PO (X : Cx) (e : Option Expr) (t : TO) : Prop :=
  ∀ (pins : List (Addr × Obj)) (s : Shared) (σ : St) (H : Hp) (Q : Option Int → Hp → Prop), Inv X pins σ H s → t σ H Q →
    wpAny (model X.prog X.w) X.A (evalPart e X.env) (fun u s' => ∃ o H', Inv X pins σ H' s' ∧ IsPart u o ∧ Q o H') X.xe s
noncomputable def tNoPart : TO := fun _ H Q => Q none H
noncomputable def tPart (t : TE) : TO := fun σ H Q => t σ H fun x H1 => ∃ i, x = .int i ∧ Q (some i) H1
theorem intsAre_of {ns : List Int} : ∀ {us : List Value}, Vals (ns.map V.int) us → IntsAre us ns := by
  induction ns with
  | nil => intro us r; rw [List.map_nil] at r; cases r; exact .nil
  | cons n ns ih =>
    intro us r
    rw [List.map_cons] at r
    cases r with
    | cons r1 r2 =>
      refine L2.o_E (r1) fun t e => ?_
      subst e
      exact .cons n t (ih r2)
section
variable {X : Cx} {e : Expr} {te : TE} {lo hi : Option Expr} {tl th : TO} {pos p2 : Pos}
theorem po_none : PO X none tNoPart := by
  intro pins s σ H Q I h
  rw [evalPart_none]
  exact wpAny_pure ⟨none, H, I, .none, h⟩
theorem po_some (h : PE X e te) : PO X (some e) (tPart te) := by
  intro pins s σ H Q I hw
  rw [evalPart_some]
  refine thn (h pins s σ H _ I hw) fun u s1 zpat => ?_
  obtain ⟨x, H1, I1, r1, q1⟩ := zpat
  revert q1
  refine fun zqq => L2.o_EA zqq fun i zq1 q => ?_
  clear zqq
  subst zq1
  revert r1
  refine fun zqq => L2.o_E zqq fun t zq1 => ?_
  clear zqq
  subst zq1
  exact L2.i_EEAA (some i) (H1) (I1) (.int i t) (q)
noncomputable def SlR (X : Cx) (r : V → Option Int → Option Int → Hp → VK → Prop) : Prop :=
  ∀ (pins : List (Addr × Obj)) (s : Shared) (σ : St) (H : Hp) (x : V) (v vl vu : Value) (lo hi : Option Int) (sl : Addr) (Q : VK), Inv X pins σ H s → RelV x v → s.heap.IsSliceOf sl vl vu .none → IsPart vl lo → IsPart vu hi → r x lo hi H Q →
    ∃ T id, typeLookup (.type T) "__getitem__" = pure (some (.builtin id)) ∧ s.TypeIs v T ∧ wpAny (model X.prog X.w) X.A (getItem v (.ref sl)) (EP X pins σ Q) X.xe s
theorem SlR.or {r r' : V → Option Int → Option Int → Hp → VK → Prop} (h : SlR X r) (h' : SlR X r') : SlR X (fun x lo hi H Q => r x lo hi H Q ∨ r' x lo hi H Q) := by
  intro pins s σ H x v vl vu lo hi sl Q I rx hs pl pu q
  rcases q with q | q
  · exact h pins s σ H x v vl vu lo hi sl Q I rx hs pl pu q
  · exact h' pins s σ H x v vl vu lo hi sl Q I rx hs pl pu q
noncomputable def tSl (r : V → Option Int → Option Int → Hp → VK → Prop) (te : TE) (tl th : TO) : TE := fun σ H Q => te σ H fun x H1 => tl σ H1 fun l H2 => th σ H2 fun u H3 => r x l u H3 Q
theorem pe_slice {r : V → Option Int → Option Int → Hp → VK → Prop} (hr : SlR X r) (he : PE X e te) (hl : PO X lo tl) (hu : PO X hi th) : PE X (.Subscript e (.Slice lo hi none p2) pos) (tSl r te tl th) := by
  intro pins s σ H Q I h
  refine Subscript_ (thn (he pins s σ H _ I h) fun v s1 zpat => ?_)
  obtain ⟨x, H1, I1, r1, q1⟩ := zpat
  refine wpAny_Slice (thn (hl pins s1 σ H1 _ I1 q1) fun vl s2 ⟨l, H2, I2, pl, q2⟩ => thn (hu pins s2 σ H2 _ I2 q2) fun vu s3 zpat => ?_)
  refine L2.o_EEAA (zpat) fun u H3 I3 pu q3 => ?_
  rw [evalPart_none]
  refine wpAny_pure ?_
  have I4 : Inv X pins σ H3 { s3 with heap := s3.heap.push { cls := .type "slice", data := .fields #[vl, vu, .none] } } := I3.kept (t' := s3.toks) fun b ob q => Heap.get?_push_of_some _ q
  refine L2.o_EEAA (hr pins { s3 with heap := s3.heap.push { cls := .type "slice", data := .fields #[vl, vu, .none] } } σ H3 x v vl vu l u s3.heap.objs.size Q I4 r1 (Heap.IsSliceOf.new ..) pl pu q3) fun T id hT ht hg => ?_
  show wpAny (model X.prog X.w) X.A (subscriptTail e (.Slice lo hi none p2) v (.ref s3.heap.objs.size)) (EP X pins σ Q) X.xe { s3 with heap := s3.heap.push { cls := .type "slice", data := .fields #[vl, vu, .none] } }
  exact tail_any (ops := [.ref s3.heap.objs.size, v]) ht hT hg (by with_unfolding_all rfl)
end
end L2
namespace L2
open PySem PySem.Spec PyProof.Rows
noncomputable def ixN (n : Nat) (i : Int) : Option Nat := if 0 ≤ i then (if i < n then some i.toNat else none) else if -(n : Int) ≤ i then some (i + n).toNat else none
noncomputable def atI {α : Type} (xs : List α) (i : Int) : Option α := (ixN xs.length i).bind fun j => xs[j]?
theorem ixN_seq {n : Nat} {i : Int} {j : Nat} (h : ixN n i = some j) : seqIndex? i n = some j ∧ j < n ∧ -(n : Int) ≤ i ∧ i < n := by
  unfold ixN at h
  by_cases h0 : 0 ≤ i
  · rw [if_pos h0] at h
    by_cases h1 : i < n
    · rw [if_pos h1] at h
      have e : i.toNat = j := Option.some.inj h
      exact ⟨by rw [seqIndex_of h0 h1, e], by omega, by omega, h1⟩
    · rw [if_neg h1] at h; cases h
  · rw [if_neg h0] at h
    by_cases h1 : -(n : Int) ≤ i
    · rw [if_pos h1] at h
      have e : (i + n).toNat = j := Option.some.inj h
      exact ⟨by rw [seqIndex_neg (by omega) h1, e], by omega, h1, by omega⟩
    · rw [if_neg h1] at h; cases h
theorem atI_get {α : Type} {xs : List α} {i : Int} {v : α} (h : atI xs i = some v) : ∃ j, seqIndex? i xs.length = some j ∧ xs[j]? = some v ∧ j < xs.length ∧ -(xs.length : Int) ≤ i ∧ i < xs.length := by
  unfold atI at h
  cases e : ixN xs.length i with
  | none => rw [e] at h; cases h
  | some j =>
    rw [e] at h
    refine L2.o_AAA (ixN_seq e) fun h1 h2 h3 h4 => ?_
    exact ⟨j, h1, h, h2, h3, h4⟩
theorem atI_nat {α : Type} {xs : List α} {j : Nat} {v : α} (h : xs[j]? = some v) : atI xs (j : Int) = some v := by
  have hj : j < xs.length := (List.getElem?_eq_some_iff.mp h).1
  have e : ixN xs.length (j : Int) = some j := by
    unfold ixN
    rw [if_pos (by omega), if_pos (by omega)]; simp
  unfold atI; rw [e]; exact h
noncomputable def PlainIx (b : Expr) : Prop := ∀ o i, subscripted b false o i = operate [o, i] (getItem o i)
noncomputable def IxR (X : Cx) (r : R2) : Prop :=
  ∀ (value slice : Expr) (pins : List (Addr × Obj)) (s : Shared) (σ : St) (H : Hp) (x y : V) (v u : Value) (Q : VK), Inv X pins σ H s → RelV x v → RelV y u → r x y H Q →
    subscripted slice false v u = operate [v, u] (getItem v u) → wpAny (model X.prog X.w) X.A (subscriptTail value slice v u) (EP X pins σ Q) X.xe s
noncomputable def MtR (X : Cx) (id : String) (r : V → List V → Hp → VK → Prop) : Prop :=
  ∀ (pins : List (Addr × Obj)) (s : Shared) (σ : St) (H : Hp) (x : V) (xs : List V) (v : Value) (us : List Value) (Q : VK), Inv X pins σ H s → RelV x v → Vals xs us → r x xs H Q →
    wpAny (model X.prog X.w) X.A (call (.builtin id) (v :: us)) (EP X pins σ Q) X.xe s
section
variable {X : Cx} {a b : Expr} {ta tb : TE} {pos : Pos}
theorem IxR.or {r r' : R2} (h : IxR X r) (h' : IxR X r') : IxR X (fun x y H Q => r x y H Q ∨ r' x y H Q) := by
  intro value slice pins s σ H x y v u Q I rx ry q hs
  rcases q with q | q
  · exact h value slice pins s σ H x y v u Q I rx ry q hs
  · exact h' value slice pins s σ H x y v u Q I rx ry q hs
theorem MtR.or {id : String} {r r' : V → List V → Hp → VK → Prop} (h : MtR X id r) (h' : MtR X id r') : MtR X id (fun x xs H Q => r x xs H Q ∨ r' x xs H Q) := by
  intro pins s σ H x xs v us Q I rx rs q
  rcases q with q | q
  · exact h pins s σ H x xs v us Q I rx rs q
  · exact h' pins s σ H x xs v us Q I rx rs q
theorem pe_ix {r : R2} (hr : IxR X r) (ha : PE X a ta) (hb : PE X b tb) (hs : PlainIx b) : PE X (.Subscript a b pos) (tOp r ta tb) := by
  intro pins s σ H Q I h
  exact Subscript_ (binT ha hb I h fun v u s2 x y H2 I2 rx ry q => hr a b pins s2 σ H2 x y v u Q I2 rx ry q (hs _ _))
noncomputable def rIxL (K : PySem.W.Frag) : R2 := fun x y H Q => ∃ p xs i v, x = .ref p ∧ y = .int i ∧ SqL K H p xs ∧ atI xs i = some v ∧ Q v H
noncomputable def rIxT (K : PySem.W.Frag) : R2 := fun x y H Q => ∃ p xs i v, x = .ref p ∧ y = .int i ∧ SqT K H p xs ∧ atI xs i = some v ∧ Q v H
theorem ix_list : IxR X (rIxL X.K) := by
  intro value slice pins s σ H x y v u Q I rx ry h hs
  revert h
  refine fun zqq => L2.o_EEEEAAAA zqq fun p xs i z zq4 zq5 hq he q => ?_
  clear zqq
  subst zq4
  subst zq5
  cases rx
  revert ry
  refine fun zqq => L2.o_E zqq fun t zq1 => ?_
  clear zqq
  subst zq1
  refine L2.o_EAA (I.list hq) fun its r pl hz => ?_
  refine L2.o_EAAAA (atI_get he) fun j h1 h2 h3 h4 h5 => ?_
  refine L2.o_EA (r.get h2) fun w ew rw' => ?_
  have hl := r.length
  have hn := line63
  have fin : EP X pins σ Q w s := ⟨z, H, I, rw', q⟩
  by_cases h0 : 0 ≤ i
  · have hj : i.toNat = j := by
      rw [seqIndex_of h0 h5] at h1
      exact Option.some.inj h1
    exact item_listR pl.isList h0 (by omega) (by rw [hj]; simpa using ew) fin hs
  · have hj : (i + (its.toArray.size : Int)).toNat = j := by
      rw [seqIndex_neg (by omega) h4] at h1
      rw [List.size_toArray, ← hl]
      exact Option.some.inj h1
    exact subscriptTail_builtinR (x := w) pl.isList.typeIs slot_list_getitem.lookup
      (wpAny_getItem_list_neg (Q := fun r s' => r = w ∧ EP X pins σ Q r s') pl.isList (by omega) (by rw [List.size_toArray] <;> omega) (by omega) (by rw [hj]; simpa using ew) ⟨rfl, fin⟩) hs
theorem ix_tup : IxR X (rIxT X.K) := by
  intro value slice pins s σ H x y v u Q I rx ry h hs
  revert h
  refine fun zqq => L2.o_EEEEAAAA zqq fun p xs i z zq4 zq5 hq he q => ?_
  clear zqq
  subst zq4
  subst zq5
  cases rx
  revert ry
  refine fun zqq => L2.o_E zqq fun t zq1 => ?_
  clear zqq
  subst zq1
  refine L2.o_EAA (I.tuple hq) fun its r pl hz => ?_
  refine L2.o_EAAAA (atI_get he) fun j h1 h2 h3 h4 h5 => ?_
  refine L2.o_EA (r.get h2) fun w ew rw' => ?_
  have hl := r.length
  have hn := line63
  have fin : EP X pins σ Q w s := ⟨z, H, I, rw', q⟩
  exact subscriptTail_builtinR (x := w) pl.typeIs slot_tuple_getitem.lookup
    (getItem_tuple (j := j) (Q := fun r s' => r = w ∧ EP X pins σ Q r s') pl (by omega) (by omega) (by rw [List.size_toArray, ← hl]; exact h1) (by simpa using ew) ⟨rfl, fin⟩) hs
theorem mapSeq_set (its : List Value) (n j : Nat) (u : Value) : Obj.mapSeq (·.setIfInBounds j u) { cls := .type "list", data := .seq its.toArray n } = { cls := .type "list", data := .seq (its.set j u).toArray n } := by
  simp [Obj.mapSeq]
theorem Inv.lst {pins : List (Addr × Obj)} {σ : St} {H : Hp} {s : Shared} {p : Addr} {xs : List V} (I : Inv X pins σ H s) (h : H p = some (.lst xs)) :
    ∃ (its : List Value) (n : Nat), Vals xs its ∧ s.heap.get? p = some { cls := .type "list", data := .seq its.toArray n } ∧ xs.length ≤ sizeLine := by
  refine L2.o_AEEA (I.hok p _ h) fun z its n r e => ?_
  exact L2.i_EEAA (its) (n) (r) (e) (z)
theorem Inv.lstUpd {pins : List (Addr × Obj)} {σ : St} {H : Hp} {s : Shared} {p : Addr} {xs ys : List V} {its its' : List Value} {n n' : Nat} {f : Obj → Obj} (I : Inv X pins σ H s) (h : H p = some (.lst xs))
    (ho : s.heap.get? p = some { cls := .type "list", data := .seq its.toArray n }) (hf : f { cls := .type "list", data := .seq its.toArray n } = { cls := .type "list", data := .seq its'.toArray n' }) (r : Vals ys its') (hz : ys.length ≤ sizeLine) (t : Nat) :
    Inv X pins σ (upd H p (.lst ys)) { s with heap := s.heap.update p f, toks := t } := by
  have e : (s.heap.update p f).get? p = some { cls := .type "list", data := .seq its'.toArray n' } := by
    rw [Heap.get?_update_self f ho (by rw [hf] <;> rfl), hf]
  refine I.write (x := p) (e := p) (by rw [h]; trivial) (.inl rfl) (fun b u hb q => (Heap.get?_update_other _ _ (Ne.symm hb)).trans q) ⟨_, e⟩ ?_
  exact L2.i_AEEA (hz) (its') (n') (r) (e)
noncomputable def rSetL : V → V → V → Hp → (Hp → Prop) → Prop := fun o i v H Q => ∃ p xs k j, o = .ref p ∧ i = .int k ∧ H p = some (.lst xs) ∧ ixN xs.length k = some j ∧ Q (upd H p (.lst (xs.set j v)))
theorem set_list : PSet X rSetL := by
  intro pins s σ H o i v ov iv u Q I ro ri rv h
  revert h
  refine fun zqq => L2.o_EEEEAAAA zqq fun p xs k j zq4 zq5 hp hj q => ?_
  clear zqq
  subst zq4
  subst zq5
  cases ro
  revert ri
  refine fun zqq => L2.o_E zqq fun t zq1 => ?_
  clear zqq
  subst zq1
  refine L2.o_EEAA (I.lst hp) fun its n r ho hz => ?_
  refine L2.o_AAA (ixN_seq hj) fun h1 h2 h3 h4 => ?_
  have hl := r.length
  have hn := line63
  have I' : Inv X pins σ (upd H p (.lst (xs.set j v))) { s with heap := s.heap.update p (Obj.mapSeq (·.setIfInBounds j u)) } :=
    I.lstUpd hp ho (mapSeq_set its n j u) (r.set rv j) (by rw [List.length_set]; exact hz) s.toks
  by_cases h0 : 0 ≤ k
  · have hk : k.toNat = j := by
      rw [seqIndex_of h0 h4] at h1
      exact Option.some.inj h1
    exact PySem.W.ki_setAt ho h0 (by omega) (by rw [List.size_toArray, ← hl]; exact h4) (by rw [hk]; exact ⟨_, I', q⟩)
  · have hk : (k + (its.toArray.size : Int)).toNat = j := by
      rw [seqIndex_neg (by omega) h3] at h1
      rw [List.size_toArray, ← hl]
      exact Option.some.inj h1
    exact PySem.W.ki_setBack ho (by omega) (by rw [List.size_toArray, ← hl]; exact h3) (by omega) (by rw [hk]; exact ⟨_, I', q⟩)
noncomputable def flatV : V → Bool
  | .non => true
  | .bl _ => true
  | .int _ => true
  | .str _ => true
  | _ => false
noncomputable def eqV : V → V → Bool
  | .non, .non => true
  | .bl a, .bl b => a == b
  | .bl a, .int b => (if a then 1 else 0) == b
  | .int a, .bl b => a == (if b then 1 else 0)
  | .int a, .int b => a == b
  | .str a, .str b => a == b
  | _, _ => false
theorem eqAt_V {A : Around} {s : Shared} {y x : V} {u v : Value} (ry : RelV y u) (rx : RelV x v) (fy : flatV y = true) (fx : flatV x = true) : SeqAt.EqAt A s u v (eqV y x) := by
  cases y with
  | non =>
    cases ry
    cases x with
    | non => cases rx; exact SeqAt.EqAt.same _
    | bl b => cases rx; exact SeqAt.EqAt.none_bool b
    | int b => obtain ⟨t, rfl⟩ := rx; exact SeqAt.EqAt.none_int b t
    | str b => obtain ⟨t, rfl⟩ := rx; exact SeqAt.EqAt.none_str b t
    | _ => exact absurd (show false = true from fx) Bool.false_ne_true
  | bl a =>
    cases ry
    cases x with
    | non => cases rx; exact SeqAt.EqAt.bool_none a
    | bl b => cases rx; exact SeqAt.EqAt.bool_bool a b
    | int b => obtain ⟨t, rfl⟩ := rx; exact SeqAt.EqAt.bool_int a b t
    | str b => obtain ⟨t, rfl⟩ := rx; exact SeqAt.EqAt.bool_str a b t
    | _ => exact absurd (show false = true from fx) Bool.false_ne_true
  | int a =>
    revert ry
    refine fun zqq => L2.o_E zqq fun t' zq1 => ?_
    clear zqq
    subst zq1
    cases x with
    | non => cases rx; exact SeqAt.EqAt.int_none a t'
    | bl b => cases rx; exact SeqAt.EqAt.int_bool a t' b
    | int b => obtain ⟨t, rfl⟩ := rx; exact SeqAt.EqAt.int_int a t' b t
    | str b => obtain ⟨t, rfl⟩ := rx; exact SeqAt.EqAt.int_str a t' b t
    | _ => exact absurd (show false = true from fx) Bool.false_ne_true
  | str a =>
    revert ry
    refine fun zqq => L2.o_E zqq fun t' zq1 => ?_
    clear zqq
    subst zq1
    cases x with
    | non => cases rx; exact SeqAt.EqAt.str_none a t'
    | bl b => cases rx; exact SeqAt.EqAt.str_bool a t' b
    | int b => obtain ⟨t, rfl⟩ := rx; exact SeqAt.EqAt.str_int a t' b t
    | str b => obtain ⟨t, rfl⟩ := rx; exact SeqAt.EqAt.str_str a t' b t
    | _ => exact absurd (show false = true from fx) Bool.false_ne_true
  | _ => exact absurd (show false = true from fy) Bool.false_ne_true
noncomputable def eqU (x : V) (u : Value) : Bool := match u with
  | .none => eqV .non x
  | .bool b => eqV (.bl b) x
  | .int i _ => eqV (.int i) x
  | .str z _ => eqV (.str z) x
  | _ => false
theorem eqU_of {x y : V} {u : Value} (r : RelV y u) (f : flatV y = true) : eqU x u = eqV y x := by
  cases y with
  | non => cases r; rfl
  | bl b => cases r; rfl
  | int i => obtain ⟨t, rfl⟩ := r; rfl
  | str z => obtain ⟨t, rfl⟩ := r; rfl
  | _ => exact absurd (show false = true from f) Bool.false_ne_true
theorem any_eqU {x : V} : ∀ {xs : List V} {us : List Value}, Vals xs us → xs.all flatV = true → us.any (eqU x) = xs.any fun y => eqV y x
  | _, _, .nil, _ => rfl
  | y :: xs, u :: us, .cons r t, f => by
    rw [List.all_cons, Bool.and_eq_true] at f
    rw [List.any_cons, List.any_cons, eqU_of r f.1, any_eqU t f.2]
theorem mem_eqAt {A : Around} {s : Shared} {x : V} {v : Value} (rx : RelV x v) (fx : flatV x = true) : ∀ {xs : List V} {us : List Value}, Vals xs us → xs.all flatV = true → ∀ u ∈ us, SeqAt.EqAt A s u v (eqU x u) := by
  intro xs us h
  induction h with
  | nil => exact fun _ u hu => by cases hu
  | cons r t ih =>
    intro f u' hu
    rw [List.all_cons, Bool.and_eq_true] at f
    rcases List.mem_cons.mp hu with rfl | hu
    · rw [eqU_of r f.1]; exact eqAt_V r rx f.1 fx
    · exact ih f.2 u' hu
noncomputable def inV (x : V) (xs : List V) : Bool := xs.any fun y => eqV y x
noncomputable def rIn (K : PySem.W.Frag) (neg : Bool) : R2 := fun x y H Q => ∃ p xs, y = .ref p ∧ (SqL K H p xs ∨ SqT K H p xs) ∧ flatV x = true ∧ xs.all flatV = true ∧ Q (.bl (if neg then !inV x xs else inV x xs)) H
theorem op_in_seq : OpR X (compareOp .In) (rIn X.K false) := by
  intro pins s σ H x y v u Q I rx ry h
  revert h
  refine fun zqq => L2.o_EEAAAA zqq fun p xs zq2 hq fx fs q => ?_
  clear zqq
  subst zq2
  cases ry
  rcases hq with hq | hq
  · refine L2.o_EAA (I.list hq) fun its r pl hz => ?_
    refine SeqAt.in_listAt (eqU x) pl.isList (fun w hw => mem_eqAt rx fx r fs w (by simpa using hw)) ⟨.bl _, H, I, rfl, ?_⟩
    rw [show its.toArray.any (eqU x) = its.any (eqU x) by simp, any_eqU r fs]
    exact q
  · refine L2.o_EAA (I.tuple hq) fun its r pl hz => ?_
    refine SeqAt.in_tupleAt (eqU x) pl (fun w hw => mem_eqAt rx fx r fs w (by simpa using hw)) ⟨.bl _, H, I, rfl, ?_⟩
    rw [show its.toArray.any (eqU x) = its.any (eqU x) by simp, any_eqU r fs]
    exact q
theorem call_len_seq : CallR X (.builtin "len") (fun xs H Q => ∃ p ys, xs = [.ref p] ∧ (SqL X.K H p ys ∨ SqT X.K H p ys) ∧ Q (.int ys.length) H) := by
  intro pins s σ H xs us Q I r h
  revert h
  refine fun zqq => L2.o_EEAA zqq fun p ys zq2 hq q => ?_
  clear zqq
  subst zq2
  refine L2.o_EA (vals1 r) fun u zq1 rx => ?_
  subst zq1
  cases rx
  have hn := line63
  rcases hq with hq | hq
  · refine L2.o_EAA (I.list hq) fun its r' pl hz => ?_
    have hlen := r'.length
    exact Calls.call_len_list pl.isList (by simp only [List.size_toArray] <;> omega) ⟨.int ys.length, H, I.tok _, ⟨s.toks + 1, by rw [List.size_toArray, hlen]⟩, q⟩
  · refine L2.o_EAA (I.tuple hq) fun its r' pl hz => ?_
    have hlen := r'.length
    exact len_tuple pl (by simp only [List.size_toArray] <;> omega) ⟨.int ys.length, H, I.tok _, ⟨s.toks + 1, by rw [List.size_toArray, hlen]⟩, q⟩
theorem call_len_str : CallR X (.builtin "len") (fun xs H Q => ∃ z, xs = [.str z] ∧ z.length ≤ sizeLine ∧ Q (.int z.length) H) := by
  intro pins s σ H xs us Q I r h
  revert h
  refine fun zqq => L2.o_EAA zqq fun z zq1 hz q => ?_
  clear zqq
  subst zq1
  refine L2.o_EAE (vals1 r) fun u zq1 t zq3 => ?_
  subst zq1
  subst zq3
  have hn := line63
  exact len_str (by omega) ⟨.int z.length, H, I.tok _, ⟨_, rfl⟩, q⟩
theorem CallR.or {f : Value} {r r' : List V → Hp → VK → Prop} (h : CallR X f r) (h' : CallR X f r') : CallR X f (fun xs H Q => r xs H Q ∨ r' xs H Q) := by
  intro pins s σ H xs us Q I rs q
  rcases q with q | q
  · exact h pins s σ H xs us Q I rs q
  · exact h' pins s σ H xs us Q I rs q
theorem call_list_of : CallR X (.type "list") (fun xs H Q => ∃ p ys, xs = [.ref p] ∧ (SqL X.K H p ys ∨ SqT X.K H p ys) ∧ ∀ l, H l = none → Q (.ref l) (upd H l (.lst ys))) := by
  intro pins s σ H xs us Q I r h
  revert h
  refine fun zqq => L2.o_EEAA zqq fun p ys zq2 hq q => ?_
  clear zqq
  subst zq2
  refine L2.o_EA (vals1 r) fun u zq1 rx => ?_
  subst zq1
  cases rx
  have fin : ∀ (its : List Value), Vals ys its → ys.length ≤ sizeLine → ∀ (h' : Heap) (c' : Nat), (∀ b o', s.heap.get? b = some o' → h'.get? b = some o') →
      h'.get? s.heap.objs.size = some { cls := .type "list", dict := none, data := .seq its.toArray c', slots := #[] } → EP X pins σ Q (.ref s.heap.objs.size) { s with heap := h' } := fun its r' hz h' c' kp e =>
    ⟨.ref s.heap.objs.size, _, I.laid (t' := s.toks) kp (Nat.le_refl _) (show ObjOk X.prog X.w _ h' _ (.lst ys) from ⟨hz, its, c', r', e⟩), rfl, q _ (I.hok.fresh (Nat.le_refl _))⟩
  rcases hq with hq | hq
  · refine L2.o_EAA (I.list hq) fun its r' pl hz => ?_
    have hlen := r'.length
    refine L2.o_EAAE (pl.isList) fun o ho hc n hd => ?_
    exact call_list_seq p (.inl rfl) ho hc hd (fun h' c' kp e => fin its r' hz h' c' kp e) (by simp only [List.size_toArray] <;> omega)
  · refine L2.o_EAA (I.tuple hq) fun its r' pl hz => ?_
    have hlen := r'.length
    refine L2.o_EAAE (pl) fun o ho hc n hd => ?_
    exact call_list_seq p (.inr rfl) ho hc hd (fun h' c' kp e => fin its r' hz h' c' kp e) (by simp only [List.size_toArray] <;> omega)
noncomputable def tyV (K : PySem.W.Frag) (T : String) (x : V) (H : Hp) : Prop := match x with
  | .str _ => T = "str"
  | .int _ => T = "int"
  | .ref p => (T = "list" ∧ ∃ xs, SqL K H p xs) ∨ (T = "tuple" ∧ ∃ o, K.lookup p = some o ∧ o.cls = .type "tuple" ∧ o.dict = none) ∨
      (T = "dict" ∧ ((∃ kvs, H p = some (.dK kvs)) ∨ ∃ kvs, H p = some (.dT kvs))) ∨ (T = "set" ∧ ∃ S n, H p = some (.set S n))
  | _ => False
theorem tyV_is {pins : List (Addr × Obj)} {σ : St} {H : Hp} {s : Shared} {T : String} {x : V} {v : Value} (I : Inv X pins σ H s) (r : RelV x v) (ty : tyV X.K T x H) :
    s.TypeIs v T ∧ ∀ a, v = .ref a → ∃ ob, s.heap.get? a = some ob ∧ ob.dict = none := by
  cases x with
  | str z =>
    revert r
    refine fun zqq => L2.o_E zqq fun t zq1 => ?_
    clear zqq
    subst zq1
    cases (show T = "str" from ty)
    exact ⟨typeIs_str s z t, fun _ e => nomatch e⟩
  | int i =>
    revert r
    refine fun zqq => L2.o_E zqq fun t zq1 => ?_
    clear zqq
    subst zq1
    cases (show T = "int" from ty)
    exact ⟨typeIs_int s i t, fun _ e => nomatch e⟩
  | ref p =>
    cases r
    rcases ty with ⟨rfl, xs, hq⟩ | ⟨rfl, o, hk, hc, hd⟩ | ⟨rfl, hk⟩ | ⟨rfl, S, n, hk⟩
    · refine L2.o_EAA (I.list hq) fun its _ pl _ => ?_
      refine ⟨pl.isList.typeIs, fun a e => ?_⟩
      cases e
      refine L2.o_EEAAA (pl) fun o n e c hd _ => ?_
      exact ⟨o, e, hd⟩
    · refine ⟨⟨o, I.kIn p o hk, hc⟩, fun a e => ?_⟩
      cases e
      exact ⟨o, I.kIn _ o hk, hd⟩
    · have z : ∃ o, s.heap.get? p = some o ∧ o.ExactDict := by
        rcases hk with ⟨kvs, hk⟩ | ⟨kvs, hk⟩
        · refine L2.o_AAEAEEEAA (I.hok p _ hk) fun _ _ _ _ o _ _ e ex _ => ?_
          exact ⟨o, e, ex⟩
        · refine L2.o_AAEAEEEAA (I.hok p _ hk) fun _ _ _ _ o _ _ e ex _ => ?_
          exact ⟨o, e, ex⟩
      refine L2.o_EA (z) fun o e ex => ?_
      refine ⟨⟨o, e, ex.1⟩, fun a e2 => ?_⟩
      cases e2
      exact ⟨o, e, ex.2.1⟩
    · refine L2.o_EEEEAA (I.hok p _ hk) fun o _ _ _ e ex _ => ?_
      refine ⟨⟨o, e, ex.1⟩, fun a e2 => ?_⟩
      cases e2
      exact ⟨o, e, ex.2.1⟩
  | _ => exact False.elim ty
noncomputable def tBM0 (K : PySem.W.Frag) (T : String) (r : V → List V → Hp → VK → Prop) (to : TE) : TE := fun σ H Q => to σ H fun x H1 => tyV K T x H1 ∧ r x [] H1 Q
noncomputable def tBM (K : PySem.W.Frag) (T : String) (r : V → List V → Hp → VK → Prop) (to : TE) (t : TA) : TE := fun σ H Q => to σ H fun x H1 => tyV K T x H1 ∧ t σ H1 fun xs H2 => r x xs H2 Q
variable {o e : Expr} {es : List Expr} {to : TE} {t : TA} {name : Str} {apos cpos : Pos} {T id : String} {r : V → List V → Hp → VK → Prop}
theorem pe_bm0 (pa : PlainAttrs T) (slot : Slot T name id) (hty : typeOf (.builtin id) = pure (.type "method_descriptor")) (hm : MtR X id r) (ho : PE X o to)
    (hbase : attributeBase o name X.env (eval o X.env) = eval o X.env := by rfl) (hline : (apos.endLine == cpos.line) = true := by rfl) : PE X (.Call (.Attribute o name apos) [] [] cpos) (tBM0 X.K T r to) := by
  intro pins s σ H Q I h
  refine wpAny_Call_method0_late hbase hline (thn (ho pins s σ H _ I h) fun v s1 zpat => ?_)
  obtain ⟨x, H1, I1, r1, ty, q1⟩ := zpat
  refine L2.o_A (tyV_is I1 r1 ty) fun h1 h2 => ?_
  exact L2.i_EEAAAAA (T) (id) (pa) (slot) (hty) (h1) (h2) (Calls.callWith_builtin rfl (PySem.evalArgs_none (hm pins s1 σ H1 x [] v [] Q I1 r1 .nil q1)))
theorem pe_bm (pa : PlainAttrs T) (slot : Slot T name id) (hty : typeOf (.builtin id) = pure (.type "method_descriptor")) (hm : MtR X id r) (ho : PE X o to) (ha : PA X (e :: es) t)
    (hbase : attributeBase o name X.env (eval o X.env) = eval o X.env := by rfl)
    (hfew : ((backTo cpos (starEach (e :: es) X.env)).all (fun x => !x.1) && (backToKw cpos (keywordEach [] X.env)).all (fun x => x.1.isSome)
      && decide ((e :: es).length + ([] : List Keyword).length + (if ([] : List Keyword).isEmpty then 0 else 1) < 30)) = true := by rfl)
    (hline : (apos.endLine == cpos.line) = true := by rfl) (hs : starEach (e :: es) X.env = (false, eval e X.env) :: starEach es X.env := by rfl) (hplain : (backTo cpos (starEach es X.env)).any (·.1) = false := by rfl) :
    PE X (.Call (.Attribute o name apos) (e :: es) [] cpos) (tBM X.K T r to t) := by
  intro pins s σ H Q I h
  refine wpAny_Call_method_late hbase hfew hline rfl (thn (ho pins s σ H _ I h) fun v s1 zpat => ?_)
  obtain ⟨x, H1, I1, r1, ty, q1⟩ := zpat
  refine L2.o_A (tyV_is I1 r1 ty) fun h1 h2 => ?_
  refine L2.i_EEAAAAA (T) (id) (pa) (slot) (hty) (h1) (h2) ?_
  have hA := ha cpos pins s1 σ H1 _ I1 q1
  rw [hs] at hA ⊢
  refine Calls.callWith_builtin (by show (false || (backTo cpos (starEach es X.env)).any (·.1)) = false; rw [hplain] <;> rfl) (Calls.evalArgs_plain ?_)
  exact thn hA fun us s2 ⟨vs, H2, I2, r2, q2⟩ => hm pins s2 σ H2 x vs v us Q I2 r1 r2 q2
/- xs.append(e), list.index on a module's tuple .. are MtR facts of 06m -/
end
end L2
namespace L2
open PySem PySem.Spec PyProof.Rows
noncomputable def MtM (X : Cx) (id : String) (r : V → List V → Hp → VK → Prop) : Prop :=
  ∀ (pins : List (Addr × Obj)) (s : Shared) (σ : St) (H : Hp) (x : V) (xs : List V) (v : Value) (us : List Value) (Q : VK), Inv X pins σ H s → RelV x v → Vals xs us → r x xs H Q →
    wpAny (model X.prog X.w) X.A (call (.builtin id) (v :: us)) (EP X pins σ Q) X.xe s
theorem Vals.one {x : V} {us : List Value} (h : Vals [x] us) : ∃ u, us = [u] ∧ RelV x u := by
  cases h with
  | cons r t => cases t; exact ⟨_, rfl, r⟩
theorem Vals.two {x y : V} {us : List Value} (h : Vals [x, y] us) : ∃ u v, us = [u, v] ∧ RelV x u ∧ RelV y v := by
  cases h with
  | cons r t =>
    refine L2.o_EA (Vals.one t) fun u zq1 q => ?_
    subst zq1
    exact L2.i_EEAA (_) (_) (rfl) (r) (q)
theorem Vals.zero : ∀ {us : List Value}, Vals [] us → us = []
  | _, .nil => rfl
theorem Vals.dropLast {xs : List V} {us : List Value} (h : Vals xs us) : Vals xs.dropLast us.dropLast := by
  induction h with
  | nil => exact .nil
  | cons r t ih =>
    cases t with
    | nil => exact .nil
    | cons q t' => exact .cons r ih
theorem Vals.eraseIdx : ∀ {xs : List V} {us : List Value} (i : Nat), Vals xs us → Vals (xs.eraseIdx i) (us.eraseIdx i)
  | _, _, _, .nil => .nil
  | _, _, 0, .cons _ t => t
  | _, _, i + 1, .cons r t => .cons r (Vals.eraseIdx i t)
theorem Vals.reverse {xs : List V} {us : List Value} (h : Vals xs us) : Vals xs.reverse us.reverse := by
  induction h with
  | nil => exact .nil
  | cons r t ih => rw [List.reverse_cons, List.reverse_cons]; exact Vals.append ih (.cons r .nil)
theorem erase_last {α : Type} (l : List α) : l.eraseIdx (l.length - 1) = l.dropLast := by
  induction l with
  | nil => rfl
  | cons a r ih =>
    cases r with
    | nil => rfl
    | cons b r =>
      have e : (a :: b :: r).length - 1 = ((b :: r).length - 1) + 1 := by
        have h1 : (a :: b :: r).length = r.length + 2 := rfl
        have h2 : (b :: r).length = r.length + 1 := rfl
        omega
      rw [e, List.eraseIdx_cons_succ, ih]
      all_goals rfl
section
variable {X : Cx} {pins : List (Addr × Obj)} {σ : St} {H : Hp} {s : Shared} {l b : Addr} {xs ys zs : List V}
theorem Inv.lset {its its' : List Value} {n : Nat} {f : Array Value → Array Value} {t' : Nat} (I : Inv X pins σ H s) (hH : H l = some (.lst xs))
    (e : s.heap.get? l = some { cls := .type "list", data := .seq its.toArray n }) (hf : f its.toArray = its'.toArray) (hv : Vals ys its') (hz : ys.length ≤ sizeLine) :
    Inv X pins σ (upd H l (.lst ys)) { s with heap := s.heap.update l (Obj.mapSeq f), toks := t' } := by
  have q := PySem.IsL.update e f
  rw [hf] at q
  refine I.write (x := l) (e := l) (by rw [hH]; exact trivial) (.inl rfl) (fun b' u hb hu => (Heap.get?_update_other s.heap (Obj.mapSeq f) (Ne.symm hb)).trans hu) ⟨_, q⟩ ?_
  exact L2.i_AEEA (hz) (its') (_) (hv) (q)
theorem Inv.fresh (I : Inv X pins σ H s) : H s.heap.objs.size = none := I.hok.fresh (Nat.le_refl _)
theorem Inv.lstM (I : Inv X pins σ H s) (hH : H l = some (.lst xs)) : xs.length ≤ sizeLine ∧ ∃ (its : List Value) (n : Nat), Vals xs its ∧ xs.length = its.length ∧ s.heap.get? l = some { cls := .type "list", data := .seq its.toArray n } := by
  refine L2.o_AEEA (I.hok l _ hH) fun z its n r e => ?_
  exact L2.i_AEEAA (z) (its) (n) (r) (r.length) (e)
end
section
variable {X : Cx}
noncomputable def rAppend : V → List V → Hp → VK → Prop := fun x vs H Q => ∃ l xs y, x = .ref l ∧ vs = [y] ∧ H l = some (.lst xs) ∧ xs.length < sizeLine ∧ Q .non (upd H l (.lst (xs ++ [y])))
theorem mt_append : MtM X "list.append" rAppend := by
  intro pins s σ H x vs v us Q I rx rv h
  revert h
  refine fun zqq => L2.o_EEEAAAA zqq fun l xs y zq3 zq4 hH hz q => ?_
  clear zqq
  subst zq3
  subst zq4
  cases rx
  refine L2.o_EA (rv.one) fun u zq1 ru => ?_
  subst zq1
  refine L2.o_AEEAA (I.lstM hH) fun z its n r hl e => ?_
  refine call_meets F.slot_list_append ⟨_, e, rfl⟩ F.entry_list_append (F.args_list_append_2 _ _) (PySem.list_append l its.toArray n u (by rw [List.size_toArray]; omega)) ⟨e, ?_⟩
  refine ⟨.non, _, I.lset (its' := its ++ [u]) hH e (by simp) (r.append (.cons ru .nil)) ?_, rfl, q⟩
  rw [List.length_append, List.length_singleton]
  omega
noncomputable def rPop : V → List V → Hp → VK → Prop := fun x vs H Q => ∃ l xs y, x = .ref l ∧ vs = [] ∧ H l = some (.lst xs) ∧ xs[xs.length - 1]? = some y ∧ Q y (upd H l (.lst xs.dropLast))
theorem mt_pop : MtM X "list.pop" rPop := by
  intro pins s σ H x vs v us Q I rx rv h
  revert h
  refine fun zqq => L2.o_EEEAAAA zqq fun l xs y zq3 zq4 hH hy q => ?_
  clear zqq
  subst zq3
  subst zq4
  cases rx
  have hus := rv.zero
  subst hus
  refine L2.o_AEEAA (I.lstM hH) fun z its n r hl e => ?_
  refine L2.o_EA (r.get hy) fun u hu ru => ?_
  have hy' : its.toArray[its.toArray.size - 1]? = some u := by
    show its.toArray[its.length - 1]? = some u
    rw [← Array.getElem?_toList, ← hl]
    exact hu
  refine call_meets F.slot_list_pop ⟨_, e, rfl⟩ F.entry_list_pop (F.args_list_pop_1 _) (MeetsSeq.list_pop_last l its.toArray n u hy' (by rw [List.size_toArray]; omega)) ⟨e, ?_⟩
  refine ⟨y, _, I.lset (its' := its.dropLast) hH e ?_ r.dropLast ?_, ru, q⟩
  · show its.toArray.eraseIdxIfInBounds (its.toArray.size - 1) = its.dropLast.toArray
    rw [List.size_toArray, List.eraseIdxIfInBounds_toArray, erase_last]
  · rw [List.length_dropLast]
    omega
end
section
variable {prog : Program} {w : World} {A : Around} {E : Value → Shared → Prop} {s : Shared}
end
section
variable {X : Cx}
end
end L2
namespace Att
open PySem PySem.W PySem.Calls PyProof.Rows
theorem ints_of_wellAll {P : Params} {h : Heap} : ∀ (ns : List Int) (vs : List Value), WellAll P h vs (ns.map WData.int) → IntsAre vs ns := by
  intro ns
  induction ns with
  | nil =>
    intro vs w
    rw [List.map_nil] at w
    cases w
    exact .nil
  | cons n ns ih =>
    intro vs w
    rw [List.map_cons] at w
    cases w with
    | cons a b =>
      cases a
      exact .cons _ _ (ih _ b)
theorem script_of {l : OpenLaw} {n : Nat} (hn : l.most = some n) {P : Params} {h : Heap} {args : List WData} {vals : List Value}
    (hpre : l.row.toRowW.claim.pre args = true) (hwl : WellAll P h vals args) :
    ∃ a vs ns, vals = [Value.ref a] ∧ args = [WData.list (ns.map WData.int)] ∧ h.get? a = some { cls := .type "list", data := .seq vs.toArray } ∧ IntsAre vs ns ∧ ns.length ≤ n := by
  have hsh : WShape.hasAll [] args [.list .int] = true := (pre_splitW hpre).1
  have hc : l.pre.holds [] { args := args } = true := (pre_splitW hpre).2
  refine L2.o_EEAA (hasAllW_cons hsh) fun d r zq2 h1 h2 => ?_
  subst zq2
  obtain rfl := hasAllW_nil h2
  refine L2.o_EA (hasW_list h1) fun xs zq1 h3 => ?_
  subst zq1
  refine L2.o_E (items_int h3) fun ns zq1 => ?_
  subst zq1
  have hlen : ns.length ≤ n := by
    unfold OpenLaw.pre at hc
    have h4 : (WTm.not (.lt (.lit (.int (n : Int))) (.len (.arg 0)))).holds [] { args := [.list (ns.map .int)] } = true := by
      have h4 := (holds_andW hc).1
      rw [hn] at h4
      exact h4
    have h5 := condW_of h4 (w_not (w_lt w_lit (w_len_list (w_arg rfl))))
    rw [List.length_map] at h5
    refine Nat.le_of_not_lt fun q => ?_
    have q' : (n : Int) < ((ns.length : Nat) : Int) := by omega
    first
      | (rw [decide_eq_true q'] at h5; exact absurd h5 (by decide))
      | (simp at h5; omega)
  cases hwl with
  | cons w1 w2 =>
    cases w2
    cases w1 with
    | list ho hall => exact ⟨_, _, ns, rfl, rfl, ho, ints_of_wellAll ns _ hall, hlen⟩
theorem post_true (l : OpenLaw) (args : List WData) : l.row.toRowW.claim.post args (.bool true) args = true :=
  postW_of (r := l.row.toRowW) (X := (true == true))
    (show WShape.has [] (.bool true) .bool = true by first | rfl | decide | simp [WShape.has, WShape.arms, WShape.armsAll])
    (show (WTm.eq .res (.lit (.bool true))).value [] { args := args, res := some (.bool true), after := args } = some (.bool (true == true)) from w_eq_bool (w_res rfl) w_lit) rfl
theorem attach_call {l : OpenLaw} {n : Nat} {q : Program} {loose : List Str} {XP : (Str → Option Value) → Heap → Prop} {YP : World → Heap → Prop} {d : DefRec}
    (hn : l.most = some n) (hdf : d.params.defaults = [])
    (call : ∀ (w : World) (s₀ s₁ : Shared) (mg mb : Str → Option Value) (fa : Addr) (o : Obj) (pm cd doc : Value) (a : Addr) (vs : List Value) (ns : List Int),
      Ground q loose [] XP w s₀ mg mb s₁.heap → YP w s₁.heap →
      s₁.heap.get? fa = some o → o.data = .func (docDef d.name d.params d.body d.scope pm cd doc) → s₁.heap.CodeRec cd d.name → mg d.name = some (.ref fa) →
      s₁.heap.get? a = some { cls := .type "list", data := .seq vs.toArray } → IntsAre vs ns → ns.length ≤ n → s₁.gens = #[] →
      codeAny (model l.prog w) callerA (.call (.ref fa) ⟨[.ref a], []⟩) (fun r s' => r = .ok (.ret (.bool true)) ∧ OldK s₁.heap s'.heap ∧ s'.os = s₁.os ∧ AllBare s'.gens) s₁) :
    WalkO q loose XP YP l.row.toRowW d [] (fun f vs => PySem.call f vs) := by
  intro w s₀ s₁ mg mb G Y fa o pm cd doc dV kV ho hd hcd hD hmg hg args vals as hpre hlay hrd hwl hlo
  obtain rfl : dV = .none := Dflts.none hD hdf
  obtain rfl : kV = .none := Dflts.noKw hD
  refine L2.o_EEEAAAA (script_of hn hpre hwl) fun a vs ns zq3 zq4 hobj hints hlen => ?_
  subst zq3
  subst zq4
  refine enter_call (codeAny_mono (call w s₀ s₁ mg mb fa o pm cd doc a vs ns G Y ho (fd_plain hd) hcd hmg hobj hints hlen hg) fun r s' hq => ?_)
  revert hq
  refine fun zqq => L2.o_AAA zqq fun zq0 h2 h3 h4 => ?_
  clear zqq
  subst zq0
  exact ⟨.inl ⟨.bool true, .bool true, [], rfl, fun _ => rfl, .bool true, post_true l _, fun _ => ⟨List.Pairwise.nil, fun _ hm => (nomatch hm)⟩⟩, h2, h3, h4⟩
section
variable {prog : Program} {w : World} {A : Around} {E : Value → Shared → Prop} {s : Shared} {K : Frag}
end
end Att
namespace L2
open PySem PySem.Spec PyProof.Rows
theorem vals_ints {vs : List Value} {ns : List Int} (h : IntsAre vs ns) : Vals (ns.map V.int) vs := by
  induction h with
  | nil => exact .nil
  | cons n t h ih => exact .cons ⟨t, rfl⟩ ih
end L2
namespace L2
open PySem PySem.Spec PyProof.Rows
noncomputable abbrev KOf {K : PySem.W.Frag} {h : Heap} (_ : K.In h) : PySem.W.Frag := K
end L2
namespace L2
open PySem PySem.Spec PyProof.Rows
noncomputable def defArgs (s : Stmt) : Arguments := match s with
  | .FunctionDef _ a _ _ _ _ _ _ _ _ => a
  | _ => { posonlyargs := [], args := [], vararg := none, kwonlyargs := [], kw_defaults := [], kwarg := none, defaults := [] }
noncomputable def defBody (s : Stmt) : List Stmt := match s with
  | .FunctionDef _ _ b _ _ _ _ _ _ _ => b
  | _ => []
noncomputable def defScope (s : Stmt) : Scope := match s with
  | .FunctionDef _ _ _ _ _ _ sc _ _ _ => sc
  | _ => { kind := .function, names := [], isGenerator := false, isCoroutine := false }
noncomputable abbrev CX0 : CXT := fun _ _ _ _ _ _ => False
noncomputable abbrev E0 : XK := fun _ _ _ => False
theorem pass0 {X : Cx} : Passes CX0 X E0 := fun _ _ _ _ _ _ _ h => h.elim
structure Fun (K : PySem.W.Frag) (x qual : Str) (st : Stmt) (f : Addr) (fd : FuncData) : Prop where
  ex : ∃ (oc : Value) (od : Option Addr) (kV doc pm : Value) (an : Option Addr) (cdv ct : Value) (osl : Array (Option Value)),
    fd = PySem.W.fnOf x qual (defArgs st) (defBody st) (defScope st) .none kV doc pm an cdv ct ∧ K.lookup f = some ⟨oc, od, .func fd, osl⟩ ∧ PySem.W.codeIn K cdv qual = true
  kp : PySem.W.keepIn K (.ref f) = true
section
variable {P : Program} {w : World} {K : PySem.W.Frag} {mg : Str → Option Value} {base : Heap}
theorem Fun.ok {x qual : Str} {st : Stmt} {f : Addr} {fd : FuncData} {N ps : List Str} {k : Nat} {sp : Sp} (F : Fun K x qual st f fd) (S : FnScope N ps (defScope st)) (len : ∀ vs H Q E, sp vs H Q E → vs.length = ps.length)
    (hbody : ∀ (cdv : Value) (A : Around) (outer : List Env) (s : Shared) (H : Hp) (vs : List V) (Q : VK) (E : XK), Room k (A.deeper (envOfC qual (defScope st) s.heap.objs.size f cdv)) → sp vs H Q E →
      ∃ t, PSs (cxOf CX0 P w K mg base N qual (defScope st) f cdv A outer s H E).nox (defBody st) t ∧ t { nx := fun _ H' => Q .non H', rt := Q } (start N vs) H) : FnOk P w K mg base CX0 (k + 1) f fd ps sp := by
  refine L2.o_EEEEEEEEEAA (F.ex) fun oc od kV doc pm an cdv ct osl zq9 lk hcd => ?_
  subst zq9
  refine fn_of lk hcd S len fun A outer s H vs Q E hr hsp => ?_
  refine L2.o_EA (hbody cdv A outer s H vs Q E hr hsp) fun t h q => ?_
  exact ⟨t, h.nox, q⟩
theorem Fun.binds {x qual : Str} {st : Stmt} {f : Addr} {fd : FuncData} {ps : List Str} (F : Fun K x qual st f fd)
    (h : ∀ (kV doc pm : Value) (an : Option Addr) (cdv ct : Value) (us : List Value), us.length = ps.length → bindArgs (PySem.W.fnOf x qual (defArgs st) (defBody st) (defScope st) .none kV doc pm an cdv ct) ⟨us, []⟩ = pure (ps.zip us)) : Binds K fd ps [] := by
  refine L2.o_EEEEEEEEEAA (F.ex) fun oc od kV doc pm an cdv ct osl zq9 lk hcd => ?_
  subst zq9
  exact .all (h kV doc pm an cdv ct)
theorem fun_mk {x qual : Str} {st : Stmt} {f : Addr} {oc : Value} {od an : Option Addr} {osl : Array (Option Value)} {kV doc pm cdv ct : Value} (l : K.lookup f = some ⟨oc, od, .func (PySem.W.fnOf x qual (defArgs st) (defBody st) (defScope st) .none kV doc pm an cdv ct), osl⟩)
    (c : PySem.W.codeIn K cdv qual = true) (k : PySem.W.keepIn K (.ref f) = true) : Fun K x qual st f (PySem.W.fnOf x qual (defArgs st) (defBody st) (defScope st) .none kV doc pm an cdv ct) := ⟨⟨oc, od, kV, doc, pm, an, cdv, ct, osl, rfl, l, c⟩, k⟩
end
theorem small1000 {n : Nat} (h : n ≤ 1000) : n < sizeLine := Nat.lt_of_le_of_lt h (by decide)
section
variable {X : Cx}
theorem pv (i : Nat) {x : Str} {pos : Pos} (hN : X.N[i]? = some x := by rfl) (hv : Vis X.env.scope x := by first | exact Or.inl rfl | exact Or.inr (Or.inl rfl) | exact Or.inr (Or.inr rfl)) (hd : (x == ("__debug__" : Str)) = false := by decide)
    (hcd : (x == ("__classdict__" : Str)) = false := by decide) : PE X (.Name x pos) (tVar i) := pe_var hN hv hd hcd
end
noncomputable def Same (H H' : Hp) : Prop := ∀ b o, H b = some o → H' b = some o
theorem Same.refl (H : Hp) : Same H H := fun _ _ h => h
theorem Same.trans {H H1 H2 : Hp} (a : Same H H1) (b : Same H1 H2) : Same H H2 := fun c o h => b c o (a c o h)
theorem Same.free {H H' : Hp} (e : Same H H') {l : Addr} (h : H' l = Option.none) : H l = Option.none := by
  cases q : H l with
  | none => rfl
  | some o =>
    rw [e l o q] at h
    cases h
theorem Same.seq {K : PySem.W.Frag} {H H' : Hp} {a : Addr} {xs : List V} (e : Same H H') (h : SqL K H a xs) : SqL K H' a xs := by
  rcases h with (h | ⟨o, h⟩) | h
  · exact .inl (.inl (e _ _ h))
  · exact .inl (.inr ⟨o, e _ _ h⟩)
  · exact .inr h
end L2
namespace L2
open PySem PySem.Spec PyProof.Rows
noncomputable def TabAt (P : Program) (K : PySem.W.Frag) (p : Addr) : Prop := ∃ x c, x ∈ lamNames P ∧ PySem.W.tabIn K x = some (c, p)
open Classical in
theorem law_callT {P : Program} {w : World} {K : PySem.W.Frag} {mg mb : Str → Option Value} {CX : CXT} {k : Nat} {fa a : Addr} {fd : FuncData} {x : Str} {sp : Sp} {s₁ : Shared} {vs : List Value} {ns : List Int}
    (KX : K.In s₁.heap) (hns : s₁.heap.Ns mainGlobals mg) (hb : s₁.heap.Ns builtinsNs mb) (hbb : ∀ x : Str, x ≠ "__name__" → mb x = bootBuiltins x) (hlim : s₁.heap.NoLimit) (hg : s₁.gens = #[])
    (ha : s₁.heap.get? a = some { cls := .type "list", data := .seq vs.toArray }) (hi : IntsAre vs ns) (hl : ns.length ≤ sizeLine) (hr : Room k callerA)
    (hT : ∀ x c p, x ∈ lamNames P → PySem.W.tabIn K x = some (c, p) → PySem.W.CodeHd s₁.heap c p ∧ s₁.heap.get? p = some (PySem.W.tabObj #[])) (hTK : ∀ x c p, x ∈ lamNames P → PySem.W.tabIn K x = some (c, p) → K.lookup p = none)
    (hBm : ∃ bm ob, mg "__builtins__" = some (.ref bm) ∧ bm ≠ builtinsNs ∧ s₁.heap.get? bm = some ob ∧ ob.cls = .type "module" ∧ ob.dict = some builtinsNs ∧ ob.data = .plain)
    (F : ∀ base : Heap, K.In base → base.Ns mainGlobals mg → FnOk P w K mg base CX k fa fd [x] sp) (hbind : ∀ (s : Shared) (u : Value), BindsTo s fd ⟨[u], []⟩ [(x, u)])
    (hsp : ∀ H : Hp, SqL K H a (ns.map V.int) → sp [.ref a] H (fun v _ => v = .bl true) fun _ _ _ => False)
    (hCX : ∀ H e s', CX [] H s₁ (fun _ _ _ => False) e s' → False) :
    codeAny (model P w) callerA (.call (.ref fa) ⟨[.ref a], []⟩) (fun r s' => r = .ok (.ret (.bool true)) ∧ OldK s₁.heap s'.heap ∧ s'.os = s₁.os ∧ AllBare s'.gens) s₁ := by
  have rv := vals_ints hi
  have lenV := hi.length
  have objT : ∀ {b : Addr}, TabAt P K b → s₁.heap.get? b = some (PySem.W.tabObj #[]) := fun {b} ⟨y, c, h1, h2⟩ => (hT y c b h1 h2).2
  have aT : ¬ TabAt P K a := fun z => by have q := objT z; rw [ha] at q; cases q
  have core : ∀ H : Hp, SqL K H a (ns.map V.int) → HOk P w H s₁.heap → (∀ b u, H b = some u → (b = a ∧ ∃ o xs, u = .frz o (.lst xs)) ∨ (u = .tab ∧ TabAt P K b)) → (∀ b, TabAt P K b → H b = some .tab) → (H a ≠ none → K.lookup a = none) →
      codeAny (model P w) callerA (.call (.ref fa) ⟨[.ref a], []⟩) (fun r s' => r = .ok (.ret (.bool true)) ∧ OldK s₁.heap s'.heap ∧ s'.os = s₁.os ∧ AllBare s'.gens) s₁ := by
    intro H hS hok hA hTt hK
    have base_of : ∀ {b : Addr} {o : Obj}, s₁.heap.get? b = some o → H b = none → (hidT s₁.heap H).get? b = some o := fun e n => hidT_get e n
    have free_of : ∀ {b : Addr} {o : Obj}, s₁.heap.get? b = some o → o ≠ { cls := .type "list", data := .seq vs.toArray } → o ≠ PySem.W.tabObj #[] → H b = none := fun {b o} e n1 n2 => by
      cases q : H b with
      | none => rfl
      | some u =>
        rcases hA b u q with ⟨rfl, _⟩ | ⟨_, z⟩
        · rw [ha] at e; exact absurd (Option.some.inj e).symm n1
        · have := objT z; rw [e] at this; exact absurd (Option.some.inj this) n2
    have noA : ∀ {b : Addr} {o : Obj} {es : Array DictEntry} {ep : Nat}, s₁.heap.get? b = some o → o.data = .dict es ep → H b = none := fun {b o es ep} e d => free_of e (fun z => by rw [z] at d; cases d) (fun z => by rw [z] at d; cases d)
    have nsK : ∀ {b : Addr} {m : Str → Option Value}, s₁.heap.Ns b m → (hidT s₁.heap H).Ns b m := fun {b m} ⟨o, es, ep, e, d, r⟩ => ⟨o, es, ep, base_of e (noA e d), d, r⟩
    have hKb : K.In (hidT s₁.heap H) := fun b o e => base_of (KX b o e) (by
      cases q : H b with
      | none => rfl
      | some u =>
        rcases hA b u q with ⟨rfl, _⟩ | ⟨_, y, c, h1, h2⟩
        · rw [hK (by rw [q]; simp)] at e; cases e
        · rw [hTK y c b h1 h2] at e; cases e)
    have hM : Mod K mg (hidT s₁.heap H) := ⟨hKb, nsK hns, ⟨mb, nsK hb, hbb⟩, let ⟨mc, h1, h2⟩ := hlim; ⟨mc, nsK h1, h2⟩⟩
    have hTb : TabsOk P K mg (hidT s₁.heap H) H := fun y c p h1 h2 => by
      have hp := (hT y c p h1 h2).2
      refine ⟨hTt p ⟨y, c, h1, h2⟩, ?_, ?_⟩
      · refine L2.o_EEEEEEEEEAA ((hT y c p h1 h2).1) fun o vs' file tf flags tg inF text tt e1 e2 r => ?_
        exact L2.i_EEEEEEEEEAA (o) (vs') (file) (tf) (flags) (tg) (inF) (text) (tt) (base_of e1 (free_of e1 (fun z => by rw [z] at e2; exact absurd e2 (by simp)) fun z => by rw [z] at e2; exact absurd e2 (by simp))) (e2) (r)
      · refine L2.o_EEAAAAA (hBm) fun bm ob b1 b2 b3 b4 b5 b6 => ?_
        refine L2.i_EEAAAAAAA (bm) (ob) (b1) (b2) (fun q => ?_) (fun q => ?_) (base_of b3 (free_of b3 (fun z => by rw [z] at b4; exact absurd b4 (by simp)) fun z => by rw [z] at b4; exact absurd b4 (by simp))) (b4) (b5) (b6)
        · refine L2.o_EEEAA (hns) fun o es ep e hd _ => ?_
          rw [q, e] at b3; cases b3; rw [hd] at b6; cases b6
        · rw [q, hp] at b3; cases b3; cases b4
    have e0 : Env0 P w K mg (hidT s₁.heap H) callerA [] s₁ H := ⟨rfl, hM, fun b o e => of_hidT e, Nat.le_of_eq (hidT_size _ _), trivial, fun b hb => absurd (show b ∈ ([] : List Addr) from hb) (by simp), hok, .of_eq hg, hTb⟩
    refine codeAny_mono ((F _ hKb (nsK hns)).run callerA [] s₁ H ⟨[.ref a], []⟩ [.ref a] [.ref a] _ _ hr e0 (hbind s₁ (.ref a)) (.cons rfl .nil) (hsp H hS)) fun r s' h => ?_
    cases r with
    | error e => exact (hCX H e s' h).elim
    | ok fl =>
      cases fl with
      | next => exact False.elim h
      | brk => exact False.elim h
      | cont => exact False.elim h
      | ret u =>
        refine L2.o_EEAAAAA (h) fun v H' os bare un hok' r' q => ?_
        have q' : v = .bl true := q
        subst q'
        obtain rfl : u = Value.bool true := r'
        have all : ∀ b o, s₁.heap.get? b = some o → asItWas s₁.heap s'.heap b o ∧ ∃ o', s'.heap.get? b = some o' := fun b o e => by
          cases q : H b with
          | none =>
            have z := un.keep b o e q (by intro z; exact absurd (show b ∈ ([] : List Addr) from z) (by simp)) (by simp)
            exact ⟨.inl z, o, z⟩
          | some u =>
            rcases hA b u q with ⟨_, ob, xs, rfl⟩ | ⟨rfl, y, c, h1, h2⟩
            · have z2 := un.frzs b ob _ q
              refine L2.o_A (hok b _ q) fun e1 _ => ?_
              refine L2.o_A (hok' b _ z2) fun e2 _ => ?_
              rw [e] at e1; cases e1
              exact ⟨.inl e2, o, e2⟩
            · refine L2.o_EA (hok' b _ (un.tabs b q)) fun ps e2 _ => ?_
              refine L2.o_A (hT y c b h1 h2) fun hc hp => ?_
              rw [hp] at e; cases e
              exact ⟨.inr (.inl ⟨(hc.tab hp).isCodeTable, rfl, #[], ps, rfl, by rw [e2]; simp⟩), _, e2⟩
        exact ⟨rfl, ⟨fun b o e => (all b o e).1, fun b o e => (all b o e).2⟩, os, bare⟩
  have okT : ∀ (H : Hp) (b : Addr), TabAt P K b → ObjOk P w H s₁.heap b .tab := fun H b z => ⟨#[], objT z, trivial, fun pos c q => by cases q⟩
  cases hk : K.lookup a with
  | some o =>
    have e := KX a o hk
    rw [ha] at e
    cases e
    refine core (fun b => if TabAt P K b then some .tab else none) (.inr ⟨_, vs.toArray, _, hk, rfl, rfl, rfl, by rw [List.size_toArray, lenV]; exact hl, by simpa using rv⟩) (fun b u z => ?_) (fun b u z => ?_) (fun b z => if_pos z) fun z => absurd (if_neg aT) z
    · by_cases hb : TabAt P K b
      · have z' := (if_pos hb).symm.trans z
        cases z'
        exact okT _ b hb
      · have z' := (if_neg hb).symm.trans z
        cases z'
    · by_cases hb : TabAt P K b
      · have z' := (if_pos hb).symm.trans z
        cases z'
        exact .inr ⟨rfl, hb⟩
      · have z' := (if_neg hb).symm.trans z
        cases z'
  | none =>
    refine core (fun b => if b = a then some (.frz { cls := .type "list", data := .seq vs.toArray } (.lst (ns.map V.int))) else if TabAt P K b then some .tab else none) (.inl (.inr ⟨{ cls := .type "list", data := .seq vs.toArray }, if_pos rfl⟩)) (fun b u z => ?_) (fun b u z => ?_) (fun b z => ?_) fun _ => hk
    · by_cases hb : b = a
      · have z' := (if_pos hb).symm.trans z
        cases z'
        subst hb
        exact L2.i_AAEEA (ha) (by rw [List.length_map]; exact hl) (vs) (_) (rv) (ha)
      · have z' := (if_neg hb).symm.trans z
        by_cases hb2 : TabAt P K b
        · have z2 := (if_pos hb2).symm.trans z'
          cases z2
          exact okT _ b hb2
        · have z2 := (if_neg hb2).symm.trans z'
          cases z2
    · by_cases hb : b = a
      · have z' := (if_pos hb).symm.trans z
        cases z'
        exact .inl ⟨hb, _, _, rfl⟩
      · have z' := (if_neg hb).symm.trans z
        by_cases hb2 : TabAt P K b
        · have z2 := (if_pos hb2).symm.trans z'
          cases z2
          exact .inr ⟨rfl, hb2⟩
        · have z2 := (if_neg hb2).symm.trans z'
          cases z2
    · have hb : b ≠ a := fun e => aT (e ▸ z)
      rw [if_neg hb, if_pos z]
theorem walk_ofT {l : PySem.W.OpenLaw} {n k : Nat} {q : Program} {loose : List Str} {XP : (Str → Option Value) → Heap → Prop} {YP : World → Heap → Prop} {d : DefRec} {K : Params → PySem.W.Frag} {CX : World → CXT} {sp : World → Sp} {x : Str}
    (hn : l.most = some n) (hn2 : n ≤ sizeLine) (hdf : d.params.defaults = []) (hr : Room k callerA)
    (hY : ∀ (w : World) (h : Heap), YP w h → (K w.params).In h)
    (hq : ∀ y ∈ lamNames l.prog, ((recsOf q).find? fun e => e.name == y).isSome = true) (hTK : ∀ (w : World) (y : Str) (c p : Addr), y ∈ lamNames l.prog → PySem.W.tabIn (K w.params) y = some (c, p) → (K w.params).lookup p = none)
    (F : ∀ (w : World) (mg : Str → Option Value) (fa : Addr) (h : Heap), (K w.params).In h → h.Ns mainGlobals mg → mg d.name = some (.ref fa) →
      ∃ fd : FuncData, (∀ (s : Shared) (u : Value), BindsTo s fd ⟨[u], []⟩ [(x, u)]) ∧
        ∀ base : Heap, (K w.params).In base → base.Ns mainGlobals mg → FnOk l.prog w (K w.params) mg base (CX w) k fa fd [x] (sp w))
    (hsp : ∀ (w : World) (H : Hp) (a : Addr) (ns : List Int), ns.length ≤ n → SqL (K w.params) H a (ns.map V.int) → sp w [.ref a] H (fun v _ => v = .bl true) fun _ _ _ => False)
    (hCX : ∀ (w : World) (H : Hp) (s : Shared) (e : Value) (s' : Shared), CX w [] H s (fun _ _ _ => False) e s' → False) :
    PySem.W.WalkO q loose XP YP l.row.toRowW d [] (fun f vs => PySem.call f vs) := by
  refine Att.attach_call hn hdf fun w s₀ s₁ mg mb fa o pm cd doc a vs ns G Y ho hd hcd hmg hobj hints hlen hg => ?_
  have KX := hY w _ Y
  refine L2.o_EA (F w mg fa _ KX G.T.g hmg) fun fd hb hF => ?_
  refine law_callT KX G.T.g G.T.b G.T.builtins G.T.nolimit hg hobj hints (Nat.le_trans hlen hn2) hr (fun y c p h1 h2 => ?_) (hTK w) G.T.bmain hF hb (fun H hS => hsp w H a ns hlen hS) fun H e s' => hCX w H s₁ e s'
  refine L2.o_E (Option.isSome_iff_exists.mp (hq y h1)) fun r hr' => ?_
  exact PySem.W.tab_of G.T KX hr' h2
end L2
namespace L2
open PySem PySem.Spec PyProof.Rows
end L2
namespace L2
open PySem PySem.Spec PyProof.Rows
theorem forIn_pureStep {α β : Type} {f : α → β → Sem (ForInStep β)} {g : β → α → β} : ∀ (l : List α) (b : β), (∀ x ∈ l, ∀ b, f x b = pure (ForInStep.yield (g b x))) → forIn l b f = (pure (l.foldl g b) : Sem β)
  | [], b, _ => rfl
  | x :: r, b, h => by
    rw [List.forIn_cons, h x List.mem_cons_self b]
    simp only [pure_bind, List.foldl_cons]
    exact forIn_pureStep r (g b x) fun y hy => h y (List.mem_cons_of_mem _ hy)
noncomputable def cloStep (env : Env) (b : List (Str × Addr)) (x : Str × NameKind) : List (Str × Addr) := if x.2 == .free then (x.1, (env.cells.lookup x.1).getD 0) :: b else b
noncomputable def cloOf (scope : Scope) (env : Env) : List (Str × Addr) := scope.names.foldl (cloStep env) []
theorem closure_is {scope : Scope} {env : Env} (h : ∀ x ∈ scope.names, x.2 = .free → ∃ c, env.cells.lookup x.1 = some c) : closureFor scope env = pure (cloOf scope env) := by
  simp only [closureFor]
  rw [forIn_pureStep (g := cloStep env) scope.names [] ?_]
  · rfl
  · rintro ⟨n, k⟩ hx b
    unfold cloStep
    by_cases hk : (k == NameKind.free) = true
    · refine L2.o_E (h (n, k) hx (by simpa using hk)) fun c hc => ?_
      simp only [hk, if_true, cellOf, hc, Option.getD_some, pure_bind]
    · simp only [hk, Bool.false_eq_true, if_false]
theorem clo_mem {env : Env} : ∀ (l : List (Str × NameKind)) (b : List (Str × Addr)) (p : Str × Addr), p ∈ l.foldl (cloStep env) b → p ∈ b ∨ ∃ x ∈ l, x.2 = .free ∧ p = (x.1, (env.cells.lookup x.1).getD 0)
  | [], b, p, h => .inl h
  | x :: r, b, p, h => by
    rcases clo_mem r (cloStep env b x) p h with q | ⟨y, hy, e⟩
    · unfold cloStep at q
      by_cases hk : (x.2 == NameKind.free) = true
      · rw [if_pos hk] at q
        rcases List.mem_cons.mp q with q | q
        · exact .inr ⟨x, List.mem_cons_self, by simpa using hk, q⟩
        · exact .inl q
      · rw [if_neg hk] at q
        exact .inl q
    · exact .inr ⟨y, List.mem_cons_of_mem _ hy, e⟩
theorem clo_old {env : Env} : ∀ (l : List (Str × NameKind)) (b : List (Str × Addr)) (p : Str × Addr), p ∈ b → p ∈ l.foldl (cloStep env) b
  | [], b, p, h => h
  | x :: r, b, p, h => clo_old r _ p (by unfold cloStep; split; exact List.mem_cons_of_mem _ h; exact h)
theorem clo_new {env : Env} : ∀ (l : List (Str × NameKind)) (b : List (Str × Addr)) (x : Str × NameKind), x ∈ l → x.2 = .free → (x.1, (env.cells.lookup x.1).getD 0) ∈ l.foldl (cloStep env) b
  | y :: r, b, x, h, e => by
    rcases List.mem_cons.mp h with rfl | h
    · refine clo_old r _ _ ?_
      unfold cloStep
      rw [if_pos (by rw [e]; rfl)]
      exact List.mem_cons_self
    · exact clo_new r _ x h e
theorem lookup_mem {l : List (Str × Addr)} {n : Str} {c : Addr} (h : (n, c) ∈ l) : ∃ d, l.lookup n = some d := by
  induction l with
  | nil => cases h
  | cons p r ih =>
    obtain ⟨m, d⟩ := p
    by_cases e : n = m
    · subst e
      exact ⟨d, by simp [List.lookup_cons]⟩
    · rcases List.mem_cons.mp h with q | q
      · cases q
        exact absurd rfl e
      · refine L2.o_E (ih q) fun d' q' => ?_
        exact ⟨d', by rw [List.lookup_cons, show (n == m) = false by simpa using e]; exact q'⟩
theorem clo_in {scope : Scope} {env : Env} (h : ∀ x ∈ scope.names, x.2 = .free → ∃ c, env.cells.lookup x.1 = some c) {n : Str} {c : Addr} (e : (cloOf scope env).lookup n = some c) : env.cells.lookup n = some c := by
  rcases clo_mem scope.names [] (n, c) (PySem.mem_of_lookup e) with q | ⟨x, hx, hf, q⟩
  · cases q
  · refine L2.o_E (h x hx hf) fun d hd => ?_
    cases q
    rw [hd]
    rfl
theorem clo_has {scope : Scope} {env : Env} {n : Str} (h : (n, NameKind.free) ∈ scope.names) : ∃ c, (cloOf scope env).lookup n = some c :=
  lookup_mem (clo_new scope.names [] (n, .free) h rfl)
structure CompSc (sc : Scope) (XN : List Str) (scope : Scope) (k : Nat) (N : List Str) (ix : List Nat) : Prop where
  kind : scope.kind = .function
  okind : sc.kind = .function
  nocell : ∀ y ∈ scope.names, y.2 ≠ .cell
  loc : ∀ y ∈ scope.names, y.2 = .local → scope.names.lookup y.1 = some .local
  fr : ∀ y ∈ scope.names, y.2 = .free → sc.names.lookup y.1 = some .cell
  sl : ix.map (fun i => XN[i]?) = (N.drop k).map some
  frl : ∀ x ∈ N.drop k, scope.names.lookup x = some .free
  len : N.length = k + ix.length
noncomputable def cxComp (X : Cx) (N : List Str) (scope : Scope) (cl : List (Str × Addr)) (C : Addr) (s3 : Shared) (H3 : Hp) (fp : List Addr) (pins : List (Addr × Obj)) : Cx :=
  { X with N := N, s₀ := s3, H₀ := H3, env := compEnvC scope cl C X.env, outer := X.stack, stack := X.stack, ex := fp, fn := fun _ => false, pn := X.pn ++ pins }
theorem relabel_free {scope : Scope} {env : Env} {x : Str} (hk : env.scope.kind = .function) (he : env.kindOf x = some .cell) (h : scope.names.lookup x = some .free) : (relabel scope env).names.lookup x = some .cell := by
  have go : ∀ names : List (Str × NameKind), names.lookup x = some .free →
      (names.map fun (n, k) => if (k == NameKind.free && env.scope.kind == .function && env.kindOf n == some .cell) then (n, NameKind.cell) else (n, k)).lookup x = some .cell := by
    intro names
    induction names with
    | nil => intro h; cases h
    | cons p r ih =>
      obtain ⟨n, k⟩ := p
      intro h
      rw [List.map_cons]
      by_cases e : x = n
      · subst e
        have hkf : k = .free := by simpa [List.lookup_cons] using h
        subst hkf
        simp [List.lookup_cons, hk, he]
      · have e' : (x == n) = false := by simpa using e
        rw [List.lookup_cons, e'] at h
        have q := ih h
        dsimp only
        split
        · rw [List.lookup_cons, e']
          exact q
        · rw [List.lookup_cons, e']
          exact q
  exact go _ h
theorem relabel_mem {scope : Scope} {env : Env} {x : Str} {k : NameKind} (hc : ∀ y ∈ scope.names, y.2 ≠ .cell) (h : (relabel scope env).names.lookup x = some k) (hk : k = .cell ∨ k = .free) : (x, NameKind.free) ∈ scope.names := by
  obtain ⟨⟨n, k'⟩, hm, e⟩ := List.mem_map.mp (PySem.mem_of_lookup h)
  dsimp only at e
  split at e
  · rename_i hq
    cases e
    have : k' = .free := by
      have := (Bool.and_eq_true_iff.mp (Bool.and_eq_true_iff.mp hq).1).1
      simpa using this
    subst this
    exact hm
  · cases e
    rcases hk with rfl | rfl
    · exact absurd rfl (hc _ hm)
    · exact hm
section
variable {X : Cx} {pins : List (Addr × Obj)} {σ : St} {H : Hp} {s : Shared} {scope : Scope} {k : Nat} {N : List Str} {ix : List Nat} {sc : Scope} {fp : List Addr}
theorem comp_cells (I : Inv X pins σ H s) (hsc : X.env.scope = sc) (S : CompSc sc X.N scope k N ix) : ∀ x ∈ scope.names, x.2 = .free → ∃ c, X.env.cells.lookup x.1 = some c := fun x hx hf =>
  I.ok.has x.1 (.inl (by show X.env.scope.names.lookup x.1 = _; rw [hsc]; exact S.fr x hx hf))
theorem fp_stk (I : Inv X pins σ H s) {b : Addr} (h1 : b ≠ X.env.locals) (h2 : b ∉ X.fs) : b ∉ frs X.stack := fun hb => by
  rcases List.mem_cons.mp (I.stkSub b hb) with e | e
  · exact h1 e
  · exact h2 e
theorem comp_ok (I : Inv X pins σ H s) (hsc : X.env.scope = sc) (S : CompSc sc X.N scope k N ix) (hf : ∀ b ∈ fp, FpOk X pins H b) (hlt : ∀ b ∈ fp, b < s.heap.objs.size) :
    (cxComp X N scope (cloOf scope X.env) s.heap.objs.size s H fp pins).Ok := by
  have hcl := comp_cells I hsc S
  refine ⟨I.ok.mod, S.kind, I.ok.glob, I.ok.blt, Nat.le_refl _, fun x y c h1 h2 => I.ok.inj x y c (clo_in hcl h1) (clo_in hcl h2), fun x hx => ?_, fun x c h => (by cases (show false = true from h)), I.ok.hd, I.ok.frames, .inl rfl, fun b hb => ⟨Nat.ne_of_lt (hlt b hb), fun x c e => ?_⟩,
    I.bs, Nat.le_trans I.ok.bsz I.sz, fun b o e hb => ?_, fun b hb => fp_stk I (hf b hb).2.1 (hf b hb).2.2.1, I.stack, I.stkFree, fun x c p h1 h2 => let z := I.ok.tabs x c p h1 h2; ⟨I.base.tabs p z.1, z.2⟩⟩
  · have hx' : (x, NameKind.free) ∈ scope.names := by
      rcases hx with hx | hx
      · exact relabel_mem S.nocell hx (.inl rfl)
      · exact relabel_mem S.nocell hx (.inr rfl)
    exact clo_has hx'
  · exact (hf b hb).2.2.2.2.1 x c (clo_in hcl e)
  · rcases (hf b hb).2.2.2.1 with z | z
    · exact I.ok.noex b o e z
    · exact absurd (Nat.lt_of_lt_of_le (Heap.lt_size (I.ok.bs b o e).1) z) (Nat.lt_irrefl _)
noncomputable def stComp (k : Nat) (ix : List Nat) (σ : St) : St := List.replicate k none ++ ix.map fun i => (σ[i]?).getD none
theorem comp_start (I : Inv X pins σ H s) (hsc : X.env.scope = sc) (S : CompSc sc X.N scope k N ix) (hf : ∀ b ∈ fp, FpOk X pins H b) (hlt : ∀ b ∈ fp, b < s.heap.objs.size) {h' : Heap} {t : Nat} {m : Str → Option Value}
    (hns : h'.Ns s.heap.objs.size m) (hk : ∀ b o, s.heap.get? b = some o → h'.get? b = some o) :
    Inv (cxComp X N scope (cloOf scope X.env) s.heap.objs.size s H fp pins) [] (stComp k ix σ) H { s with heap := h', toks := t } := by
  have hcl := comp_cells I hsc S
  have hkind : X.env.scope.kind = .function := by rw [hsc]; exact S.okind
  have cellK : ∀ c v, s.heap.IsCell c v → h'.IsCell c v := fun c v ⟨o, e, d⟩ => ⟨o, hk c o e, d⟩
  refine ⟨comp_ok I hsc S hf hlt, rfl, I.bare, Un.kept hk, ⟨m, hns, fun i x v e1 e2 e3 => ?_⟩, fun x c e => ?_, I.hok.fresh (Nat.le_refl _), fun x c e => (I.freeC x c (clo_in hcl e)).imp id fun z => ⟨rfl, z.2⟩, fun p hp => ?_, I.hok.kept hk, ?_⟩
  · unfold stComp at e2
    by_cases hi : i < k
    · rw [List.getElem?_append_left (by simpa using hi), List.getElem?_replicate, if_pos hi] at e2
      cases e2
    · have hj : k ≤ i := Nat.le_of_not_lt hi
      rw [List.getElem?_append_right (by simpa using hj), List.getElem?_map] at e2
      simp only [List.length_replicate] at e2
      cases hix : ix[i - k]? with
      | none => rw [hix] at e2; cases e2
      | some j =>
        rw [hix] at e2
        have e2' : (σ[j]?).getD none = some v := Option.some.inj e2
        have hσ : σ[j]? = some (some v) := by
          cases q : σ[j]? with
          | none => rw [q] at e2'; cases e2'
          | some w => rw [q] at e2'; exact congrArg some e2'
        have hd : (N.drop k)[i - k]? = some x := by
          rw [List.getElem?_drop]
          have : k + (i - k) = i := by omega
          rw [this]
          exact e1
        have hXN : X.N[j]? = some x := by
          have q := congrArg (fun l => l[i - k]?) S.sl
          simp only [List.getElem?_map, hix, hd, Option.map_some] at q
          exact Option.some.inj q
        have hfree := S.frl x (List.mem_of_getElem? hd)
        have hmem := PySem.mem_of_lookup hfree
        have hout : X.env.kindOf x = some .cell := by
          show X.env.scope.names.lookup x = _
          rw [hsc]
          exact S.fr _ hmem rfl
        refine L2.o_EA (I.loc) fun m0 hn0 hl0 => ?_
        refine L2.o_EA (hl0 j x v hXN hσ (.inr (.inl hout))) fun u r l => ?_
        refine ⟨u, r, .inr ⟨.inl (relabel_free hkind hout hfree), ?_⟩⟩
        rcases l with ⟨q, _⟩ | ⟨_, c, hc, z⟩
        · rw [hout] at q; cases q
        · refine L2.o_E (clo_has (env := X.env) hmem) fun c' hc' => ?_
          have e' := clo_in hcl hc'
          rw [hc] at e'
          cases e'
          exact ⟨c, hc', cellK c _ z⟩
  · refine L2.o_E (I.cell x c (clo_in hcl e)) fun v z => ?_
    exact ⟨v, cellK c v z⟩
  · have hp' : p ∈ X.pn ++ pins := by simpa [cxComp] using hp
    refine L2.o_AAAA (I.pin p hp') fun e n ne nf d => ?_
    exact ⟨hk _ _ e, n, Nat.ne_of_lt (Heap.lt_size e), fp_stk I ne nf, d⟩
  · unfold stComp
    show _ = N.length
    rw [S.len, List.length_append, List.length_replicate, List.length_map]
theorem Un.other {fs ex : List Addr} {H H' : Hp} {h h1 h2 : Heap} (u : Un fs ex H H' h h1) (e : ∀ b, b < h.objs.size → h2.get? b = h1.get? b) : Un fs ex H H' h h2 where
  keep := fun b o q n hb hx => (e b (Heap.lt_size q)).trans (u.keep b o q n hb hx)
  slot := fun b o q n hb hx => by obtain ⟨sl, z⟩ := u.slot b o q n hb hx; exact ⟨sl, (e b (Heap.lt_size q)).trans z⟩
  free := u.free
  there := fun b o q hx => by obtain ⟨o', z⟩ := u.there b o q hx; exact ⟨o', (e b (Heap.lt_size q)).trans z⟩
  tups := u.tups
  frzs := u.frzs
  tbls := u.tbls
  tabs := u.tabs
theorem comp_after {σ' : St} {H' : Hp} {s' : Shared} {h' : Heap} {scope : Scope} {cl : List (Str × Addr)} (I : Inv X pins σ H s) (hf : ∀ b ∈ fp, FpOk X pins H b)
    (J : Inv (cxComp X N scope cl s.heap.objs.size s H fp pins) [] σ' H' s') (hs : Heap.SameBut s.heap.objs.size s'.heap h') : Inv X pins σ H' { s' with heap := h' } := by
  have un : Un (frs X.stack) fp H H' s.heap s'.heap := J.base
  have fr : H' s.heap.objs.size = none := J.free
  refine I.call' (s' := { s' with heap := h' }) (ch := fp) J.os (un.other fun b hb => hs.2 b (Nat.ne_of_lt hb)) (fun b o e => ?_) J.bare fun b hb => ⟨(hf b hb).2.2.2.1, (hf b hb).2.1, (hf b hb).2.2.2.2.1, (hf b hb).2.2.2.2.2⟩
  refine (J.hok b o e).stay (fun c u hc q => (hs.2 c ?_).trans q) (fun _ q => q) fun _ _ q => q
  rcases hc with hc | hc
  · rw [hc]; exact ne_of_none e fr
  · exact ne_of_none hc fr
end
noncomputable def tTrue : TT := fun _ H Q => Q true H
noncomputable def PIf (X : Cx) (ifs : List Expr) (t : TT) : Prop :=
  ∀ (pins : List (Addr × Obj)) (s : Shared) (σ : St) (H : Hp) (Q : Bool → Hp → Prop), Inv X pins σ H s → t σ H Q →
    wpAny (model X.prog X.w) X.A (forIn ifs true fun c r => if r = true then do let ok ← isTrue c X.env (eval c X.env); pure (ForInStep.yield ok) else pure (ForInStep.yield r)) (TP X pins σ Q) X.xe s
theorem pif_nil {X : Cx} : PIf X [] tTrue := fun pins s σ H Q I h => wpAny_tests_nil ⟨H, I, h⟩
theorem comp_loop {prog : Program} {w : World} {A : Around} {R : Result → Shared → Prop} {s : Shared} {elt target iter : Expr} {ifs : List Expr} {scope : Scope} {pos : Pos} {it acc : Value} {env : Env} (J : Nat → Shared → Prop)
    (turn : ∀ n s, J n s → wpAny (model prog w) A (pyNext it) (fun r s1 => match r with
      | none => R (.ok .next) s1
      | some v => wpAny (model prog w) A (letOwnedTupleGo target it v) (fun _ s1' => wpAny (model prog w) A (assign target env v) (fun _ s2 =>
          wpAny (model prog w) A (forIn ifs true fun c r => if r = true then do let ok ← isTrue c env (eval c env); pure (ForInStep.yield ok) else pure (ForInStep.yield r)) (fun ok s3 =>
            if ok = true then wpAny (model prog w) A (eval elt env) (fun x s4 =>
              wpAny (model prog w) A (call (.builtin "list.append") [acc, x]) (fun _ s5 => ∃ m, m < n ∧ J m s5) (fun _ _ => False) s4) (fun _ _ => False) s3
            else ∃ m, m < n ∧ J m s3) (fun _ _ => False) s2) (fun _ _ => False) s1') (fun _ _ => False) s1) (fun _ _ => False) s)
    (n : Nat) (h : J n s) : codeAny (model prog w) A (.compLoop (.ListComp elt [⟨target, iter, ifs, 0⟩] scope pos) 0 it acc env) R s := by
  refine codeAny_loop rfl J (fun n s hJ => ?_) n h
  show wpAny _ A ((compTurn (.ListComp elt [⟨target, iter, ifs, 0⟩] scope pos) 0 it acc env).onRaise _) _ _ s
  refine wpAny_noted ?_
  rw [compTurn_list]
  refine wpAny_bind (wpAny_standAt (wpAny_bind (wpAny_mono (turn n s hJ) (fun r s1 h1 => ?_) fun _ _ z => False.elim z)))
  cases r with
  | none => exact wpAny_pure h1
  | some v =>
    refine wpAny_bind (wpAny_mono h1 (fun _ s1' h1' => wpAny_bind (wpAny_mono h1' (fun _ s2 h2 => wpAny_bind (wpAny_mono h2 (fun ok s3 h3 => ?_) fun _ _ z => False.elim z)) fun _ _ z => False.elim z)) fun _ _ z => False.elim z)
    cases ok with
    | false => exact wpAny_pure ⟨rfl, h3⟩
    | true =>
      refine wpAny_bind (wpAny_bind (wpAny_mono h3 (fun x s4 h4 => wpAny_bind (wpAny_mono h4 (fun _ s5 h5 => ?_) fun _ _ z => False.elim z)) fun _ _ z => False.elim z))
      exact wpAny_pure (wpAny_pure ⟨rfl, h5⟩)
noncomputable def tComp (wi : TI) (g : TG) (tc : TT) (te : TE) (st : St → St) : TE := fun σ H Q => wi σ H fun J H1 => ∀ D, H1 D = none → ∃ W : Nat → Nat → St → Hp → Prop, (∃ m, W 0 m (st σ) (upd H1 D (.lst []))) ∧ ∀ i m τ H2, W i m τ H2 →
  (J.stop i H2 ∧ Q (.ref D) H2) ∨ (J.go i H2 ∧ ∃ N : St → Hp → Prop, (∀ τ' H', N τ' H' → ∃ m', m' < m ∧ W (i + 1) m' τ' H') ∧ ∀ x H3, J.yld i H2 x H3 → g x τ H3 fun τ2 H4 => tc τ2 H4 fun b H5 =>
    if b = true then te τ2 H5 fun y H6 => ∃ ys, H6 D = some (.lst ys) ∧ ys.length < sizeLine ∧ N τ2 (upd H6 D (.lst (ys ++ [y]))) else N τ2 H5)
theorem comp_gen {X : Cx} {elt tg iter : Expr} {ifs : List Expr} {scope : Scope} {pos cpos : Pos} {wi : TI} {g : TG} {tc : TT} {te : TE} {k : Nat} {N : List Str} {ix : List Nat} (sc : Scope) (hsc : X.env.scope = sc) (S : CompSc sc X.N scope k N ix)
    (hx : X.xe = fun _ _ => False) (hc : X.calm = true) (hi : PI X tg iter wi)
    (hg : ∀ cl C s3 H3 fp pins, PG (cxComp X N scope cl C s3 H3 fp pins) tg g) (ht : ∀ cl C s3 H3 fp pins, PIf (cxComp X N scope cl C s3 H3 fp pins) ifs tc) (he : ∀ cl C s3 H3 fp pins, PE (cxComp X N scope cl C s3 H3 fp pins) elt te)
    {use : Option (Value → Sem Unit)} {QQ : Value → Shared → Prop} (pins : List (Addr × Obj)) (s : Shared) (σ : St) (H : Hp) (Q : VK) (I : Inv X pins σ H s) (h : tComp wi g tc te (stComp k ix) σ H Q)
    (hend : ∀ (D C : Addr) (H5 : Hp) (s6 : Shared), (∀ h', Heap.SameBut C s6.heap h' → Inv X pins σ H5 { s6 with heap := h' }) → (∃ m6, s6.heap.Ns C m6) → FpOk X pins H5 C → Q (.ref D) H5 → compPost (model X.prog X.w) X.A X.xe use QQ (.ref D) C (.ok .next) s6)
    (hs : ∀ x, foldedSetIterable iter X.env x = pure x := by intro _; rfl) : wpAny (model X.prog X.w) X.A (comprehension (.ListComp elt [⟨tg, iter, ifs, 0⟩] scope pos) scope X.env cpos (newList []) false (eval iter X.env) use) QQ X.xe s := by
  refine wpAny_comprehension_free (use := use) rfl hs (closure_is (comp_cells I hsc S)) S.kind S.loc (thn (hi pins s σ H _ I h) fun v s1 h1 => thn h1 fun itv s2 h2 => ?_)
  refine L2.o_EEEEEAAAAA (h2) fun it fp tn J H2 e I2 T st2 f2 q2 => ?_
  subst e
  refine wpAny_newObj_type ?_ (by show 0 ≤ sizeLine; exact Nat.zero_le _)
  have hDn : H2 s2.heap.objs.size = none := I2.hok.fresh (Nat.le_refl _)
  obtain ⟨W, ⟨m0, w0⟩, turn⟩ := q2 s2.heap.objs.size hDn
  have kp3 : ∀ b o, s2.heap.get? b = some o → (s2.heap.push { cls := .type "list", data := .seq ([] : List Value).toArray }).get? b = some o := fun b o q => Heap.get?_push_of_some _ q
  have I3 : Inv X pins σ (upd H2 s2.heap.objs.size (.lst [])) { s2 with heap := s2.heap.push { cls := .type "list", data := .seq ([] : List Value).toArray } } :=
    I2.laid (t' := s2.toks) kp3 (Nat.le_refl _) ⟨Nat.zero_le _, [], 0, .nil, Heap.get?_push_size _ rfl⟩
  have hlt2 : ∀ b ∈ fp, b < s2.heap.objs.size := fun b hb => by obtain ⟨o, q, _⟩ := T.obj _ _ st2 b hb; exact Heap.lt_size q
  have f3 : ∀ b ∈ fp, FpOk X pins (upd H2 s2.heap.objs.size (.lst [])) b := fun b hb => ⟨by rw [upd_ne (Nat.ne_of_lt (hlt2 b hb))]; exact (f2 b hb).1, (f2 b hb).2⟩
  generalize hs3 : ({ s2 with heap := s2.heap.push { cls := .type "list", data := .seq ([] : List Value).toArray } } : Shared) = s3 at I3
  have st3 : tn 0 s3.heap := by rw [← hs3]; exact T.keep _ _ _ st2 fun b hb o q => kp3 b o q
  have hlt3 : ∀ b ∈ fp, b < s3.heap.objs.size := fun b hb => by obtain ⟨o, q, _⟩ := T.obj _ _ st3 b hb; exact Heap.lt_size q
  generalize s2.heap.objs.size = D at w0 turn I3 f3 hDn
  generalize upd H2 D (.lst []) = H3 at w0 I3 f3
  refine wpAny_newFunctionEnv S.nocell (by intro y hy; cases hy) (fun h4 hns hsb => ?_) S.kind
  have kp4 : ∀ b o, s3.heap.get? b = some o → h4.get? b = some o := fun b o q => hsb.extBut b o (Nat.ne_of_lt (Heap.lt_size q)) (Heap.get?_push_of_some _ q)
  have I4 := comp_start (t := s3.toks + ([] : List (Str × Value)).length) I3 hsc S f3 hlt3 hns kp4
  have st4 : tn 0 h4 := T.keep _ _ _ st3 fun b hb o q => kp4 b o q
  have loop : ∀ s4 : Shared, s4 = { s3 with heap := h4, toks := s3.toks + ([] : List (Str × Value)).length } →
      codeAny (model X.prog X.w) X.A (.compLoop (.ListComp elt [⟨tg, iter, ifs, 0⟩] scope pos) 0 (.ref it) (.ref D) (compEnvC scope (cloOf scope X.env) s3.heap.objs.size X.env))
        (compPost (model X.prog X.w) X.A X.xe use QQ (.ref D) s3.heap.objs.size) s4 := by
    rintro s4 rfl
    have fok : ∀ {H' : Hp}, (∀ b ∈ fp, H' b = none) → ∀ b ∈ fp, FpOk (cxComp X N scope (cloOf scope X.env) s3.heap.objs.size s3 H3 fp pins) [] H' b := fun {H'} hn b hb =>
      ⟨hn b hb, Nat.ne_of_lt (hlt3 b hb), fp_stk I3 (f3 b hb).2.1 (f3 b hb).2.2.1, .inl hb, fun x c e => (f3 b hb).2.2.2.2.1 x c (clo_in (comp_cells I3 hsc S) e), fun p hp => (f3 b hb).2.2.2.2.2 p (by simpa [cxComp] using hp)⟩
    have hxe : (cxComp X N scope (cloOf scope X.env) s3.heap.objs.size s3 H3 fp pins).xe = fun _ _ => False := hx
    refine comp_loop (fun n s' => ∃ i τ H', Inv (cxComp X N scope (cloOf scope X.env) s3.heap.objs.size s3 H3 fp pins) [] τ H' s' ∧ tn i s'.heap ∧ (∀ b ∈ fp, H' b = none) ∧ W i n τ H') ?_ m0
      ⟨0, _, _, I4, st4, fun b hb => (f3 b hb).1, w0⟩
    rintro n s5 ⟨i, τ, H5, I5, st5, fr5, w5⟩
    rcases turn i n τ H5 w5 with ⟨stop, qn⟩ | ⟨go, NX, hN, step⟩
    · refine thn (T.done (cxComp X N scope (cloOf scope X.env) s3.heap.objs.size s3 H3 fp pins) rfl rfl rfl hc i [] s5 τ H5 _ I5 (fok fr5) st5 stop) fun r s6 zpat => ?_
      refine L2.o_A (zpat) fun hr I6 => ?_
      subst hr
      refine L2.o_EA (I6.loc) fun m6 hn6 _ => ?_
      exact hend D _ H5 s6 (fun h' hs' => comp_after I3 f3 I6 hs') ⟨m6, hn6⟩ (I3.fpOk (Nat.le_refl _) I6.free) qn
    · refine thn (T.item (cxComp X N scope (cloOf scope X.env) s3.heap.objs.size s3 H3 fp pins) rfl rfl rfl hc i [] s5 τ H5 _ I5 (fok fr5) st5 go) fun r s6 zpat => ?_
      refine L2.o_EA (zpat) fun u hr h6 => ?_
      subst hr
      refine thn h6 fun _ s7 zpat => ?_
      refine L2.o_EEAAAA (zpat) fun x H7 I7 r7 y7 st7 fr7 => ?_
      have I7' := I7.pinned (fok fr7) (T.obj _ _ st7)
      have again : ∀ {τ9 : St} {H9 : Hp} {s9 : Shared}, Inv (cxComp X N scope (cloOf scope X.env) s3.heap.objs.size s3 H3 fp pins) ([] ++ pinsAt fp s7.heap) τ9 H9 s9 → NX τ9 H9 →
          ∃ m, m < n ∧ ∃ i τ H', Inv (cxComp X N scope (cloOf scope X.env) s3.heap.objs.size s3 H3 fp pins) [] τ H' s9 ∧ tn i s9.heap ∧ (∀ b ∈ fp, H' b = none) ∧ W i m τ H' := fun {τ9 H9 s9} I9 n9 => by
        refine L2.o_EA (hN τ9 H9 n9) fun m' hm w9 => ?_
        refine L2.i_EAEEEAAA (m') (hm) (i + 1) (τ9) (H9) (I9.unpinned) (T.keep _ _ _ st7 fun b hb o q => (I9.pin (b, o) (List.mem_append_right _ (List.mem_append_right _ (mem_pinsAt hb q)))).1) (fun b hb => ?_) (w9)
        refine L2.o_EA (T.obj _ _ st7 b hb) fun o q _ => ?_
        exact (I9.pin (b, o) (List.mem_append_right _ (List.mem_append_right _ (mem_pinsAt hb q)))).2.1
      have G := hg (cloOf scope X.env) s3.heap.objs.size s3 H3 fp pins _ s7 τ H7 x u _ I7' r7 (step x H7 y7)
      rw [hxe] at G
      refine thn G fun _ s8 zpat => ?_
      refine L2.o_EEA (zpat) fun τ8 H8 I8 q8 => ?_
      have Tt := ht (cloOf scope X.env) s3.heap.objs.size s3 H3 fp pins _ s8 τ8 H8 _ I8 q8
      rw [hxe] at Tt
      refine thn Tt fun b s9 zpat => ?_
      obtain ⟨H9, I9, q9⟩ := zpat
      cases b with
      | false =>
        rw [if_neg Bool.false_ne_true] at q9 ⊢
        exact again I9 q9
      | true =>
        rw [if_pos rfl] at q9 ⊢
        have Te := he (cloOf scope X.env) s3.heap.objs.size s3 H3 fp pins _ s9 τ8 H9 _ I9 q9
        rw [hxe] at Te
        refine thn Te fun xv s10 zpat => ?_
        obtain ⟨y, H10, I10, r10, ys, hy, hz, n10⟩ := zpat
        have Ap := mt_append (X := cxComp X N scope (cloOf scope X.env) s3.heap.objs.size s3 H3 fp pins) _ s10 τ8 H10 (.ref D) [y] (.ref D) [xv] (fun _ H' => NX τ8 H') I10 rfl (.cons r10 .nil) ⟨D, ys, y, rfl, rfl, hy, hz, n10⟩
        rw [hxe] at Ap
        exact thn Ap fun _ s11 ⟨_, H11, I11, _, n11⟩ => again I11 n11
  subst hs3
  exact codeAny_compStart_list (loop _ rfl) (T.self _ 0 _ _ _ st4 (loop _ rfl))
theorem pe_comp {X : Cx} {elt tg iter : Expr} {ifs : List Expr} {scope : Scope} {pos : Pos} {wi : TI} {g : TG} {tc : TT} {te : TE} {k : Nat} {N : List Str} {ix : List Nat} (sc : Scope) (hsc : X.env.scope = sc) (S : CompSc sc X.N scope k N ix)
    (hx : X.xe = fun _ _ => False) (hc : X.calm = true) (hi : PI X tg iter wi)
    (hg : ∀ cl C s3 H3 fp pins, PG (cxComp X N scope cl C s3 H3 fp pins) tg g) (ht : ∀ cl C s3 H3 fp pins, PIf (cxComp X N scope cl C s3 H3 fp pins) ifs tc) (he : ∀ cl C s3 H3 fp pins, PE (cxComp X N scope cl C s3 H3 fp pins) elt te)
    (hs : ∀ x, foldedSetIterable iter X.env x = pure x := by intro _; rfl) : PE X (.ListComp elt [⟨tg, iter, ifs, 0⟩] scope pos) (tComp wi g tc te (stComp k ix)) := by
  intro pins s σ H Q I h
  rw [eval_ListComp]
  show wpAny _ X.A (comprehension (.ListComp elt [⟨tg, iter, ifs, 0⟩] scope pos) scope X.env _ (newList []) false (eval iter X.env) none) _ _ s
  refine comp_gen sc hsc S hx hc hi hg ht he (use := none) (QQ := EP X pins σ Q) pins s σ H Q I h (fun D C H5 s6 hI hm hf q => ?_) hs
  refine L2.o_E (hm) fun m6 hn6 => ?_
  exact ⟨m6, hn6, fun h' hs' => ⟨.ref D, H5, hI h' hs', rfl, q⟩⟩
theorem ps_setC {X : Cx} {i : Nat} {x : Str} {pos' spos : Pos} {elt tg iter : Expr} {ifs : List Expr} {scope : Scope} {pos : Pos} {wi : TI} {g : TG} {tc : TT} {te : TE} {k : Nat} {N : List Str} {ix : List Nat} (hN : X.N.Nodup) (hi' : X.N[i]? = some x) (hx' : Loc X.env.scope x) (sc : Scope) (hsc : X.env.scope = sc) (S : CompSc sc X.N scope k N ix)
    (hx : X.xe = fun _ _ => False) (hc : X.calm = true) (hi : PI X tg iter wi)
    (hg : ∀ cl C s3 H3 fp pins, PG (cxComp X N scope cl C s3 H3 fp pins) tg g) (ht : ∀ cl C s3 H3 fp pins, PIf (cxComp X N scope cl C s3 H3 fp pins) ifs tc) (he : ∀ cl C s3 H3 fp pins, PE (cxComp X N scope cl C s3 H3 fp pins) elt te)
    (hsw : swapsWith (.ListComp elt [⟨tg, iter, ifs, 0⟩] scope pos) (some (.Name x pos')) spos.line X.env = pure true := by rfl) (hf : X.fn x = true ∨ X.env.scope.names.lookup x = some .local := by first | exact .inl rfl | exact .inr rfl | assumption)
    (hs : ∀ x, foldedSetIterable iter X.env x = pure x := by intro _; rfl) : PS X (.Assign [.Name x pos'] (.ListComp elt [⟨tg, iter, ifs, 0⟩] scope pos) spos) (tAsg (tComp wi g tc te (stComp k ix)) (gName i)) := by
  intro pins s σ H D I h
  rw [exec_Assign_Name_used _ _ _ _ hsw]
  refine wpAny_bind (wpAny_standAt (wpAny_bind ?_))
  show wpAny _ X.A (do let _ ← comprehension (.ListComp elt [⟨tg, iter, ifs, 0⟩] scope pos) scope X.env _ (newList []) false (eval iter X.env) (some (assign (.Name x pos') X.env))) _ _ s
  refine wpAny_bind (wpAny_mono (comp_gen sc hsc S hx hc hi hg ht he (use := some (assign (.Name x pos') X.env)) (QQ := fun _ s' => SP X pins D .next s') pins s σ H _ I h (fun D' C H5 s6 hI hm hfp q => ?_) hs) (fun _ s' hq => wpAny_pure (wpAny_pure hq)) fun _ _ e => e)
  refine L2.o_E (hm) fun m6 hn6 => ?_
  have I6 : Inv X pins σ H5 s6 := hI s6.heap (Heap.SameBut.refl _ _)
  show wpAny _ X.A (assign (.Name x pos') X.env (.ref D')) _ _ s6
  refine wpAny_assign_Name (store_ok2 I6 hN hi' hx' (v := .ref D') rfl (fun s7 I7 hs7 => ?_) hf)
  refine L2.o_EA (hs7) fun a hsb ha => ?_
  have hne : C ≠ a := by
    rcases ha with rfl | ha
    · exact hfp.2.1
    · exact fun z => hfp.2.2.2.2.1 x a ha z.symm
  refine ⟨m6, hn6.sameBut hsb hne, fun h' hs' => ⟨_, H5, ?_, q⟩⟩
  have := Inv.turned (t' := s7.toks) (it := C) (h' := h') I7 (fun b o hb e => (hs'.2 b hb).trans e) hfp.1 hfp.2.1 hfp.2.2.2.1 hfp.2.2.2.2.1 hfp.2.2.2.2.2
  exact this
end L2
namespace L2
open PySem PySem.Spec PyProof.Rows
theorem Same.tup {K : PySem.W.Frag} {H H' : Hp} {a : Addr} {xs : List V} (e : Same H H') (h : SqT K H a xs) : SqT K H' a xs := by
  rcases h with (h | ⟨o, h⟩) | h
  · exact .inl (.inl (e _ _ h))
  · exact .inl (.inr ⟨o, e _ _ h⟩)
  · exact .inr h
noncomputable def big : Nat := 2 ^ 1000
theorem bits_of_big {a : Int} (h : a.natAbs < big) : Builtin.Int.intBits a ≤ 2 ^ 20 := by
  unfold Builtin.Int.intBits
  by_cases h0 : a = 0
  · subst h0; simp
  · have h1 : a.natAbs ≠ 0 := by omega
    have h2 : a.natAbs.log2 < 1000 := (Nat.log2_lt h1).mpr h
    have h3 : (a == 0) = false := by simpa using h0
    rw [h3]
    simp only [Bool.false_eq_true, if_false]
    have : (2 : Nat) ^ 20 = 1048576 := by decide
    omega
theorem log_of_big {a : Int} (h : a.natAbs < big) : a.natAbs.log2 < 9000 := by
  by_cases h0 : a.natAbs = 0
  · rw [h0]; decide +kernel
  · have h2 : a.natAbs.log2 < 1000 := (Nat.log2_lt h0).mpr h
    omega
noncomputable def CMulB (i j : Int) : Prop := (i.natAbs < big ∧ j.natAbs < big) ∨ CMul i j
noncomputable def CDivB (_ j : Int) : Prop := j ≠ 0 ∧ j.natAbs < big
theorem op_mulB {X : Cx} : OpR X (binaryOp .Mult) (rI CMulB fun i j => .int (i * j)) := opI fun _ _ _ _ _ _ _ hc q => mul_int q (hc.elim (fun z => .of_bits (bits_of_big z.1) (bits_of_big z.2)) CMul.ok)
theorem op_fdivB {X : Cx} : OpR X (binaryOp .FloorDiv) (rI CDivB fun i j => .int (i.fdiv j)) := opI fun _ _ _ _ _ _ _ hc q => floordiv_int hc.1 q (.inl (PyProof.noPylong_of_log2 (log_of_big hc.2)))
structure Lam where
  qual : Str
  params : Arguments
  body : Expr
  scope : Scope
  ps : List Str
  free : List Str
class Reg where
  reg : Str → Option Lam
variable [Reg]
noncomputable def fz (a : Addr) (o : Obj) : HO := .frz o (.ext fun h => h.get? a = some o)
noncomputable def LamAt (H : Hp) (g : Addr) (L : Lam) (cv : List V) : Prop :=
  ∃ (clos : List (Str × Addr)) (pm : Value) (c' : Addr) (ctv : Value) (oc : Obj) (vs : Array Value) (q : Str) (t : Tok) (φ : HO), H g = some (fz g (PySem.W.kla_obj "<lambda>" L.qual L.params L.body L.scope clos pm c' ctv)) ∧ H c' = some (.frz oc φ) ∧ oc.data = .fields vs ∧ vs[1]? = some (.str q t) ∧ cv.length = clos.length ∧
    clos.map (fun z => z.1) = L.free ∧ (clos.map (fun z => z.2)).Nodup ∧ ∀ (i : Nat) (z : Str × Addr) (v : V), clos[i]? = some z → cv[i]? = some v → ∃ u o, H z.2 = some (fz z.2 o) ∧ o.data = .cell (some u) ∧ RelV v u
noncomputable def FnV (K : PySem.W.Frag) (H : Hp) (g : Addr) (tag : Str) (cv : List V) : Prop :=
  (Reg.reg tag = none ∧ cv = [] ∧ PySem.W.nsIn K mainGlobals tag = some (some (.ref g))) ∨ ∃ L, Reg.reg tag = some L ∧ LamAt H g L cv
theorem LamAt.mono {H H' : Hp} {g : Addr} {L : Lam} {cv : List V} (e : Same H H') (h : LamAt H g L cv) : LamAt H' g L cv := by
  refine L2.o_EEEEEEEEEAAAAAAA (h) fun clos pm c' ctv oc vs q t φ h1 h2 h3 h4 h5 h6 h7 h8 => ?_
  exact L2.i_EEEEEEEEEAAAAAAA (clos) (pm) (c') (ctv) (oc) (vs) (q) (t) (φ) (e _ _ h1) (e _ _ h2) (h3) (h4) (h5) (h6) (h7) (fun i q v a b => let ⟨u, o, x, y⟩ := h8 i q v a b; ⟨u, o, e _ _ x, y⟩)
theorem FnV.mono {K : PySem.W.Frag} {H H' : Hp} {g : Addr} {tag : Str} {cv : List V} (e : Same H H') (h : FnV K H g tag cv) : FnV K H' g tag cv := by
  rcases h with h | ⟨L, h1, h2⟩
  · exact .inl h
  · exact .inr ⟨L, h1, h2.mono e⟩
noncomputable def ExcV (K : PySem.W.Frag) (H : Hp) (e : Addr) (cls : Str) (fv : List (Str × V)) : Prop :=
  ∃ (oe : Obj) (C : Addr) (vs : Array Value), H e = some (fz e oe) ∧ oe.cls = .ref C ∧ oe.data = .fields vs ∧ PySem.W.nsIn K mainGlobals cls = some (some (.ref C)) ∧ ((fv = [] ∧ oe.dict = none) ∨ ∃ dx, oe.dict = some dx ∧ H dx = some (.xd fv))
theorem ExcV.mono {K : PySem.W.Frag} {H H' : Hp} {e : Addr} {cls : Str} {fv : List (Str × V)} (s : Same H H') (h : ExcV K H e cls fv) : ExcV K H' e cls fv := by
  refine L2.o_EEEAAAA (h) fun oe C vs h1 h2 h3 h4 h5 => ?_
  refine L2.i_EEEAAAA (oe) (C) (vs) (s _ _ h1) (h2) (h3) (h4) ?_
  rcases h5 with h5 | ⟨dx, h5, h6⟩
  · exact .inl h5
  · exact .inr ⟨dx, h5, s _ _ h6⟩
noncomputable def excD (cls : Str) (fd : List PyData) : PyData := .dict [(.bool true, .str cls), (.none, .tuple fd)]
noncomputable def nmD (fv : List (Str × V)) : List PyData := fv.map fun p => .str p.1
noncomputable def InsV (K : PySem.W.Frag) (H : Hp) (a : Addr) (cls : Str) (fs : List (Str × V)) : Prop := ∃ C dx, H a = some (.ins C dx fs) ∧ PySem.W.nsIn K mainGlobals cls = some (some (.ref C))
theorem InsV.mono {K : PySem.W.Frag} {H H' : Hp} {a : Addr} {cls : Str} {fs : List (Str × V)} (s : Same H H') (h : InsV K H a cls fs) : InsV K H' a cls fs := by
  refine L2.o_EEA (h) fun C dx h1 h2 => ?_
  exact L2.i_EEA (C) (dx) (s _ _ h1) (h2)
mutual
inductive Den (K : PySem.W.Frag) (H : Hp) : V → PyData → Prop
  | non : Den K H .non .none
  | bl (b : Bool) : Den K H (.bl b) (.bool b)
  | int (i : Int) : Den K H (.int i) (.int i)
  | str (x : Str) : Den K H (.str x) (.str x)
  | tup {a : Addr} {vs : List V} {ds : List PyData} : SqT K H a vs → DenL K H vs ds → Den K H (.ref a) (.tuple ds)
  | lst {a : Addr} {vs : List V} {ds : List PyData} : SqL K H a vs → DenL K H vs ds → Den K H (.ref a) (.list ds)
  | fn {g : Addr} {tag : Str} {cv : List V} {caps : List PyData} : FnV K H g tag cv → DenL K H cv caps → Den K H (.ref g) (.dict [(.none, .str tag), (.none, .tuple caps)])
  | exc {e : Addr} {cls : Str} {fv : List (Str × V)} {fd : List PyData} : ExcV K H e cls fv → DenL K H (fv.map (·.2)) fd → Den K H (.ref e) (.dict [(.bool true, .str cls), (.none, .tuple (nmD fv ++ fd))])
  | obj {a : Addr} {cls : Str} {fs : List (Str × V)} {fd : List PyData} : InsV K H a cls fs → DenL K H (fs.map (·.2)) fd → Den K H (.ref a) (.dict [(.bool false, .str cls), (.none, .tuple ((fs.map (·.1)).map .str)), (.none, .tuple fd)])
inductive DenL (K : PySem.W.Frag) (H : Hp) : List V → List PyData → Prop
  | nil : DenL K H [] []
  | cons {v : V} {d : PyData} {vs : List V} {ds : List PyData} : Den K H v d → DenL K H vs ds → DenL K H (v :: vs) (d :: ds)
end
section
variable {K : PySem.W.Frag} {H H' : Hp}
theorem Den.mono (e : Same H H') {v : V} {d : PyData} (h : Den K H v d) : Den K H' v d :=
  Den.rec (motive_1 := fun v d _ => Den K H' v d) (motive_2 := fun vs ds _ => DenL K H' vs ds) .non .bl .int .str (fun h _ r => .tup (e.tup h) r) (fun h _ r => .lst (e.seq h) r) (fun h _ r => .fn (h.mono e) r) (fun h _ r => .exc (h.mono e) r) (fun h _ r => .obj (h.mono e) r) .nil (fun _ _ a b => .cons a b) h
theorem DenL.mono (e : Same H H') {vs : List V} {ds : List PyData} (h : DenL K H vs ds) : DenL K H' vs ds :=
  DenL.rec (motive_1 := fun v d _ => Den K H' v d) (motive_2 := fun vs ds _ => DenL K H' vs ds) .non .bl .int .str (fun h _ r => .tup (e.tup h) r) (fun h _ r => .lst (e.seq h) r) (fun h _ r => .fn (h.mono e) r) (fun h _ r => .exc (h.mono e) r) (fun h _ r => .obj (h.mono e) r) .nil (fun _ _ a b => .cons a b) h
theorem DenL.ind {M : List V → List PyData → Prop} (n : M [] []) (c : ∀ {v d vs ds}, Den K H v d → DenL K H vs ds → M vs ds → M (v :: vs) (d :: ds)) {vs : List V} {ds : List PyData} (h : DenL K H vs ds) : M vs ds :=
  DenL.rec (motive_1 := fun _ _ _ => True) (motive_2 := fun vs ds _ => M vs ds) trivial (fun _ => trivial) (fun _ => trivial) (fun _ => trivial) (fun _ _ _ => trivial) (fun _ _ _ => trivial) (fun _ _ _ => trivial) (fun _ _ _ => trivial) (fun _ _ _ => trivial) n (fun h r _ ih => c h r ih) h
theorem DenL.length {vs : List V} {ds : List PyData} (h : DenL K H vs ds) : vs.length = ds.length := h.ind (M := fun vs ds => vs.length = ds.length) rfl fun _ _ ih => congrArg (· + 1) ih
theorem DenL.get {vs : List V} {ds : List PyData} {i : Nat} {d : PyData} (h : DenL K H vs ds) : ds[i]? = some d → ∃ v, vs[i]? = some v ∧ Den K H v d :=
  h.ind (M := fun vs ds => ∀ i, ds[i]? = some d → ∃ v, vs[i]? = some v ∧ Den K H v d) (fun _ e => by rw [List.getElem?_nil] at e; cases e) (fun h _ ih i => by
    cases i with
    | zero => intro e; cases e; exact ⟨_, rfl, h⟩
    | succ i => exact ih i) i
theorem DenL.append {vs ws : List V} {ds es : List PyData} (h : DenL K H vs ds) (s : DenL K H ws es) : DenL K H (vs ++ ws) (ds ++ es) := h.ind (M := fun vs ds => DenL K H (vs ++ ws) (ds ++ es)) s fun h _ ih => .cons h ih
theorem DenL.set {v : V} {d : PyData} (h : Den K H v d) : ∀ {vs : List V} {ds : List PyData} (i : Nat), DenL K H vs ds → DenL K H (vs.set i v) (ds.set i d)
  | _, _, _, .nil => .nil
  | _, _, 0, .cons _ r => .cons h r
  | _, _, i + 1, .cons q r => .cons q (DenL.set h i r)
theorem DenL.take : ∀ {vs : List V} {ds : List PyData} (n : Nat), DenL K H vs ds → DenL K H (vs.take n) (ds.take n)
  | _, _, 0, _ => .nil
  | _, _, _ + 1, .nil => .nil
  | _, _, n + 1, .cons h r => .cons h (DenL.take n r)
theorem DenL.drop : ∀ {vs : List V} {ds : List PyData} (n : Nat), DenL K H vs ds → DenL K H (vs.drop n) (ds.drop n)
  | _, _, 0, r => r
  | _, _, _ + 1, .nil => .nil
  | _, _, n + 1, .cons _ r => DenL.drop n r
theorem DenL.ints : ∀ ns : List Int, DenL K H (ns.map V.int) (ns.map PyData.int)
  | [] => .nil
  | n :: r => .cons (.int n) (DenL.ints r)
theorem DenL.atI {vs : List V} {ds : List PyData} {i : Int} {d : PyData} (r : DenL K H vs ds) (h : atI ds i = some d) : ∃ v, L2.atI vs i = some v ∧ Den K H v d := by
  unfold L2.atI at h ⊢
  rw [← r.length] at h
  cases e : ixN vs.length i with
  | none => rw [e] at h; cases h
  | some j =>
    rw [e] at h
    refine L2.o_EA (r.get h) fun v h1 h2 => ?_
    exact ⟨v, h1, h2⟩
inductive Sc : V → PyData → Prop
  | non : Sc .non .none
  | bl (b : Bool) : Sc (.bl b) (.bool b)
  | int (i : Int) : Sc (.int i) (.int i)
  | str (x : Str) : Sc (.str x) (.str x)
theorem Sc.den {v : V} {d : PyData} (h : Sc v d) : Den K H v d := by
  cases h with
  | non => exact .non
  | bl b => exact .bl b
  | int i => exact .int i
  | str x => exact .str x
theorem den_int {v : V} {i : Int} (h : Den K H v (.int i)) : v = .int i := by cases h; rfl
theorem den_bl {v : V} {b : Bool} (h : Den K H v (.bool b)) : v = .bl b := by cases h; rfl
theorem den_str {v : V} {x : Str} (h : Den K H v (.str x)) : v = .str x := by cases h; rfl
inductive DLst (K : PySem.W.Frag) (H : Hp) (v : V) (ds : List PyData) : Prop
  | mk (a : Addr) (vs : List V) (e : v = .ref a) (q : SqL K H a vs) (r : DenL K H vs ds) : DLst K H v ds
inductive DTup (K : PySem.W.Frag) (H : Hp) (v : V) (ds : List PyData) : Prop
  | mk (a : Addr) (vs : List V) (e : v = .ref a) (q : SqT K H a vs) (r : DenL K H vs ds) : DTup K H v ds
theorem den_lst {v : V} {ds : List PyData} (h : Den K H v (.list ds)) : DLst K H v ds := by cases h with | lst q r => exact ⟨_, _, rfl, q, r⟩
theorem den_tup {v : V} {ds : List PyData} (h : Den K H v (.tuple ds)) : DTup K H v ds := by cases h with | tup q r => exact ⟨_, _, rfl, q, r⟩
theorem denl_cons {vs : List V} {d : PyData} {ds : List PyData} (h : DenL K H vs (d :: ds)) : ∃ v ws, vs = v :: ws ∧ Den K H v d ∧ DenL K H ws ds := by cases h with | cons q r => exact ⟨_, _, rfl, q, r⟩
theorem denl_nil {vs : List V} (h : DenL K H vs []) : vs = [] := by cases h; rfl
noncomputable def lf : PyData → Bool
  | .list _ => false
  | .dict _ => false
  | .tuple ds => go ds
  | _ => true
where go : List PyData → Bool
  | [] => true
  | d :: r => lf d && go r
end
section
variable {X : Cx} {pins : List (Addr × Obj)} {σ : St} {H : Hp} {s : Shared}
theorem Den.reads (I : Inv X pins σ H s) {v : V} {d : PyData} {u : Value} (h : Den X.K H v d) (z : d.canLay0 = true) (r : RelV v u) : ∃ as, Reads s.heap u d as := by
  refine Den.rec (motive_1 := fun v d _ => d.canLay0 = true → ∀ u, RelV v u → ∃ as, Reads s.heap u d as) (motive_2 := fun vs ds _ => PyData.canLayAll0 ds = true → ∀ us, Vals vs us → ∃ as, ReadsAll s.heap us ds as) ?_ ?_ ?_ ?_ ?_ ?_ (fun _ _ _ z => by simp [PyData.canLay0] at z) (fun _ _ _ z => by simp [PyData.canLay0] at z) (fun _ _ _ z => by simp [PyData.canLay0] at z) ?_ ?_ h z u r
  · intro _ u r; cases r; exact ⟨_, Reads.none⟩
  · intro b _ u r; cases r; exact ⟨_, Reads.bool b⟩
  · intro i _ u r; obtain ⟨t, rfl⟩ := r; exact ⟨_, Reads.int i t⟩
  · intro x _ u r; obtain ⟨t, rfl⟩ := r; exact ⟨_, Reads.str x t⟩
  · intro _ _ _ h _ ih z u r
    cases r
    obtain ⟨its, rv, ⟨o, e, c, n, d⟩, _⟩ := I.tuple h
    refine L2.o_E (ih (by simpa [PyData.canLay0] using z) its rv) fun as z => ?_
    exact ⟨as, reads_tuple_at e c d (by simpa using z)⟩
  · intro _ _ _ h _ ih z u r
    cases r
    obtain ⟨its, rv, ⟨o, n, e, c, _, d⟩, _⟩ := I.list h
    refine L2.o_E (ih (by simpa [PyData.canLay0] using z) its rv) fun as z => ?_
    exact ⟨_, reads_list_at e c d (by simpa using z)⟩
  · intro _ us r; cases r; exact ⟨_, ReadsAll.nil⟩
  · intro _ _ _ _ _ _ ih1 ih2 z us r
    rw [PyData.canLayAll0, Bool.and_eq_true] at z
    cases r with
    | cons r1 r2 =>
      refine L2.o_E (ih1 z.1 _ r1) fun as z1 => ?_
      refine L2.o_E (ih2 z.2 _ r2) fun bs y => ?_
      exact ⟨_, ReadsAll.cons z1 y⟩
noncomputable def rEqD (K : PySem.W.Frag) : R2 := fun x y H Q => ∃ da db, Den K H x da ∧ Den K H y db ∧ SeqAt.shaped da = true ∧ SeqAt.shaped db = true ∧ Q (.bl (PyData.eqv da db)) H
noncomputable def rNeD (K : PySem.W.Frag) : R2 := fun x y H Q => ∃ da db, Den K H x da ∧ Den K H y db ∧ SeqAt.shaped da = true ∧ SeqAt.shaped db = true ∧ Q (.bl (!PyData.eqv da db)) H
theorem op_eqD (hu : X.A.units + 64 < cLine) : OpR X (compareOp .Eq) (rEqD X.K) := by
  intro pins s σ H x y v u Q I rx ry h
  refine L2.o_EEAAAA (h) fun da db ha hb sa sb q => ?_
  refine L2.o_E (ha.reads I (SeqAt.canLay_of_shaped sa) rx) fun as ra => ?_
  refine L2.o_E (hb.reads I (SeqAt.canLay_of_shaped sb) ry) fun bs rb => ?_
  exact eq_dataH ra rb sa sb hu (fin_bl I q rfl)
theorem op_neD (hu : X.A.units + 64 < cLine) : OpR X (compareOp .NotEq) (rNeD X.K) := by
  intro pins s σ H x y v u Q I rx ry h
  refine L2.o_EEAAAA (h) fun da db ha hb sa sb q => ?_
  refine L2.o_E (ha.reads I (SeqAt.canLay_of_shaped sa) rx) fun as ra => ?_
  refine L2.o_E (hb.reads I (SeqAt.canLay_of_shaped sb) ry) fun bs rb => ?_
  exact ne_dataH ra rb sa sb hu (fin_bl I q rfl)
end
open Classical in
noncomputable def del (H : Hp) (P : Addr → Prop) : Hp := fun b => if P b then none else H b
noncomputable def uni (hid : Addr → Prop) (ow : List Addr) : Addr → Prop := fun b => hid b ∨ b ∈ ow
theorem del_in {H : Hp} {P : Addr → Prop} {b : Addr} (h : P b) : del H P b = none := by unfold del; rw [if_pos h]
theorem del_out {H : Hp} {P : Addr → Prop} {b : Addr} (h : ¬ P b) : del H P b = H b := by unfold del; rw [if_neg h]
theorem del_same (H : Hp) (P : Addr → Prop) : Same (del H P) H := fun b o e => by
  by_cases h : P b
  · rw [del_in h] at e; cases e
  · rw [del_out h] at e; exact e
theorem del_mono {H H' : Hp} (e : Same H H') (P : Addr → Prop) : Same (del H P) (del H' P) := fun b o q => by
  by_cases h : P b
  · rw [del_in h] at q; cases q
  · rw [del_out h] at q ⊢; exact e b o q
theorem del_sub {H : Hp} {P Q : Addr → Prop} (h : ∀ b, P b → Q b) : Same (del H Q) (del H P) := fun b o q => by
  by_cases hq : Q b
  · rw [del_in hq] at q; cases q
  · rw [del_out hq] at q
    rw [del_out fun z => hq (h b z)]
    exact q
theorem del_false (H : Hp) : del H (fun _ => False) = H := by funext b; exact del_out (fun z => z)
theorem uni_nil (hid : Addr → Prop) : uni hid [] = hid := by
  funext b
  unfold uni
  simp
theorem uni_in {hid : Addr → Prop} {ow : List Addr} {b : Addr} (h : b ∈ ow) : uni hid ow b := .inr h
theorem del_uni (H : Hp) (hid : Addr → Prop) (ow : List Addr) : Same (del H (uni hid ow)) (del H hid) := del_sub fun _ z => .inl z
theorem del_upd {H : Hp} {l : Addr} {P : Addr → Prop} {o : HO} (h : P l) : del (upd H l o) P = del H P := by
  funext b
  by_cases hb : P b
  · rw [del_in hb, del_in hb]
  · rw [del_out hb, del_out hb, upd_ne]
    rintro rfl
    exact hb h
theorem same_new {H : Hp} {p : Addr} {o : HO} (h : H p = none) : Same H (upd H p o) := fun b u e => by rw [upd_ne (ne_of_none e h)]; exact e
theorem del_new {H H' : Hp} {p : Addr} {P Q : Addr → Prop} (s : Same H H') (h : H p = none) (hq : ∀ b, Q b → P b ∨ b = p) : Same (del H P) (del H' Q) := fun b u e => by
  by_cases hb : P b
  · rw [del_in hb] at e; cases e
  · rw [del_out hb] at e
    have hne : b ≠ p := ne_of_none e h
    rw [del_out fun z => (hq b z).elim hb hne]
    exact s b u e
section
variable {K : PySem.W.Frag} {H : Hp} {hid : Addr → Prop} {ow : List Addr}
theorem del_lst (hi : ∀ l ∈ ow, ∃ vs, H l = some (.lst vs)) {a : Addr} {o : HO} (e : del H hid a = some o) (n : ∀ vs, o ≠ .lst vs) : del H (uni hid ow) a = some o := by
  have e' := del_same _ _ a o e
  have nh : ¬ hid a := fun z => by rw [del_in z] at e; cases e
  rw [del_out]
  · exact e'
  · rintro (z | z)
    · exact nh z
    · refine L2.o_E (hi a z) fun vs e2 => ?_
      rw [e'] at e2
      exact n vs (Option.some.inj e2)
theorem SqT.clean (hi : ∀ l ∈ ow, ∃ vs, H l = some (.lst vs)) {a : Addr} {vs : List V} (q : SqT K (del H hid) a vs) : SqT K (del H (uni hid ow)) a vs := by
  rcases q with (q | ⟨o, q⟩) | q
  · exact .inl (.inl (del_lst hi q fun _ z => by cases z))
  · exact .inl (.inr ⟨o, del_lst hi q fun _ z => by cases z⟩)
  · exact .inr q
theorem Den.clean (hi : ∀ l ∈ ow, ∃ vs, H l = some (.lst vs)) {v : V} {d : PyData} (z : Den K (del H hid) v d) : lf d = true → Den K (del H (uni hid ow)) v d :=
  Den.rec (motive_1 := fun v d _ => lf d = true → Den K (del H (uni hid ow)) v d) (motive_2 := fun vs ds _ => lf.go ds = true → DenL K (del H (uni hid ow)) vs ds) (fun _ => .non) (fun b _ => .bl b) (fun i _ => .int i) (fun x _ => .str x) (fun q _ r h => .tup (q.clean hi) (r h)) (fun _ _ _ h => by cases h) (fun _ _ _ h => by cases h) (fun _ _ _ h => by cases h) (fun _ _ _ h => by cases h) (fun _ => .nil) (fun _ _ a b h => by rw [lf.go, Bool.and_eq_true] at h; exact .cons (a h.1) (b h.2)) z
theorem DenL.clean (hi : ∀ l ∈ ow, ∃ vs, H l = some (.lst vs)) {vs : List V} {ds : List PyData} (z : DenL K (del H hid) vs ds) : lf.go ds = true → DenL K (del H (uni hid ow)) vs ds :=
  DenL.rec (motive_1 := fun v d _ => lf d = true → Den K (del H (uni hid ow)) v d) (motive_2 := fun vs ds _ => lf.go ds = true → DenL K (del H (uni hid ow)) vs ds) (fun _ => .non) (fun b _ => .bl b) (fun i _ => .int i) (fun x _ => .str x) (fun q _ r h => .tup (q.clean hi) (r h)) (fun _ _ _ h => by cases h) (fun _ _ _ h => by cases h) (fun _ _ _ h => by cases h) (fun _ _ _ h => by cases h) (fun _ => .nil) (fun _ _ a b h => by rw [lf.go, Bool.and_eq_true] at h; exact .cons (a h.1) (b h.2)) z
end
noncomputable abbrev Rho := List (Option PyData)
inductive Ty where
  | cl : Ty
  | lst : Ty → Ty
  | tup : List Ty → Ty
  | io : Addr → Ty
mutual
inductive DenO (K : PySem.W.Frag) (H C : Hp) : Ty → V → PyData → List Addr → Prop
  | cl {v : V} {d : PyData} : Den K C v d → DenO K H C .cl v d []
  | non {t : Ty} : DenO K H C t .non .none []
  | lst {t : Ty} {a : Addr} {vs : List V} {ds : List PyData} {as : List Addr} : H a = some (.lst vs) → DenOs K H C t vs ds as → a ∉ as → DenO K H C (.lst t) (.ref a) (.list ds) (a :: as)
  | tup {ts : List Ty} {a : Addr} {vs : List V} {ds : List PyData} {as : List Addr} : SqT K C a vs → DenOp K H C ts vs ds as → DenO K H C (.tup ts) (.ref a) (.tuple ds) as
  | io {l : Addr} {vs : List V} {ds : List PyData} : H l = some (.lst vs) → DenL K C vs ds → DenO K H C (.io l) (.ref l) (.list ds) [l]
inductive DenOs (K : PySem.W.Frag) (H C : Hp) : Ty → List V → List PyData → List Addr → Prop
  | nil {t : Ty} : DenOs K H C t [] [] []
  | cons {t : Ty} {v : V} {d : PyData} {vs : List V} {ds : List PyData} {as bs : List Addr} : DenO K H C t v d as → DenOs K H C t vs ds bs → (∀ p ∈ as, p ∉ bs) → DenOs K H C t (v :: vs) (d :: ds) (as ++ bs)
inductive DenOp (K : PySem.W.Frag) (H C : Hp) : List Ty → List V → List PyData → List Addr → Prop
  | nil : DenOp K H C [] [] [] []
  | cons {t : Ty} {ts : List Ty} {v : V} {d : PyData} {vs : List V} {ds : List PyData} {as bs : List Addr} : DenO K H C t v d as → DenOp K H C ts vs ds bs → (∀ p ∈ as, p ∉ bs) → DenOp K H C (t :: ts) (v :: vs) (d :: ds) (as ++ bs)
end
section
variable {K : PySem.W.Frag} {H H' C C' G : Hp}
theorem DenO.mono (c : Same C C') {t : Ty} {v : V} {d : PyData} {as : List Addr} (h : DenO K H C t v d as) : (∀ p ∈ as, ∀ o, H p = some o → H' p = some o) → DenO K H' C' t v d as :=
  DenO.rec (motive_1 := fun t v d as _ => (∀ p ∈ as, ∀ o, H p = some o → H' p = some o) → DenO K H' C' t v d as) (motive_2 := fun t v d as _ => (∀ p ∈ as, ∀ o, H p = some o → H' p = some o) → DenOs K H' C' t v d as) (motive_3 := fun t v d as _ => (∀ p ∈ as, ∀ o, H p = some o → H' p = some o) → DenOp K H' C' t v d as) (fun h _ => .cl (h.mono c)) (fun _ => .non) (fun h _ n r k => .lst (k _ List.mem_cons_self _ h) (r fun p hp => k p (List.mem_cons_of_mem _ hp)) n) (fun h _ r k => .tup (c.tup h) (r k)) (fun h q k => .io (k _ (List.mem_singleton.mpr rfl) _ h) (q.mono c)) (fun _ => .nil) (fun _ _ n h r k => .cons (h fun p hp => k p (List.mem_append_left _ hp)) (r fun p hp => k p (List.mem_append_right _ hp)) n) (fun _ => .nil) (fun _ _ n h r k => .cons (h fun p hp => k p (List.mem_append_left _ hp)) (r fun p hp => k p (List.mem_append_right _ hp)) n) h
theorem DenOs.mono (c : Same C C') {t : Ty} {v : List V} {d : List PyData} {as : List Addr} (h : DenOs K H C t v d as) : (∀ p ∈ as, ∀ o, H p = some o → H' p = some o) → DenOs K H' C' t v d as :=
  DenOs.rec (motive_1 := fun t v d as _ => (∀ p ∈ as, ∀ o, H p = some o → H' p = some o) → DenO K H' C' t v d as) (motive_2 := fun t v d as _ => (∀ p ∈ as, ∀ o, H p = some o → H' p = some o) → DenOs K H' C' t v d as) (motive_3 := fun t v d as _ => (∀ p ∈ as, ∀ o, H p = some o → H' p = some o) → DenOp K H' C' t v d as) (fun h _ => .cl (h.mono c)) (fun _ => .non) (fun h _ n r k => .lst (k _ List.mem_cons_self _ h) (r fun p hp => k p (List.mem_cons_of_mem _ hp)) n) (fun h _ r k => .tup (c.tup h) (r k)) (fun h q k => .io (k _ (List.mem_singleton.mpr rfl) _ h) (q.mono c)) (fun _ => .nil) (fun _ _ n h r k => .cons (h fun p hp => k p (List.mem_append_left _ hp)) (r fun p hp => k p (List.mem_append_right _ hp)) n) (fun _ => .nil) (fun _ _ n h r k => .cons (h fun p hp => k p (List.mem_append_left _ hp)) (r fun p hp => k p (List.mem_append_right _ hp)) n) h
theorem DenOp.mono (c : Same C C') {t : List Ty} {v : List V} {d : List PyData} {as : List Addr} (h : DenOp K H C t v d as) : (∀ p ∈ as, ∀ o, H p = some o → H' p = some o) → DenOp K H' C' t v d as :=
  DenOp.rec (motive_1 := fun t v d as _ => (∀ p ∈ as, ∀ o, H p = some o → H' p = some o) → DenO K H' C' t v d as) (motive_2 := fun t v d as _ => (∀ p ∈ as, ∀ o, H p = some o → H' p = some o) → DenOs K H' C' t v d as) (motive_3 := fun t v d as _ => (∀ p ∈ as, ∀ o, H p = some o → H' p = some o) → DenOp K H' C' t v d as) (fun h _ => .cl (h.mono c)) (fun _ => .non) (fun h _ n r k => .lst (k _ List.mem_cons_self _ h) (r fun p hp => k p (List.mem_cons_of_mem _ hp)) n) (fun h _ r k => .tup (c.tup h) (r k)) (fun h q k => .io (k _ (List.mem_singleton.mpr rfl) _ h) (q.mono c)) (fun _ => .nil) (fun _ _ n h r k => .cons (h fun p hp => k p (List.mem_append_left _ hp)) (r fun p hp => k p (List.mem_append_right _ hp)) n) (fun _ => .nil) (fun _ _ n h r k => .cons (h fun p hp => k p (List.mem_append_left _ hp)) (r fun p hp => k p (List.mem_append_right _ hp)) n) h
theorem DenO.raw (c : Same C G) {t : Ty} {v : V} {d : PyData} {as : List Addr} (h : DenO K H C t v d as) : (∀ p ∈ as, ∀ o, H p = some o → G p = some o) → Den K G v d :=
  DenO.rec (motive_1 := fun t v d as _ => (∀ p ∈ as, ∀ o, H p = some o → G p = some o) → Den K G v d) (motive_2 := fun t v d as _ => (∀ p ∈ as, ∀ o, H p = some o → G p = some o) → DenL K G v d) (motive_3 := fun t v d as _ => (∀ p ∈ as, ∀ o, H p = some o → G p = some o) → DenL K G v d) (fun h _ => h.mono c) (fun _ => .non) (fun h _ n r k => .lst (SqL.of (k _ List.mem_cons_self _ h)) (r fun p hp => k p (List.mem_cons_of_mem _ hp))) (fun h _ r k => .tup (c.tup h) (r k)) (fun h q k => .lst (SqL.of (k _ (List.mem_singleton.mpr rfl) _ h)) (q.mono c)) (fun _ => .nil) (fun _ _ n h r k => .cons (h fun p hp => k p (List.mem_append_left _ hp)) (r fun p hp => k p (List.mem_append_right _ hp))) (fun _ => .nil) (fun _ _ n h r k => .cons (h fun p hp => k p (List.mem_append_left _ hp)) (r fun p hp => k p (List.mem_append_right _ hp))) h
theorem DenOs.raw (c : Same C G) {t : Ty} {v : List V} {d : List PyData} {as : List Addr} (h : DenOs K H C t v d as) : (∀ p ∈ as, ∀ o, H p = some o → G p = some o) → DenL K G v d :=
  DenOs.rec (motive_1 := fun t v d as _ => (∀ p ∈ as, ∀ o, H p = some o → G p = some o) → Den K G v d) (motive_2 := fun t v d as _ => (∀ p ∈ as, ∀ o, H p = some o → G p = some o) → DenL K G v d) (motive_3 := fun t v d as _ => (∀ p ∈ as, ∀ o, H p = some o → G p = some o) → DenL K G v d) (fun h _ => h.mono c) (fun _ => .non) (fun h _ n r k => .lst (SqL.of (k _ List.mem_cons_self _ h)) (r fun p hp => k p (List.mem_cons_of_mem _ hp))) (fun h _ r k => .tup (c.tup h) (r k)) (fun h q k => .lst (SqL.of (k _ (List.mem_singleton.mpr rfl) _ h)) (q.mono c)) (fun _ => .nil) (fun _ _ n h r k => .cons (h fun p hp => k p (List.mem_append_left _ hp)) (r fun p hp => k p (List.mem_append_right _ hp))) (fun _ => .nil) (fun _ _ n h r k => .cons (h fun p hp => k p (List.mem_append_left _ hp)) (r fun p hp => k p (List.mem_append_right _ hp))) h
theorem DenOp.raw (c : Same C G) {t : List Ty} {v : List V} {d : List PyData} {as : List Addr} (h : DenOp K H C t v d as) : (∀ p ∈ as, ∀ o, H p = some o → G p = some o) → DenL K G v d :=
  DenOp.rec (motive_1 := fun t v d as _ => (∀ p ∈ as, ∀ o, H p = some o → G p = some o) → Den K G v d) (motive_2 := fun t v d as _ => (∀ p ∈ as, ∀ o, H p = some o → G p = some o) → DenL K G v d) (motive_3 := fun t v d as _ => (∀ p ∈ as, ∀ o, H p = some o → G p = some o) → DenL K G v d) (fun h _ => h.mono c) (fun _ => .non) (fun h _ n r k => .lst (SqL.of (k _ List.mem_cons_self _ h)) (r fun p hp => k p (List.mem_cons_of_mem _ hp))) (fun h _ r k => .tup (c.tup h) (r k)) (fun h q k => .lst (SqL.of (k _ (List.mem_singleton.mpr rfl) _ h)) (q.mono c)) (fun _ => .nil) (fun _ _ n h r k => .cons (h fun p hp => k p (List.mem_append_left _ hp)) (r fun p hp => k p (List.mem_append_right _ hp))) (fun _ => .nil) (fun _ _ n h r k => .cons (h fun p hp => k p (List.mem_append_left _ hp)) (r fun p hp => k p (List.mem_append_right _ hp))) h
theorem DenO.lists {t : Ty} {v : V} {d : PyData} {as : List Addr} (h : DenO K H C t v d as) : ∀ p ∈ as, ∃ vs, H p = some (.lst vs) :=
  DenO.rec (motive_1 := fun t v d as _ => ∀ p ∈ as, ∃ vs, H p = some (.lst vs)) (motive_2 := fun t v d as _ => ∀ p ∈ as, ∃ vs, H p = some (.lst vs)) (motive_3 := fun t v d as _ => ∀ p ∈ as, ∃ vs, H p = some (.lst vs)) (fun _ p hp => absurd hp List.not_mem_nil) (fun p hp => absurd hp List.not_mem_nil) (fun h _ n r p hp => (List.mem_cons.mp hp).elim (fun z => ⟨_, z ▸ h⟩) (r p)) (fun _ _ r p hp => r p hp) (fun h _ p hp => ⟨_, (List.mem_singleton.mp hp) ▸ h⟩) (fun p hp => absurd hp List.not_mem_nil) (fun _ _ n h r p hp => (List.mem_append.mp hp).elim (h p) (r p)) (fun p hp => absurd hp List.not_mem_nil) (fun _ _ n h r p hp => (List.mem_append.mp hp).elim (h p) (r p)) h
theorem DenOs.lists {t : Ty} {v : List V} {d : List PyData} {as : List Addr} (h : DenOs K H C t v d as) : ∀ p ∈ as, ∃ vs, H p = some (.lst vs) :=
  DenOs.rec (motive_1 := fun t v d as _ => ∀ p ∈ as, ∃ vs, H p = some (.lst vs)) (motive_2 := fun t v d as _ => ∀ p ∈ as, ∃ vs, H p = some (.lst vs)) (motive_3 := fun t v d as _ => ∀ p ∈ as, ∃ vs, H p = some (.lst vs)) (fun _ p hp => absurd hp List.not_mem_nil) (fun p hp => absurd hp List.not_mem_nil) (fun h _ n r p hp => (List.mem_cons.mp hp).elim (fun z => ⟨_, z ▸ h⟩) (r p)) (fun _ _ r p hp => r p hp) (fun h _ p hp => ⟨_, (List.mem_singleton.mp hp) ▸ h⟩) (fun p hp => absurd hp List.not_mem_nil) (fun _ _ n h r p hp => (List.mem_append.mp hp).elim (h p) (r p)) (fun p hp => absurd hp List.not_mem_nil) (fun _ _ n h r p hp => (List.mem_append.mp hp).elim (h p) (r p)) h
theorem DenOp.lists {t : List Ty} {v : List V} {d : List PyData} {as : List Addr} (h : DenOp K H C t v d as) : ∀ p ∈ as, ∃ vs, H p = some (.lst vs) :=
  DenOp.rec (motive_1 := fun t v d as _ => ∀ p ∈ as, ∃ vs, H p = some (.lst vs)) (motive_2 := fun t v d as _ => ∀ p ∈ as, ∃ vs, H p = some (.lst vs)) (motive_3 := fun t v d as _ => ∀ p ∈ as, ∃ vs, H p = some (.lst vs)) (fun _ p hp => absurd hp List.not_mem_nil) (fun p hp => absurd hp List.not_mem_nil) (fun h _ n r p hp => (List.mem_cons.mp hp).elim (fun z => ⟨_, z ▸ h⟩) (r p)) (fun _ _ r p hp => r p hp) (fun h _ p hp => ⟨_, (List.mem_singleton.mp hp) ▸ h⟩) (fun p hp => absurd hp List.not_mem_nil) (fun _ _ n h r p hp => (List.mem_append.mp hp).elim (h p) (r p)) (fun p hp => absurd hp List.not_mem_nil) (fun _ _ n h r p hp => (List.mem_append.mp hp).elim (h p) (r p)) h
theorem DenL.os : ∀ {vs : List V} {ds : List PyData}, DenL K C vs ds → DenOs K H C .cl vs ds []
  | _, _, .nil => .nil
  | _, _, .cons h r => .cons (as := []) (.cl h) (DenL.os r) (fun p hp => by cases hp)
theorem DenOs.dl {vs : List V} {ds : List PyData} {as : List Addr} (h : DenOs K H C .cl vs ds as) : DenL K C vs ds ∧ as = [] :=
  DenOs.rec (motive_1 := fun t v d as _ => t = .cl → Den K C v d ∧ as = []) (motive_2 := fun t vs ds as _ => t = .cl → DenL K C vs ds ∧ as = []) (motive_3 := fun _ _ _ _ _ => True) (fun h _ => ⟨h, rfl⟩) (fun _ => ⟨.non, rfl⟩) (fun _ _ _ _ e => Ty.noConfusion e) (fun _ _ _ e => Ty.noConfusion e) (fun _ _ e => Ty.noConfusion e) (fun _ => ⟨.nil, rfl⟩) (fun _ _ n h r e => ⟨.cons (h e).1 (r e).1, by rw [(h e).2, (r e).2]; rfl⟩) trivial (fun _ _ _ _ _ => trivial) h rfl
theorem DenO.den {v : V} {d : PyData} {as : List Addr} (h : DenO K H C .cl v d as) : Den K C v d := by
  cases h with
  | cl h => exact h
  | non => exact .non
theorem DenOs.length {t : Ty} {vs : List V} {ds : List PyData} {as : List Addr} (h : DenOs K H C t vs ds as) : vs.length = ds.length :=
  DenOs.rec (motive_1 := fun _ _ _ _ _ => True) (motive_2 := fun _ vs ds _ _ => vs.length = ds.length) (motive_3 := fun _ _ _ _ _ => True) (fun _ => trivial) trivial (fun _ _ _ _ => trivial) (fun _ _ _ => trivial) (fun _ _ => trivial) rfl (fun _ _ _ _ r => congrArg (· + 1) r) trivial (fun _ _ _ _ _ => trivial) h
theorem DenOp.length {ts : List Ty} {vs : List V} {ds : List PyData} {as : List Addr} (h : DenOp K H C ts vs ds as) : vs.length = ds.length :=
  DenOp.rec (motive_1 := fun _ _ _ _ _ => True) (motive_2 := fun _ _ _ _ _ => True) (motive_3 := fun _ vs ds _ _ => vs.length = ds.length) (fun _ => trivial) trivial (fun _ _ _ _ => trivial) (fun _ _ _ => trivial) (fun _ _ => trivial) trivial (fun _ _ _ _ _ => trivial) rfl (fun _ _ _ _ r => congrArg (· + 1) r) h
theorem DenOs.item : ∀ {t : Ty} {vs : List V} {ds : List PyData} {as : List Addr} {j : Nat} {d : PyData}, DenOs K H C t vs ds as → ds[j]? = some d →
    ∃ v bs, vs[j]? = some v ∧ DenO K H C t v d bs ∧ (∀ p ∈ bs, p ∈ as) ∧ ∀ (H' C' : Hp) (e : PyData), Same C C' → DenO K H' C' t v e bs → (∀ p ∈ as, p ∉ bs → ∀ o, H p = some o → H' p = some o) → DenOs K H' C' t vs (ds.set j e) as
  | _, _, _, _, _, _, .nil, e => by simp at e
  | t, _, _, _, 0, d, .cons (v := v) (ds := ds) (as := as) (bs := bs) h r n, e => by
    simp at e
    subst e
    refine L2.i_EEAAA (v) (as) (rfl) (h) (fun p hp => List.mem_append_left _ hp) (fun H' C' e c h' k => ?_)
    refine .cons h' (r.mono c fun p hp o q => k p (List.mem_append_right _ hp) (fun z => n p z hp) o q) n
  | t, _, _, _, j + 1, d, .cons (v := v) (as := as) (bs := bs) h r n, e => by
    refine L2.o_EEAAA (DenOs.item (j := j) (d := d) r (by simpa using e)) fun w cs h1 h2 h3 h4 => ?_
    refine L2.i_EEAAA (w) (cs) (by simpa using h1) (h2) (fun p hp => List.mem_append_right _ (h3 p hp)) (fun H' C' e c h' k => ?_)
    exact .cons (h.mono c fun p hp o q => k p (List.mem_append_left _ hp) (fun z => n p hp (h3 p z)) o q) (h4 H' C' e c h' fun p hp hn o q => k p (List.mem_append_right _ hp) hn o q) n
theorem DenOp.item : ∀ {ts : List Ty} {vs : List V} {ds : List PyData} {as : List Addr} {j : Nat} {d : PyData}, DenOp K H C ts vs ds as → ds[j]? = some d →
    ∃ t v bs, ts[j]? = some t ∧ vs[j]? = some v ∧ DenO K H C t v d bs ∧ (∀ p ∈ bs, p ∈ as) ∧ ∀ (H' C' : Hp) (e : PyData), Same C C' → DenO K H' C' t v e bs → (∀ p ∈ as, p ∉ bs → ∀ o, H p = some o → H' p = some o) → DenOp K H' C' ts vs (ds.set j e) as
  | _, _, _, _, _, _, .nil, e => by simp at e
  | _, _, _, _, 0, d, .cons (t := t) (v := v) (ds := ds) (as := as) (bs := bs) h r n, e => by
    simp at e
    subst e
    refine L2.i_EEEAAAA (t) (v) (as) (rfl) (rfl) (h) (fun p hp => List.mem_append_left _ hp) (fun H' C' e c h' k => ?_)
    refine .cons h' (r.mono c fun p hp o q => k p (List.mem_append_right _ hp) (fun z => n p z hp) o q) n
  | _, _, _, _, j + 1, d, .cons (t := t) (v := v) (as := as) (bs := bs) h r n, e => by
    refine L2.o_EEEAAAA (DenOp.item (j := j) (d := d) r (by simpa using e)) fun t' w cs h0 h1 h2 h3 h4 => ?_
    refine L2.i_EEEAAAA (t') (w) (cs) (by simpa using h0) (by simpa using h1) (h2) (fun p hp => List.mem_append_right _ (h3 p hp)) (fun H' C' e c h' k => ?_)
    exact .cons (h.mono c fun p hp o q => k p (List.mem_append_left _ hp) (fun z => n p hp (h3 p z)) o q) (h4 H' C' e c h' fun p hp hn o q => k p (List.mem_append_right _ hp) hn o q) n
noncomputable def getP : PyData → List Int → Option (List PyData)
  | .list ds, [] => some ds
  | .list ds, k :: r => (ixN ds.length k).bind fun j => (ds[j]?).bind fun d => getP d r
  | .tuple ds, k :: r => (ixN ds.length k).bind fun j => (ds[j]?).bind fun d => getP d r
  | _, _ => none
noncomputable def setP : PyData → List Int → List PyData → PyData
  | .list _, [], es => .list es
  | .list ds, k :: r, es => match ixN ds.length k with
    | some j => .list (ds.set j (setP (ds.getD j .none) r es))
    | none => .list ds
  | .tuple ds, k :: r, es => match ixN ds.length k with
    | some j => .tuple (ds.set j (setP (ds.getD j .none) r es))
    | none => .tuple ds
  | d, _, _ => d
noncomputable def tyP : Ty → PyData → List Int → Bool
  | .lst .cl, .list _, [] => true
  | .io _, .list _, [] => true
  | .lst t, .list ds, k :: r => match ixN ds.length k with
    | some j => tyP t (ds.getD j .none) r
    | none => false
  | .tup ts, .tuple ds, k :: r => match ixN ds.length k with
    | some j => tyP (ts.getD j .cl) (ds.getD j .none) r
    | none => false
  | _, _, _ => false
inductive AtP (K : PySem.W.Frag) (H C : Hp) : V → List Int → Addr → Prop
  | here {l : Addr} : AtP K H C (.ref l) [] l
  | inL {a : Addr} {vs : List V} {k : Int} {r : List Int} {w : V} {l : Addr} : H a = some (.lst vs) → atI vs k = some w → AtP K H C w r l → AtP K H C (.ref a) (k :: r) l
  | inT {a : Addr} {vs : List V} {k : Int} {r : List Int} {w : V} {l : Addr} : SqT K C a vs → atI vs k = some w → AtP K H C w r l → AtP K H C (.ref a) (k :: r) l
theorem getD_some {ds : List PyData} {j : Nat} {d : PyData} (h : ds[j]? = some d) : ds.getD j .none = d := by
  rw [List.getD_eq_getElem?_getD, h]; rfl
theorem DenO.focus : ∀ (path : List Int) {T : Ty} {v : V} {d : PyData} {as : List Addr} {ds : List PyData}, DenO K H C T v d as → tyP T d path = true → getP d path = some ds →
    ∃ l vs, AtP K H C v path l ∧ H l = some (.lst vs) ∧ DenL K C vs ds ∧ l ∈ as ∧ ∀ (H' C' : Hp) (ws : List V) (es : List PyData), Same C C' → H' l = some (.lst ws) → (∀ p ∈ as, p ≠ l → ∀ o, H p = some o → H' p = some o) → DenL K C' ws es → DenO K H' C' T v (setP d path es) as
  | [], T, v, d, as, ds, h, ht, hg => by
    cases h with
    | cl h => cases d <;> simp [tyP] at ht
    | non => simp [getP] at hg
    | tup h r => simp [getP] at hg
    | @lst t a vs ds' as h r n =>
      have htc : t = .cl := by cases t <;> simp [tyP] at ht; rfl
      subst htc
      simp only [getP, Option.some.injEq] at hg
      subst hg
      refine L2.o_A (r.dl) fun h1 zq1 => ?_
      subst zq1
      exact L2.i_EEAAAA (a) (vs) (.here) (h) (h1) (List.mem_cons_self) (fun H' C' ws es c hw k he => .lst hw he.os n)
    | @io l vs ds' h q =>
      simp only [getP, Option.some.injEq] at hg
      subst hg
      exact L2.i_EEAAAA (l) (vs) (.here) (h) (q) (List.mem_singleton.mpr rfl) (fun H' C' ws es c hw k he => .io hw he)
  | k :: r, T, v, d, as, ds, h, ht, hg => by
    cases h with
    | cl h => cases d <;> simp [tyP] at ht
    | io h q => simp [tyP] at ht
    | non => simp [getP] at hg
    | @lst t a vs ds' as h q n =>
      simp only [getP] at hg
      cases hj : ixN ds'.length k with
      | none => rw [hj] at hg; cases hg
      | some j =>
        rw [hj] at hg
        simp only [Option.bind_some] at hg
        cases hd : ds'[j]? with
        | none => rw [hd] at hg; cases hg
        | some d' =>
          rw [hd] at hg
          simp only [Option.bind_some] at hg
          have ht' : tyP t d' r = true := by
            have : tyP (.lst t) (.list ds') (k :: r) = tyP t (ds'.getD j .none) r := by
              cases t <;> simp only [tyP, hj]
            rw [this, getD_some hd] at ht
            exact ht
          refine L2.o_EEAAA (q.item hd) fun w bs h1 h2 h3 h4 => ?_
          refine L2.o_EEAAAA (DenO.focus r h2 ht' hg) fun l us g1 g2 g3 g4 g5 => ?_
          have hat : atI vs k = some w := by
            unfold atI
            rw [q.length, hj]
            exact h1
          refine L2.i_EEAAAA (l) (us) (.inL h hat g1) (g2) (g3) (List.mem_cons_of_mem _ (h3 l g4)) (fun H' C' ws es c hw kk he => ?_)
          have hla : l ∉ [a] := fun z => n ((List.mem_singleton.mp z) ▸ h3 l g4)
          have hal : a ≠ l := fun z => hla (by rw [z]; exact List.mem_singleton.mpr rfl)
          have e : setP (.list ds') (k :: r) es = .list (ds'.set j (setP d' r es)) := by
            simp only [setP, hj, getD_some hd]
          rw [e]
          refine .lst (kk a List.mem_cons_self hal _ h) (h4 H' C' _ c (g5 H' C' ws es c hw (fun p hp hne o qq => kk p (List.mem_cons_of_mem _ (h3 p hp)) hne o qq) he) fun p hp hn o qq => kk p (List.mem_cons_of_mem _ hp) (fun z => hn (z ▸ g4)) o qq) n
    | @tup ts a vs ds' as h q =>
      simp only [getP] at hg
      cases hj : ixN ds'.length k with
      | none => rw [hj] at hg; cases hg
      | some j =>
        rw [hj] at hg
        simp only [Option.bind_some] at hg
        cases hd : ds'[j]? with
        | none => rw [hd] at hg; cases hg
        | some d' =>
          rw [hd] at hg
          simp only [Option.bind_some] at hg
          refine L2.o_EEEAAAA (q.item hd) fun t w bs h0 h1 h2 h3 h4 => ?_
          have ht' : tyP t d' r = true := by
            have : tyP (.tup ts) (.tuple ds') (k :: r) = tyP (ts.getD j .cl) (ds'.getD j .none) r := by simp only [tyP, hj]
            rw [this, getD_some hd, List.getD_eq_getElem?_getD, h0] at ht
            exact ht
          refine L2.o_EEAAAA (DenO.focus r h2 ht' hg) fun l us g1 g2 g3 g4 g5 => ?_
          have hat : atI vs k = some w := by
            unfold atI
            rw [q.length, hj]
            exact h1
          refine L2.i_EEAAAA (l) (us) (.inT h hat g1) (g2) (g3) (h3 l g4) (fun H' C' ws es c hw kk he => ?_)
          have e : setP (.tuple ds') (k :: r) es = .tuple (ds'.set j (setP d' r es)) := by
            simp only [setP, hj, getD_some hd]
          rw [e]
          exact .tup (c.tup h) (h4 H' C' _ c (g5 H' C' ws es c hw (fun p hp hne o qq => kk p (h3 p hp) hne o qq) he) fun p hp hn o qq => kk p hp (fun z => hn (z ▸ g4)) o qq)
end
structure Ow where
  s : List (Nat × Ty)
  r : Ty := .cl
noncomputable def OwnA (K : PySem.W.Frag) (O : Ow) (hid : Addr → Prop) (σ : St) (H : Hp) (ρ : Rho) (ow : List Addr) (A : Nat → List Addr) : Prop :=
  (∀ i t d, O.s.lookup i = some t → ρ[i]? = some (some d) → ∃ v, σ[i]? = some (some v) ∧ DenO K H (del H (uni hid ow)) t v d (A i)) ∧ (∀ i j p, i ≠ j → p ∈ A i → p ∉ A j) ∧ (∀ i p, p ∈ A i → p ∈ ow)
structure EnvOk (K : PySem.W.Frag) (O : Ow) (hid : Addr → Prop) (H0 : Hp) (σ : St) (H : Hp) (ρ : Rho) (ow : List Addr) : Prop where
  len : ρ.length = σ.length
  base : Same H0 (del H fun b => b ∈ ow)
  val : ∀ i d, O.s.lookup i = none → ρ[i]? = some (some d) → ∃ v, σ[i]? = some (some v) ∧ Den K (del H (uni hid ow)) v d
  own : ∃ A, OwnA K O hid σ H ρ ow A
  isl : ∀ l ∈ ow, (∃ vs, H l = some (.lst vs)) ∧ ¬ hid l
  ishL : ∀ b, hid b → ∃ vs, H b = some (.lst vs)
  emp : O.s = [] → ow = []
section
variable {K : PySem.W.Frag} {O : Ow} {hid : Addr → Prop} {H0 H H' : Hp} {σ : St} {ρ : Rho} {ow : List Addr} {A : Nat → List Addr}
theorem OwnA.mono (a : OwnA K O hid σ H ρ ow A) (h : Same H H') : OwnA K O hid σ H' ρ ow A :=
  ⟨fun i t d hi hd => let ⟨v, q, r⟩ := a.1 i t d hi hd; ⟨v, q, r.mono (del_mono h _) fun p _ o e => h p o e⟩, a.2⟩
theorem EnvOk.mono (e : EnvOk K O hid H0 σ H ρ ow) (h : Same H H') : EnvOk K O hid H0 σ H' ρ ow :=
  ⟨e.len, e.base.trans (del_mono h _), fun i d hi hd => let ⟨v, a, b⟩ := e.val i d hi hd; ⟨v, a, b.mono (del_mono h _)⟩,
    let ⟨A, a⟩ := e.own; ⟨A, a.mono h⟩, fun l hl => let ⟨⟨vs, q⟩, n⟩ := e.isl l hl; ⟨⟨vs, h _ _ q⟩, n⟩,
    fun b hb => let ⟨vs, q⟩ := e.ishL b hb; ⟨vs, h _ _ q⟩, e.emp⟩
theorem EnvOk.ish (e : EnvOk K O hid H0 σ H ρ ow) : ∀ b, hid b → H b ≠ none := fun b hb z => by
  refine L2.o_E (e.ishL b hb) fun vs q => ?_
  rw [z] at q; cases q
theorem EnvOk.uniL (e : EnvOk K O hid H0 σ H ρ ow) : ∀ b, uni hid ow b → ∃ vs, H b = some (.lst vs) := fun b hb => by
  rcases hb with hb | hb
  · exact e.ishL b hb
  · exact (e.isl b hb).1
theorem EnvOk.fresh (e : EnvOk K O hid H0 σ H ρ ow) {p : Addr} (h : H p = none) : ¬ uni hid ow p := by
  rintro (z | z)
  · exact e.ish p z h
  · obtain ⟨⟨vs, q⟩, _⟩ := e.isl p z
    rw [h] at q; cases q
theorem EnvOk.lists (e : EnvOk K O hid H0 σ H ρ ow) : ∀ l ∈ ow, ∃ vs, H l = some (.lst vs) := fun l h => (e.isl l h).1
theorem EnvOk.ow0 (e : EnvOk K O hid H0 σ H ρ ow) {p : Addr} (h : p ∈ ow) : H0 p = none := by
  cases q : H0 p with
  | none => rfl
  | some o =>
    have := e.base p o q
    rw [del_in h] at this
    cases this
theorem EnvOk.raw (e : EnvOk K O hid H0 σ H ρ ow) {i : Nat} {d : PyData} (h : ρ[i]? = some (some d)) : ∃ v, σ[i]? = some (some v) ∧ Den K (del H hid) v d := by
  cases hi : O.s.lookup i with
  | some t =>
    refine L2.o_EAA (e.own) fun A a1 a2 a3 => ?_
    refine L2.o_EA (a1 i t d hi h) fun v q r => ?_
    exact ⟨v, q, r.raw (del_uni _ _ _) fun p hp o q => by rw [del_out (e.isl p (a3 i p hp)).2]; exact q⟩
  | none =>
    refine L2.o_EA (e.val i d hi h) fun v a b => ?_
    exact ⟨v, a, b.mono (del_uni _ _ _)⟩
theorem EnvOk.newAt (e : EnvOk K O hid H0 σ H ρ ow) {p : Addr} {o : HO} (h : H p = none) : del (upd H p o) (uni hid ow) p = some o := by rw [del_out (e.fresh h), upd_same]
theorem EnvOk.newAtR (e : EnvOk K O hid H0 σ H ρ ow) {p : Addr} {o : HO} (h : H p = none) : del (upd H p o) hid p = some o := by rw [del_out fun z => e.fresh h (.inl z), upd_same]
theorem set_two {ρ : Rho} {i j : Nat} {d : PyData} {x : Option PyData} (q : (ρ.set i (some d))[j]? = some x) : (j = i ∧ x = some d ∧ i < ρ.length) ∨ (j ≠ i ∧ ρ[j]? = some x) := by
  by_cases hj : j = i
  · subst hj
    have hl : j < ρ.length := by have := (List.getElem?_eq_some_iff.mp q).1; simpa using this
    rw [List.getElem?_set_self hl] at q
    exact .inl ⟨rfl, (Option.some.inj q).symm, hl⟩
  · rw [List.getElem?_set_ne (Ne.symm hj)] at q
    exact .inr ⟨hj, q⟩
theorem EnvOk.set (e : EnvOk K O hid H0 σ H ρ ow) {i : Nat} {v : V} {d : PyData} (hi : O.s.lookup i = none) (h : Den K (del H (uni hid ow)) v d) : EnvOk K O hid H0 (σ.set i (some v)) H (ρ.set i (some d)) ow := by
  refine ⟨by simpa using e.len, e.base, fun j x hj q => ?_, ?_, e.isl, e.ishL, e.emp⟩
  · rcases set_two q with ⟨rfl, z, hl⟩ | ⟨hne, z⟩
    · cases z
      exact ⟨v, List.getElem?_set_self (by rw [← e.len]; exact hl), h⟩
    · refine L2.o_EA (e.val j x hj z) fun w a b => ?_
      exact ⟨w, by rw [List.getElem?_set_ne (Ne.symm hne)]; exact a, b⟩
  · refine L2.o_EAA (e.own) fun A a1 a2 a3 => ?_
    refine ⟨A, fun j t x hj q => ?_, a2, a3⟩
    have hne : j ≠ i := fun z => by rw [z, hi] at hj; cases hj
    rw [List.getElem?_set_ne (Ne.symm hne)] at q
    refine L2.o_EA (a1 j t x hj q) fun w a b => ?_
    exact ⟨w, by rw [List.getElem?_set_ne (Ne.symm hne)]; exact a, b⟩
theorem EnvOk.setT (e : EnvOk K O hid H0 σ H ρ ow) (s : Same H H') {i : Nat} {t : Ty} {v : V} {d : PyData} {as : List Addr} (hi : O.s.lookup i = some t) (hl : ∀ p ∈ as, H p = none) (h : DenO K H' (del H' (uni hid (as ++ ow))) t v d as) :
    EnvOk K O hid H0 (σ.set i (some v)) H' (ρ.set i (some d)) (as ++ ow) := by
  have nl : ∀ p ∈ as, ¬ uni hid ow p := fun p hp => e.fresh (hl p hp)
  have gen : ∀ P Q : Addr → Prop, (∀ b, Q b → P b ∨ b ∈ as) → Same (del H P) (del H' Q) := fun P Q hq b u z => by
    by_cases hb : P b
    · rw [del_in hb] at z; cases z
    · rw [del_out hb] at z
      rw [del_out fun y => ?_]
      · exact s b u z
      · rcases hq b y with y | y
        · exact hb y
        · rw [hl b y] at z; cases z
  have sub : Same (del H (uni hid ow)) (del H' (uni hid (as ++ ow))) := gen _ _ fun b z => by
    rcases z with z | z
    · exact .inl (.inl z)
    · rcases List.mem_append.mp z with z | z
      · exact .inr z
      · exact .inl (.inr z)
  have subO : Same (del H fun b => b ∈ ow) (del H' fun b => b ∈ as ++ ow) := gen _ _ fun b z => by
    rcases List.mem_append.mp z with z | z
    · exact .inr z
    · exact .inl z
  refine ⟨by simpa using e.len, e.base.trans subO, fun j x hj q => ?_, ?_, fun l2 h2 => ?_, fun b hb => let ⟨vs, q⟩ := e.ishL b hb; ⟨vs, s _ _ q⟩, fun z => by rw [z] at hi; cases hi⟩
  · have hne : j ≠ i := fun z => by rw [z, hi] at hj; cases hj
    rw [List.getElem?_set_ne (Ne.symm hne)] at q
    refine L2.o_EA (e.val j x hj q) fun w a b => ?_
    exact ⟨w, by rw [List.getElem?_set_ne (Ne.symm hne)]; exact a, b.mono sub⟩
  · refine L2.o_EAA (e.own) fun A a1 a2 a3 => ?_
    refine ⟨fun j => if j = i then as else A j, fun j t' x hj q => ?_, fun j k p hjk hp hk => ?_, fun j p hp => ?_⟩
    · rcases set_two q with ⟨rfl, z, hz⟩ | ⟨hne, z⟩
      · cases z
        rw [hi] at hj
        cases hj
        exact ⟨v, List.getElem?_set_self (by rw [← e.len]; exact hz), by dsimp only; rw [if_pos rfl]; exact h⟩
      · refine L2.o_EA (a1 j t' x hj z) fun w a b => ?_
        refine ⟨w, by rw [List.getElem?_set_ne (Ne.symm hne)]; exact a, ?_⟩
        dsimp only
        rw [if_neg hne]
        exact b.mono sub fun p _ o q => s p o q
    · dsimp only at hp hk
      split at hp
      · split at hk
        · subst_vars; exact hjk rfl
        · exact nl p hp (.inr (a3 k p hk))
      · split at hk
        · exact nl p hk (.inr (a3 j p hp))
        · exact a2 j k p hjk hp hk
    · dsimp only at hp
      split at hp
      · exact List.mem_append_left _ hp
      · exact List.mem_append_right _ (a3 j p hp)
  · rcases List.mem_append.mp h2 with h2 | h2
    · exact ⟨h.lists l2 h2, fun z => nl l2 h2 (.inl z)⟩
    · obtain ⟨⟨ws, q⟩, n⟩ := e.isl l2 h2
      exact ⟨⟨ws, s _ _ q⟩, n⟩
noncomputable def hid2 (hid : Addr → Prop) (H : Hp) (as : List Addr) : Addr → Prop := fun b => hid b ∨ (b ∈ as ∧ H b = none)
theorem hid2_same (s : Same H H') (as : List Addr) : Same (del H (uni hid ow)) (del H' (uni (hid2 hid H as) ow)) := fun b o e => by
  by_cases hb : uni hid ow b
  · rw [del_in hb] at e; cases e
  · rw [del_out hb] at e
    rw [del_out fun z => ?_]
    · exact s b o e
    · rcases z with (z | ⟨_, z⟩) | z
      · exact hb (.inl z)
      · rw [z] at e; cases e
      · exact hb (.inr z)
theorem OwnA.hide (a : OwnA K O hid σ H ρ ow A) (s : Same H H') (as : List Addr) : OwnA K O (hid2 hid H as) σ H' ρ ow A :=
  ⟨fun i t d hi hd => let ⟨v, q, r⟩ := a.1 i t d hi hd; ⟨v, q, r.mono (hid2_same s as) fun p _ o e => s p o e⟩, a.2⟩
theorem EnvOk.hide (e : EnvOk K O hid H0 σ H ρ ow) (s : Same H H') (as : List Addr) (hn : ∀ p ∈ as, ∃ vs, H' p = some (.lst vs)) : EnvOk K O (hid2 hid H as) H0 σ H' ρ ow :=
  ⟨e.len, e.base.trans (del_mono s _), fun i d hi hd => let ⟨v, a, b⟩ := e.val i d hi hd; ⟨v, a, b.mono (hid2_same s as)⟩,
    let ⟨A, a⟩ := e.own; ⟨A, a.hide s as⟩, fun l hl => let ⟨⟨vs, q⟩, n⟩ := e.isl l hl; ⟨⟨vs, s _ _ q⟩, fun z => by
      rcases z with z | ⟨_, z⟩
      · exact n z
      · rw [z] at q; cases q⟩,
    fun b hb => by
      rcases hb with hb | ⟨hb, _⟩
      · obtain ⟨vs, q⟩ := e.ishL b hb; exact ⟨vs, s _ _ q⟩
      · exact hn b hb, e.emp⟩
theorem EnvOk.at0 (e : EnvOk K O hid H0 σ H ρ ow) {i : Nat} {ds : List PyData} (hi : O.s.lookup i = some (.lst .cl)) (hρ : ρ[i]? = some (some (.list ds))) :
    ∃ l vs, σ[i]? = some (some (.ref l)) ∧ H l = some (.lst vs) ∧ DenL K (del H (uni hid ow)) vs ds ∧ l ∈ ow ∧
      ∀ H', Same H H' → ∀ ws es, DenL K (del H' (uni hid ow)) ws es → EnvOk K O hid H0 σ (upd H' l (.lst ws)) (ρ.set i (some (.list es))) ow := by
  refine L2.o_EAA (e.own) fun A a1 a2 a3 => ?_
  refine L2.o_EA (a1 i _ _ hi hρ) fun v hv D => ?_
  generalize hA : A i = Ai at D
  cases D with
  | @lst _ l vs _ as q r n =>
    refine L2.o_A (r.dl) fun dl zq1 => ?_
    subst zq1
    have hA' : l ∈ A i := by rw [hA]; exact List.mem_singleton.mpr rfl
    have hl := a3 i l hA'
    refine L2.i_EEAAAA (l) (vs) (hv) (q) (dl) (hl) (fun H' s ws es he => ?_)
    have e' := e.mono s
    have ed : del (upd H' l (.lst ws)) (uni hid ow) = del H' (uni hid ow) := del_upd (uni_in hl)
    have eo : del (upd H' l (.lst ws)) (fun b => b ∈ ow) = del H' (fun b => b ∈ ow) := del_upd hl
    refine ⟨by simpa using e.len, by rw [eo]; exact e'.base, fun j x hj q => ?_, ⟨A, fun j t' x hj q => ?_, a2, a3⟩, fun l2 h2 => ?_, fun b hb => ?_, e.emp⟩
    · have hne : j ≠ i := fun z => by rw [z, hi] at hj; cases hj
      rw [List.getElem?_set_ne (Ne.symm hne)] at q
      rw [ed]
      exact e'.val j x hj q
    · rw [ed]
      rcases set_two q with ⟨rfl, z, hz⟩ | ⟨hne, z⟩
      · cases z
        rw [hi] at hj
        cases hj
        refine ⟨.ref l, hv, ?_⟩
        rw [hA]
        exact .lst upd_same he.os (by simp)
      · refine L2.o_EA (a1 j t' x hj z) fun w a b => ?_
        exact ⟨w, a, b.mono (del_mono s _) fun p hp o q => by rw [upd_ne (show p ≠ l from fun y => a2 j i p hne hp (by rw [y]; exact hA'))]; exact s _ _ q⟩
    · obtain ⟨⟨vs2, q⟩, n⟩ := e'.isl l2 h2
      refine ⟨?_, n⟩
      by_cases hne : l2 = l
      · subst hne; exact ⟨ws, upd_same⟩
      · exact ⟨vs2, by rw [upd_ne hne]; exact q⟩
    · have hne : b ≠ l := fun z2 => (e.isl l hl).2 (z2 ▸ hb)
      rw [upd_ne hne]
      exact e'.ishL b hb
theorem getP_nil {d : PyData} {ds : List PyData} (h : getP d [] = some ds) : d = .list ds := by
  cases d <;> first | (cases h; rfl) | cases h
theorem EnvOk.at (e : EnvOk K O hid H0 σ H ρ ow) {i : Nat} {t : Ty} {d : PyData} {path : List Int} {ds : List PyData} (hi : O.s.lookup i = some t) (hρ : ρ[i]? = some (some d)) (ht : tyP t d path = true) (hg : getP d path = some ds) :
    ∃ v l vs, σ[i]? = some (some v) ∧ AtP K H (del H (uni hid ow)) v path l ∧ H l = some (.lst vs) ∧ DenL K (del H (uni hid ow)) vs ds ∧ l ∈ ow ∧
      ∀ H', Same H H' → ∀ ws es, DenL K (del H' (uni hid ow)) ws es → EnvOk K O hid H0 σ (upd H' l (.lst ws)) (ρ.set i (some (setP d path es))) ow := by
  refine L2.o_EAA (e.own) fun A a1 a2 a3 => ?_
  refine L2.o_EA (a1 i t d hi hρ) fun v hv D => ?_
  refine L2.o_EEAAAA (D.focus path ht hg) fun l vs g1 g2 g3 g4 g5 => ?_
  have hl := a3 i l g4
  refine L2.i_EEEAAAAA (v) (l) (vs) (hv) (g1) (g2) (g3) (hl) (fun H' s ws es he => ?_)
  have e' := e.mono s
  have ed : del (upd H' l (.lst ws)) (uni hid ow) = del H' (uni hid ow) := del_upd (uni_in hl)
  have eo : del (upd H' l (.lst ws)) (fun b => b ∈ ow) = del H' (fun b => b ∈ ow) := del_upd hl
  have hil : i < ρ.length := (List.getElem?_eq_some_iff.mp hρ).1
  refine ⟨by simpa using e.len, by rw [eo]; exact e'.base, fun j x hj q => ?_, ⟨A, fun j t' x hj q => ?_, a2, a3⟩, fun l2 h2 => ?_, fun b hb => ?_, e.emp⟩
  · have hne : j ≠ i := fun z => by rw [z, hi] at hj; cases hj
    rw [List.getElem?_set_ne (Ne.symm hne)] at q
    rw [ed]
    exact e'.val j x hj q
  · rw [ed]
    rcases set_two q with ⟨rfl, z, hz⟩ | ⟨hne, z⟩
    · cases z
      rw [hi] at hj
      cases hj
      exact ⟨v, hv, g5 _ _ ws es (del_mono s _) upd_same (fun p _ hne o q => by rw [upd_ne hne]; exact s _ _ q) he⟩
    · refine L2.o_EA (a1 j t' x hj z) fun w a b => ?_
      exact ⟨w, a, b.mono (del_mono s _) fun p hp o q => by rw [upd_ne (show p ≠ l from fun y => a2 j i p hne hp (by rw [y]; exact g4))]; exact s _ _ q⟩
  · obtain ⟨⟨vs2, q⟩, n⟩ := e'.isl l2 h2
    refine ⟨?_, n⟩
    by_cases hne : l2 = l
    · subst hne; exact ⟨ws, upd_same⟩
    · exact ⟨vs2, by rw [upd_ne hne]; exact q⟩
  · have hne : b ≠ l := fun z2 => (e.isl l hl).2 (z2 ▸ hb)
    rw [upd_ne hne]
    exact e'.ishL b hb
end
end L2
namespace L2
open PySem PySem.Spec PyProof.Rows
variable [Reg]
inductive At5 {α : Type} (K : PySem.W.Frag) (O : Ow) (f : Rho → Option α) (σ : St) (H : Hp) (R : (Addr → Prop) → Hp → Rho → List Addr → α → Prop) : Prop
  | mk (hid : Addr → Prop) (H0 : Hp) (ρ : Rho) (ow : List Addr) (d : α) (E : EnvOk K O hid H0 σ H ρ ow) (hf : f ρ = some d) (k : R hid H0 ρ ow d) : At5 K O f σ H R
section
variable (K : PySem.W.Frag) (O : Ow)
noncomputable def tR (f : Rho → Option PyData) : TE := fun σ H Q => At5 K O f σ H fun hid H0 ρ ow d => ∀ v H', Same H H' → Den K (del H' hid) v d → Q v H'
noncomputable def tV (f : Rho → Option PyData) : TE := fun σ H Q => At5 K O f σ H fun hid H0 ρ ow d => ∀ v H', Same H H' → Den K (del H' (uni hid ow)) v d → Q v H'
noncomputable def tFr (f : Rho → Option (List PyData)) : TE := fun σ H Q => At5 K O f σ H fun hid H0 ρ ow ds => ∀ l vs H', Same H H' → H l = none → H' l = some (.lst vs) → DenL K (del H' (uni hid [l])) vs ds → Q (.ref l) H'
noncomputable def tFc (f : Rho → Option (List PyData)) : TE := fun σ H Q => At5 K O f σ H fun hid H0 ρ ow ds => ∀ l vs H', Same H H' → H l = none → H' l = some (.lst vs) → DenL K (del H' (uni hid (l :: ow))) vs ds → Q (.ref l) H'
noncomputable def tT (f : Rho → Option Bool) : TT := fun σ H Q => At5 K O f σ H fun hid H0 ρ ow b => ∀ H', Same H H' → Q b H'
noncomputable def tAR (f : Rho → Option (List PyData)) : TA := fun σ H Q => At5 K O f σ H fun hid H0 ρ ow ds => ∀ vs H', Same H H' → DenL K (del H' hid) vs ds → Q vs H'
noncomputable def tAV (f : Rho → Option (List PyData)) : TA := fun σ H Q => At5 K O f σ H fun hid H0 ρ ow ds => ∀ vs H', Same H H' → DenL K (del H' (uni hid ow)) vs ds → Q vs H'
end
noncomputable abbrev PR (X : Cx) (O : Ow) (e : Expr) (f : Rho → Option PyData) : Prop := PE X e (tR X.K O f)
noncomputable abbrev PV (X : Cx) (O : Ow) (e : Expr) (f : Rho → Option PyData) : Prop := PE X e (tV X.K O f)
noncomputable abbrev PFr (X : Cx) (O : Ow) (e : Expr) (f : Rho → Option (List PyData)) : Prop := PE X e (tFr X.K O f)
noncomputable abbrev PFc (X : Cx) (O : Ow) (e : Expr) (f : Rho → Option (List PyData)) : Prop := PE X e (tFc X.K O f)
noncomputable abbrev PTv (X : Cx) (O : Ow) (e : Expr) (f : Rho → Option Bool) : Prop := PT X e (tT X.K O f)
noncomputable abbrev PWv (X : Cx) (O : Ow) (e : Expr) (f : Rho → Option Bool) : Prop := PW X e (tT X.K O f)
noncomputable abbrev PAr (X : Cx) (O : Ow) (es : List Expr) (f : Rho → Option (List PyData)) : Prop := PA X es (tAR X.K O f)
noncomputable abbrev PAv (X : Cx) (O : Ow) (es : List Expr) (f : Rho → Option (List PyData)) : Prop := PA X es (tAV X.K O f)
theorem PE.imp {X : Cx} {e : Expr} {t t' : TE} (h : PE X e t) (hi : ∀ σ H Q, t' σ H Q → t σ H Q) : PE X e t' := fun pins s σ H Q I q => h pins s σ H Q I (hi σ H Q q)
theorem PT.imp {X : Cx} {e : Expr} {t t' : TT} (h : PT X e t) (hi : ∀ σ H Q, t' σ H Q → t σ H Q) : PT X e t' := fun pins s σ H Q I q => h pins s σ H Q I (hi σ H Q q)
theorem PW.imp {X : Cx} {e : Expr} {t t' : TT} (h : PW X e t) (hi : ∀ σ H Q, t' σ H Q → t σ H Q) : PW X e t' := fun wh pins s σ H Q I q => h wh pins s σ H Q I (hi σ H Q q)
theorem PA.imp {X : Cx} {es : List Expr} {t t' : TA} (h : PA X es t) (hi : ∀ σ H Q, t' σ H Q → t σ H Q) : PA X es t' := fun pos pins s σ H Q I q => h pos pins s σ H Q I (hi σ H Q q)
theorem PS.imp {X : Cx} {st : Stmt} {t t' : TS} (h : PS X st t) (hi : ∀ D σ H, t' D σ H → t D σ H) : PS X st t' := fun pins s σ H D I q => h pins s σ H D I (hi D σ H q)
theorem PSs.imp {X : Cx} {st : List Stmt} {t t' : TS} (h : PSs X st t) (hi : ∀ D σ H, t' D σ H → t D σ H) : PSs X st t' := fun pins s σ H D I q => h pins s σ H D I (hi D σ H q)
theorem PG.imp {X : Cx} {tg : Expr} {t t' : TG} (h : PG X tg t) (hi : ∀ v σ H Q, t' v σ H Q → t v σ H Q) : PG X tg t' := fun pins s σ H v u Q I r q => h pins s σ H v u Q I r (hi v σ H Q q)
theorem PGs.imp {X : Cx} {tg : List Expr} {t t' : TGs} (h : PGs X tg t) (hi : ∀ v σ H Q, t' v σ H Q → t v σ H Q) : PGs X tg t' := fun pins s σ H v u Q I r q => h pins s σ H v u Q I r (hi v σ H Q q)
theorem PI.imp {X : Cx} {tg iter : Expr} {t t' : TI} (h : PI X tg iter t) (hi : ∀ σ H R, t' σ H R → t σ H R) : PI X tg iter t' := fun pins s σ H R I q => h pins s σ H R I (hi σ H R q)
noncomputable def boolD : PyData → Option Bool
  | .bool b => some b
  | _ => none
noncomputable def listD : PyData → Option (List PyData)
  | .list ds => some ds
  | _ => none
noncomputable def tupD : PyData → Option (List PyData)
  | .tuple ds => some ds
  | _ => none
noncomputable def bind2 (a b : Option PyData) (g : PyData → PyData → Option PyData) : Option PyData := a.bind fun x => b.bind fun y => g x y
inductive Bnd2 (a b : Option PyData) (g : PyData → PyData → Option PyData) (r : PyData) : Prop
  | mk (x y : PyData) (h1 : a = some x) (h2 : b = some y) (h3 : g x y = some r) : Bnd2 a b g r
inductive Bnd {α β : Type} (a : Option α) (g : α → Option β) (r : β) : Prop
  | mk (x : α) (h1 : a = some x) (h2 : g x = some r) : Bnd a g r
inductive Mpd {α β : Type} (a : Option α) (g : α → β) (r : β) : Prop
  | mk (x : α) (h1 : a = some x) (h2 : g x = r) : Mpd a g r
theorem bind2_some {a b : Option PyData} {g : PyData → PyData → Option PyData} {r : PyData} (h : bind2 a b g = some r) : Bnd2 a b g r := by
  unfold bind2 at h
  cases a with
  | none => cases h
  | some x =>
    cases b with
    | none => cases h
    | some y => exact ⟨x, y, rfl, rfl, h⟩
noncomputable def consD (x : Option PyData) (r : Option (List PyData)) : Option (List PyData) := x.bind fun d => r.map (d :: ·)
noncomputable def testD (x : Option PyData) : Option Bool := x.bind boolD
noncomputable def condO {α : Type} (c : Option Bool) (a b : Option α) : Option α := c.bind fun k => if k = true then a else b
noncomputable def andB (x y : Option Bool) : Option Bool := x.bind fun c => if c = true then y else some false
noncomputable def orB (x y : Option Bool) : Option Bool := x.bind fun c => if c = true then some true else y
noncomputable def andV (x y : Option PyData) : Option PyData := (x.bind boolD).bind fun c => if c = true then y else some (.bool false)
noncomputable def orV (x y : Option PyData) : Option PyData := (x.bind boolD).bind fun c => if c = true then some (.bool true) else y
noncomputable def notV (x : Option PyData) : Option PyData := (x.bind boolD).map fun c => .bool (!c)
theorem bind_some {α β : Type} {a : Option α} {g : α → Option β} {r : β} (h : a.bind g = some r) : Bnd a g r := by
  cases a with
  | none => cases h
  | some x => exact ⟨x, rfl, h⟩
theorem map_some {α β : Type} {a : Option α} {g : α → β} {r : β} (h : a.map g = some r) : Mpd a g r := by
  cases a with
  | none => cases h
  | some x => exact ⟨x, rfl, Option.some.inj h⟩
section
variable {X : Cx} {O : Ow} {e a b c : Expr} {f fa fb fc : Rho → Option PyData} {pos : Pos}
theorem PV.r (h : PV X O e f) : PR X O e f := h.imp fun σ H Q ⟨hid, H0, ρ, ow, d, E, hf, k⟩ => ⟨hid, H0, ρ, ow, d, E, hf, fun v H' s D => k v H' s (D.mono (del_uni _ _ _))⟩
theorem PR.cl0 (h : PR X O e f) (h0 : O.s = [] := by rfl) : PV X O e f := h.imp fun σ H Q ⟨hid, H0, ρ, ow, d, E, hf, k⟩ => ⟨hid, H0, ρ, ow, d, E, hf, fun v H' s D => k v H' s (by rw [E.emp h0, uni_nil]; exact D)⟩
theorem PR.clf (h : PR X O e f) : PV X O e (fun ρ => (f ρ).filter lf) := h.imp fun σ H Q zpat => by
  obtain ⟨hid, H0, ρ, ow, d, E, hf, k⟩ := zpat
  refine L2.o_A (Option.filter_eq_some_iff.mp hf) fun h1 h2 => ?_
  exact ⟨hid, H0, ρ, ow, d, E, h1, fun v H' s D => k v H' s (D.clean (E.mono s).lists h2)⟩
theorem PFr.r {f : Rho → Option (List PyData)} (h : PFr X O e f) : PR X O e (fun ρ => (f ρ).map .list) := h.imp fun σ H Q zpat => by
  obtain ⟨hid, H0, ρ, ow, d, E, hf, k⟩ := zpat
  obtain ⟨ds, h1, rfl⟩ := map_some hf
  exact ⟨hid, H0, ρ, ow, ds, E, h1, fun l vs H' s n q D => k (.ref l) H' s (.lst (SqL.of (by rw [del_out fun z => E.fresh n (.inl z)]; exact q)) (D.mono (del_uni _ _ _)))⟩
theorem PFc.fr {f : Rho → Option (List PyData)} (h : PFc X O e f) : PFr X O e f := h.imp fun σ H Q ⟨hid, H0, ρ, ow, d, E, hf, k⟩ => ⟨hid, H0, ρ, ow, d, E, hf, fun l vs H' s n q D => k l vs H' s n q (D.mono (del_sub fun b z => by rcases z with z | z; exact .inl z; exact .inr (by simp at z; simp [z])))⟩
theorem PFc.v {f : Rho → Option (List PyData)} (h : PFc X O e f) : PV X O e (fun ρ => (f ρ).map .list) := h.imp fun σ H Q zpat => by
  obtain ⟨hid, H0, ρ, ow, d, E, hf, k⟩ := zpat
  obtain ⟨ds, h1, rfl⟩ := map_some hf
  refine ⟨hid, H0, ρ, ow, ds, E, h1, fun l vs H' s n q D => k (.ref l) H' s (.lst (SqL.of ?_) (D.mono (del_sub fun b z => by rcases z with z | z; exact .inl z; exact .inr (List.mem_cons_of_mem _ z))))⟩
  rw [del_out (E.fresh n)]
  exact q
theorem PFr.cf {f : Rho → Option (List PyData)} (h : PFr X O e f) : PFc X O e (fun ρ => (f ρ).filter lf.go) := h.imp fun σ H Q zpat => by
  obtain ⟨hid, H0, ρ, ow, d, E, hf, k⟩ := zpat
  refine L2.o_A (Option.filter_eq_some_iff.mp hf) fun h1 h2 => ?_
  refine ⟨hid, H0, ρ, ow, d, E, h1, fun l vs H' s n q D => k l vs H' s n q ((D.mono (del_uni _ _ _)).clean (fun l2 h2 => ?_) h2)⟩
  rcases List.mem_cons.mp h2 with rfl | h2
  · exact ⟨vs, q⟩
  · exact (E.mono s).lists l2 h2
theorem join_some {ρ : Rho} {i : Nat} {d : PyData} (h : (ρ[i]?).join = some d) : ρ[i]? = some (some d) := by
  cases q : ρ[i]? with
  | none => rw [q] at h; cases h
  | some x => rw [q] at h; exact congrArg some h
theorem pr_name {i : Nat} (h : PE X e (tVar i)) : PR X O e (fun ρ => (ρ[i]?).join) := h.imp fun σ H Q zpat => by
  obtain ⟨hid, H0, ρ, ow, d, E, hf, k⟩ := zpat
  refine L2.o_EA (E.raw (join_some hf)) fun v h1 h2 => ?_
  exact ⟨v, h1, k v H (Same.refl H) h2⟩
theorem pv_name {i : Nat} (h : PE X e (tVar i)) (hi : O.s.lookup i = none := by rfl) : PV X O e (fun ρ => (ρ[i]?).join) := h.imp fun σ H Q zpat => by
  obtain ⟨hid, H0, ρ, ow, d, E, hf, k⟩ := zpat
  refine L2.o_EA (E.val i d hi (join_some hf)) fun v h1 h2 => ?_
  exact ⟨v, h1, k v H (Same.refl H) h2⟩
theorem pv_c {v : V} {d : PyData} (h : PE X e (tC v)) (s : Sc v d) : PV X O e (fun _ => some d) := h.imp fun σ H Q zpat => by
  obtain ⟨hid, H0, ρ, ow, d', E, hf, k⟩ := zpat
  cases hf
  exact k v H (Same.refl H) s.den
theorem pv_int {i : Int} {j : Nat} : PV X O (.Constant (.int i) j pos) (fun _ => some (.int i)) := pv_c pe_int (.int i)
theorem pv_bl {i : Bool} {j : Nat} : PV X O (.Constant (.bool i) j pos) (fun _ => some (.bool i)) := pv_c pe_bl (.bl i)
theorem pv_non {j : Nat} : PV X O (.Constant .none j pos) (fun _ => some .none) := pv_c pe_non .non
theorem pv_str {x : Str} {j : Nat} : PV X O (.Constant (.str x) j pos) (fun _ => some (.str x)) := pv_c pe_str (.str x)
noncomputable def SpecOp (K : PySem.W.Frag) (rd : R2) (g : PyData → PyData → Option PyData) : Prop := ∀ x y H d e r Q, Den K H x d → Den K H y e → g d e = some r → (∀ v, Sc v r → Q v H) → rd x y H Q
noncomputable def SpecOpR (K : PySem.W.Frag) (rd : R2) (g : PyData → PyData → Option PyData) : Prop := ∀ x y H G d e r Q, Same G H → Den K G x d → Den K G y e → g d e = some r → (∀ v, Den K G v r → Q v H) → rd x y H Q
theorem tOp_imp {K : PySem.W.Frag} {rd : R2} {g : PyData → PyData → Option PyData} (hg : SpecOp K rd g) : ∀ σ H Q, tV K O (fun ρ => bind2 (fa ρ) (fb ρ) g) σ H Q → tOp rd (tR K O fa) (tR K O fb) σ H Q := fun σ H Q zpat => by
  obtain ⟨hid, H0, ρ, ow, r, E, hf, k⟩ := zpat
  obtain ⟨d, e, h1, h2, h3⟩ := bind2_some hf
  exact ⟨hid, H0, ρ, ow, d, E, h1, fun x H1 s1 D1 => ⟨hid, H0, ρ, ow, e, E.mono s1, h2, fun y H2 s2 D2 => hg x y H2 d e r Q ((D1.mono (del_mono s2 _)).mono (del_same _ _)) (D2.mono (del_same _ _)) h3 fun v S => k v H2 (s1.trans s2) S.den⟩⟩
theorem tOp_impR {K : PySem.W.Frag} {rd : R2} {g : PyData → PyData → Option PyData} (hg : SpecOpR K rd g) : ∀ σ H Q, tR K O (fun ρ => bind2 (fa ρ) (fb ρ) g) σ H Q → tOp rd (tR K O fa) (tR K O fb) σ H Q := fun σ H Q zpat => by
  obtain ⟨hid, H0, ρ, ow, r, E, hf, k⟩ := zpat
  obtain ⟨d, e, h1, h2, h3⟩ := bind2_some hf
  exact ⟨hid, H0, ρ, ow, d, E, h1, fun x H1 s1 D1 => ⟨hid, H0, ρ, ow, e, E.mono s1, h2, fun y H2 s2 D2 => hg x y H2 _ d e r Q (del_same _ hid) (D1.mono (del_mono s2 _)) D2 h3 fun v S => k v H2 (s1.trans s2) S⟩⟩
noncomputable def int2 (h : Int → Int → PyData) : PyData → PyData → Option PyData
  | .int i, .int j => some (h i j)
  | _, _ => none
noncomputable def int2C (c : Int → Int → Bool) (h : Int → Int → PyData) : PyData → PyData → Option PyData
  | .int i, .int j => if c i j = true then some (h i j) else none
  | _, _ => none
theorem int2_some {h : Int → Int → PyData} {d e r : PyData} (q : int2 h d e = some r) : ∃ i j, d = .int i ∧ e = .int j ∧ r = h i j := by
  unfold int2 at q
  split at q
  · exact L2.i_EEAA (_) (_) (rfl) (rfl) ((Option.some.inj q).symm)
  · cases q
theorem int2C_some {c : Int → Int → Bool} {h : Int → Int → PyData} {d e r : PyData} (q : int2C c h d e = some r) : ∃ i j, d = .int i ∧ e = .int j ∧ c i j = true ∧ r = h i j := by
  unfold int2C at q
  split at q
  · rename_i i j
    by_cases hc : c i j = true
    · rw [if_pos hc] at q
      exact L2.i_EEAAA (i) (j) (rfl) (rfl) (hc) ((Option.some.inj q).symm)
    · rw [if_neg hc] at q; cases q
  · cases q
theorem spI0 {K : PySem.W.Frag} {g : Int → Int → V} {h : Int → Int → PyData} (hs : ∀ i j, Sc (g i j) (h i j)) : SpecOp K (rI0 g) (int2 h) := fun x y H d e r Q D1 D2 q k => by
  refine L2.o_EEAA (int2_some q) fun i j zq2 zq3 zq4 => ?_
  subst zq2
  subst zq3
  subst zq4
  exact L2.i_EEAA (i) (j) (den_int D1) (den_int D2) (k _ (hs i j))
theorem spI {K : PySem.W.Frag} {C : Int → Int → Prop} {c : Int → Int → Bool} {g : Int → Int → V} {h : Int → Int → PyData} (hs : ∀ i j, Sc (g i j) (h i j)) (hc : ∀ i j, c i j = true → C i j) : SpecOp K (rI C g) (int2C c h) := fun x y H d e r Q D1 D2 q k => by
  refine L2.o_EEAAA (int2C_some q) fun i j zq2 zq3 hcc zq5 => ?_
  subst zq2
  subst zq3
  subst zq5
  exact L2.i_EEAAA (i) (j) (den_int D1) (den_int D2) (hc i j hcc) (k _ (hs i j))
noncomputable def isBig (i : Int) : Bool := decide (i.natAbs < big)
noncomputable def addD := int2 fun i j => .int (i + j)
noncomputable def subD := int2 fun i j => .int (i - j)
noncomputable def isS (i : Int) : Bool := decide (i.natAbs < 2 ^ 63)
noncomputable def mulD := int2C (fun i j => (isBig i && isBig j) || (isS i || isS j)) fun i j => .int (i * j)
noncomputable def fdivD := int2C (fun _ j => decide (j ≠ 0) && isBig j) fun i j => .int (i.fdiv j)
noncomputable def modD := int2C (fun _ j => decide (j ≠ 0)) fun i j => .int (i.fmod j)
noncomputable def powD := int2C (fun i j => decide (0 ≤ j) && decide (j ≤ 1000000) && decide (i.natAbs < 2 ^ 64)) fun i j => .int (i ^ j.toNat)
noncomputable def ltD := int2 fun i j => .bool (decide (i < j))
noncomputable def leD := int2 fun i j => .bool (decide (i ≤ j))
noncomputable def gtD := int2 fun i j => .bool (decide (j < i))
noncomputable def geD := int2 fun i j => .bool (decide (j ≤ i))
noncomputable def eqD (d e : PyData) : Option PyData := if (SeqAt.shaped d && SeqAt.shaped e) = true then some (.bool (PyData.eqv d e)) else none
noncomputable def neD (d e : PyData) : Option PyData := if (SeqAt.shaped d && SeqAt.shaped e) = true then some (.bool (!PyData.eqv d e)) else none
theorem sp_eq {K : PySem.W.Frag} : SpecOp K (rEqD K) eqD := fun x y H d e r Q D1 D2 q k => by
  unfold eqD at q
  split at q
  · rename_i h
    rw [Bool.and_eq_true] at h
    cases q
    exact L2.i_EEAAAA (d) (e) (D1) (D2) (h.1) (h.2) (k _ (.bl _))
  · cases q
theorem sp_ne {K : PySem.W.Frag} : SpecOp K (rNeD K) neD := fun x y H d e r Q D1 D2 q k => by
  unfold neD at q
  split at q
  · rename_i h
    rw [Bool.and_eq_true] at h
    cases q
    exact L2.i_EEAAAA (d) (e) (D1) (D2) (h.1) (h.2) (k _ (.bl _))
  · cases q
theorem v_add (ha : PR X O a fa) (hb : PR X O b fb) : PV X O (.BinOp a .Add b pos) (fun ρ => bind2 (fa ρ) (fb ρ) addD) := (pe_op op_add ha hb).imp (tOp_imp (spI0 fun _ _ => .int _))
theorem v_sub (ha : PR X O a fa) (hb : PR X O b fb) : PV X O (.BinOp a .Sub b pos) (fun ρ => bind2 (fa ρ) (fb ρ) subD) := (pe_op op_sub ha hb).imp (tOp_imp (spI0 fun _ _ => .int _))
theorem v_mul (ha : PR X O a fa) (hb : PR X O b fb) : PV X O (.BinOp a .Mult b pos) (fun ρ => bind2 (fa ρ) (fb ρ) mulD) := (pe_op op_mulB ha hb).imp (tOp_imp (spI (fun _ _ => .int _) fun i j h => by
  rw [Bool.or_eq_true, Bool.or_eq_true, Bool.and_eq_true] at h
  rcases h with h | h | h
  · exact .inl ⟨of_decide_eq_true h.1, of_decide_eq_true h.2⟩
  · have := of_decide_eq_true h
    exact .inr (.inl (by omega))
  · have := of_decide_eq_true h
    exact .inr (.inr (by omega))))
theorem v_fdiv (ha : PR X O a fa) (hb : PR X O b fb) : PV X O (.BinOp a .FloorDiv b pos) (fun ρ => bind2 (fa ρ) (fb ρ) fdivD) := (pe_op op_fdivB ha hb).imp (tOp_imp (spI (fun _ _ => .int _) fun i j h => by
  rw [Bool.and_eq_true] at h; exact ⟨of_decide_eq_true h.1, of_decide_eq_true h.2⟩))
theorem v_mod (ha : PR X O a fa) (hb : PR X O b fb) : PV X O (.BinOp a .Mod b pos) (fun ρ => bind2 (fa ρ) (fb ρ) modD) := (pe_op op_modN ha hb).imp (tOp_imp (spI (fun _ _ => .int _) fun i j h => of_decide_eq_true h))
theorem v_pow (ha : PR X O a fa) (hb : PR X O b fb) : PV X O (.BinOp a .Pow b pos) (fun ρ => bind2 (fa ρ) (fb ρ) powD) := (pe_op op_pow ha hb).imp (tOp_imp (spI (fun _ _ => .int _) fun i j h => by
  rw [Bool.and_eq_true, Bool.and_eq_true] at h; exact ⟨of_decide_eq_true h.1.1, of_decide_eq_true h.1.2, of_decide_eq_true h.2⟩))
structure CmpD (X : Cx) (op : CmpOp) (g : PyData → PyData → Option PyData) : Prop where
  ex : ∃ rd, OpR X (compareOp op) rd ∧ SpecOp X.K rd g
theorem c_gt : CmpD X .Gt gtD := ⟨_, op_gt, spI0 fun _ _ => .bl _⟩
theorem c_ge : CmpD X .GtE geD := ⟨_, op_ge, spI0 fun _ _ => .bl _⟩
theorem c_eq (hu : X.A.units + 64 < cLine) : CmpD X .Eq eqD := ⟨_, op_eqD hu, sp_eq⟩
theorem c_ne (hu : X.A.units + 64 < cLine) : CmpD X .NotEq neD := ⟨_, op_neD hu, sp_ne⟩
theorem v_cmp {op : CmpOp} {g : PyData → PyData → Option PyData} (C : CmpD X op g) (ha : PR X O a fa) (hb : PR X O b fb) (h1 : op ≠ .In := by decide) (h2 : op ≠ .NotIn := by decide) : PV X O (.Compare a [op] [b] pos) (fun ρ => bind2 (fa ρ) (fb ρ) g) := by
  refine L2.o_EA (C.ex) fun rd ho hs => ?_
  exact (pe_cmpR ho ha hb (nomark b h1 h2)).imp (tOp_imp hs)
theorem boolD_some {d : PyData} {b : Bool} (h : boolD d = some b) : d = .bool b := by
  unfold boolD at h
  split at h
  · cases h; rfl
  · cases h
theorem t_cmp {op : CmpOp} {g : PyData → PyData → Option PyData} (C : CmpD X op g) (ha : PR X O a fa) (hb : PR X O b fb) (h1 : op ≠ .In := by decide) (h2 : op ≠ .NotIn := by decide) : PTv X O (.Compare a [op] [b] pos) (fun ρ => testD (bind2 (fa ρ) (fb ρ) g)) := by
  refine L2.o_EA (C.ex) fun rd ho hs => ?_
  refine (pt_cmpR ho ha hb (nomark b h1 h2)).imp fun σ H Q zpat => ?_
  obtain ⟨hid, H0, ρ, ow, k, E, hf, q⟩ := zpat
  obtain ⟨d, h3, h4⟩ := bind_some hf
  refine tOp_imp hs σ H _ ⟨hid, H0, ρ, ow, d, E, h3, fun v H' s D => ?_⟩
  rw [boolD_some h4] at D
  exact ⟨k, den_bl D, q H' s⟩
theorem t_val (h : PR X O e f) (he : ∀ whole, isTrue e X.env whole = (do let v ← whole; standAt e.pos; holding [v] (truthy v)) := by intro _; rfl) : PTv X O e (fun ρ => testD (f ρ)) :=
  (pt_val h he).imp fun σ H Q zpat => by
    obtain ⟨hid, H0, ρ, ow, k, E, hf, q⟩ := zpat
    obtain ⟨d, h3, h4⟩ := bind_some hf
    refine ⟨hid, H0, ρ, ow, d, E, h3, fun v H' s D => ?_⟩
    rw [boolD_some h4] at D
    exact ⟨k, den_bl D, q H' s⟩
variable {ga gb : Rho → Option Bool} {rest : List Expr}
theorem w_or1 (ha : PTv X O a ga) : PWv X O (.BoolOp .Or [a] pos) ga := pw_or1 ha
theorem w_or (ha : PTv X O a ga) (hb : PWv X O (.BoolOp .Or (b :: rest) pos) gb) : PWv X O (.BoolOp .Or (a :: b :: rest) pos) (fun ρ => orB (ga ρ) (gb ρ)) :=
  (pw_or ha hb).imp fun σ H Q zpat => by
    obtain ⟨hid, H0, ρ, ow, k, E, hf, q⟩ := zpat
    obtain ⟨c, h1, h2⟩ := bind_some hf
    refine ⟨hid, H0, ρ, ow, c, E, h1, fun H1 s1 => ?_⟩
    cases c with
    | true => rw [if_pos rfl] at h2 ⊢; cases h2; exact q H1 s1
    | false => rw [if_neg Bool.false_ne_true] at h2 ⊢; exact ⟨hid, H0, ρ, ow, k, E.mono s1, h2, fun H2 s2 => q H2 (s1.trans s2)⟩
theorem t_w (h : PWv X O e ga) : PTv X O e ga := h.pt
theorem t_not (ha : PTv X O a ga) : PTv X O (.UnaryOp .Not a pos) (fun ρ => (ga ρ).map not) := (pt_not ha).imp fun σ H Q zpat => by
  obtain ⟨hid, H0, ρ, ow, k, E, hf, q⟩ := zpat
  obtain ⟨c, h1, h2⟩ := map_some hf
  subst h2
  exact ⟨hid, H0, ρ, ow, c, E, h1, fun H1 s1 => q H1 s1⟩
theorem r_one {op : BoolOp} (h : PR X O a fa) : PR X O (.BoolOp op [a] pos) fa := pe_one h
theorem r_and (ha : PR X O a fa) (hb : PR X O (.BoolOp .And (b :: rest) pos) fb) : PR X O (.BoolOp .And (a :: b :: rest) pos) (fun ρ => andV (fa ρ) (fb ρ)) :=
  (pe_and ha hb).imp fun σ H Q zpat => by
    obtain ⟨hid, H0, ρ, ow, k, E, hf, q⟩ := zpat
    obtain ⟨c, h1, h2⟩ := bind_some hf
    obtain ⟨d, h3, h4⟩ := bind_some h1
    refine ⟨hid, H0, ρ, ow, d, E, h3, fun v H1 s1 D => ?_⟩
    rw [boolD_some h4] at D
    refine ⟨c, den_bl D, ?_⟩
    cases c with
    | true => rw [if_pos rfl] at h2 ⊢; exact ⟨hid, H0, ρ, ow, k, E.mono s1, h2, fun w H2 s2 D2 => q w H2 (s1.trans s2) D2⟩
    | false => rw [if_neg Bool.false_ne_true] at h2 ⊢; cases h2; exact q _ H1 s1 (.bl false)
theorem v_not (ha : PR X O a fa) : PV X O (.UnaryOp .Not a pos) (fun ρ => notV (fa ρ)) := (pe_not ha).imp fun σ H Q zpat => by
  obtain ⟨hid, H0, ρ, ow, k, E, hf, q⟩ := zpat
  obtain ⟨c, h1, h2⟩ := map_some hf
  obtain ⟨d, h3, h4⟩ := bind_some h1
  subst h2
  refine ⟨hid, H0, ρ, ow, d, E, h3, fun v H1 s1 D => ?_⟩
  rw [boolD_some h4] at D
  exact ⟨c, den_bl D, q _ H1 s1 (.bl _)⟩
noncomputable def negD : PyData → Option PyData
  | .int i => some (.int (-i))
  | _ => none
theorem v_neg (ha : PR X O a fa) : PV X O (.UnaryOp .USub a pos) (fun ρ => (fa ρ).bind negD) := (pe_un un_neg ha).imp fun σ H Q zpat => by
  obtain ⟨hid, H0, ρ, ow, k, E, hf, q⟩ := zpat
  obtain ⟨d, h1, h2⟩ := bind_some hf
  unfold negD at h2
  split at h2
  · cases h2
    exact ⟨hid, H0, ρ, ow, _, E, h1, fun v H1 s1 D => ⟨_, den_int D, q _ H1 s1 (.int _)⟩⟩
  · cases h2
theorem r_if {t : Expr} (ht : PTv X O t ga) (ha : PR X O a fa) (hb : PR X O b fb) : PR X O (.IfExp t a b pos) (fun ρ => condO (ga ρ) (fa ρ) (fb ρ)) :=
  (pe_ifExp ht ha hb).imp fun σ H Q zpat => by
    obtain ⟨hid, H0, ρ, ow, k, E, hf, q⟩ := zpat
    obtain ⟨c, h1, h2⟩ := bind_some hf
    refine ⟨hid, H0, ρ, ow, c, E, h1, fun H1 s1 => ?_⟩
    cases c with
    | true => rw [if_pos rfl] at h2 ⊢; exact ⟨hid, H0, ρ, ow, k, E.mono s1, h2, fun w H2 s2 D2 => q w H2 (s1.trans s2) D2⟩
    | false => rw [if_neg Bool.false_ne_true] at h2 ⊢; exact ⟨hid, H0, ρ, ow, k, E.mono s1, h2, fun w H2 s2 D2 => q w H2 (s1.trans s2) D2⟩
noncomputable def ixD : PyData → PyData → Option PyData
  | .list ds, .int i => atI ds i
  | .tuple ds, .int i => atI ds i
  | _, _ => none
theorem sp_ix {K : PySem.W.Frag} : SpecOpR K (fun x y H Q => rIxL K x y H Q ∨ rIxT K x y H Q) ixD := fun x y H G d e r Q s D1 D2 q k => by
  unfold ixD at q
  split at q
  · obtain ⟨p, vs, rfl, h1, h2⟩ := den_lst D1
    refine L2.o_EA (h2.atI q) fun v h3 h4 => ?_
    exact .inl ⟨p, vs, _, v, rfl, den_int D2, s.seq h1, h3, k v h4⟩
  · obtain ⟨p, vs, rfl, h1, h2⟩ := den_tup D1
    refine L2.o_EA (h2.atI q) fun v h3 h4 => ?_
    exact .inr ⟨p, vs, _, v, rfl, den_int D2, s.tup h1, h3, k v h4⟩
  · cases q
theorem r_ix (ha : PR X O a fa) (hb : PR X O b fb) (hs : PlainIx b := by intro _ _; rfl) : PR X O (.Subscript a b pos) (fun ρ => bind2 (fa ρ) (fb ρ) ixD) := (pe_ix (ix_list.or ix_tup) ha hb hs).imp (tOp_impR sp_ix)
variable {es : List Expr} {fs : Rho → Option (List PyData)}
theorem a_nil : PAr X O [] (fun _ => some []) := pa_nil.imp fun σ H Q ⟨hid, H0, ρ, ow, ds, E, hf, k⟩ => by cases hf; exact k [] H (Same.refl H) .nil
theorem a_cons (ha : PR X O a fa) (hr : PAr X O es fs) (hs : starEach (a :: es) X.env = (false, eval a X.env) :: starEach es X.env := by rfl) : PAr X O (a :: es) (fun ρ => consD (fa ρ) (fs ρ)) :=
  (pa_cons ha hr hs).imp fun σ H Q zpat => by
    obtain ⟨hid, H0, ρ, ow, ds, E, hf, k⟩ := zpat
    obtain ⟨d, h1, hf⟩ := bind_some hf
    obtain ⟨r, h2, rfl⟩ := map_some hf
    exact ⟨hid, H0, ρ, ow, d, E, h1, fun x H1 s1 D1 => ⟨hid, H0, ρ, ow, r, E.mono s1, h2, fun xs H2 s2 D2 => k (x :: xs) H2 (s1.trans s2) (.cons (D1.mono (del_mono s2 _)) D2)⟩⟩
theorem ac_nil : PAv X O [] (fun _ => some []) := pa_nil.imp fun σ H Q ⟨hid, H0, ρ, ow, ds, E, hf, k⟩ => by cases hf; exact k [] H (Same.refl H) .nil
theorem ac_cons (ha : PV X O a fa) (hr : PAv X O es fs) (hs : starEach (a :: es) X.env = (false, eval a X.env) :: starEach es X.env := by rfl) : PAv X O (a :: es) (fun ρ => consD (fa ρ) (fs ρ)) :=
  (pa_cons ha hr hs).imp fun σ H Q zpat => by
    obtain ⟨hid, H0, ρ, ow, ds, E, hf, k⟩ := zpat
    obtain ⟨d, h1, hf⟩ := bind_some hf
    obtain ⟨r, h2, rfl⟩ := map_some hf
    exact ⟨hid, H0, ρ, ow, d, E, h1, fun x H1 s1 D1 => ⟨hid, H0, ρ, ow, r, E.mono s1, h2, fun xs H2 s2 D2 => k (x :: xs) H2 (s1.trans s2) (.cons (D1.mono (del_mono s2 _)) D2)⟩⟩
theorem len_line {n : Nat} (h : decide (n ≤ 1000) = true) : n ≤ sizeLine := Nat.le_trans (of_decide_eq_true h) (by decide)
noncomputable def shortD (f : List PyData → PyData) (o : Option (List PyData)) : Option PyData := o.bind fun ds => if decide (ds.length ≤ 1000) = true then some (f ds) else none
theorem shortD_some {f : List PyData → PyData} {o : Option (List PyData)} {r : PyData} (h : shortD f o = some r) : ∃ ds, o = some ds ∧ ds.length ≤ sizeLine ∧ r = f ds := by
  obtain ⟨ds, h1, h2⟩ := bind_some h
  split at h2
  · rename_i hc
    exact ⟨ds, h1, len_line hc, (Option.some.inj h2).symm⟩
  · cases h2
theorem v_tup {x1} (h : PAv X O es fs) : PV X O (.Tuple es x1 pos) (fun ρ => shortD .tuple (fs ρ)) := (pe_tup h).imp fun σ H Q zpat => by
  obtain ⟨hid, H0, ρ, ow, r, E, hf, k⟩ := zpat
  refine L2.o_EAA (shortD_some hf) fun ds h1 h2 zq3 => ?_
  subst zq3
  refine ⟨hid, H0, ρ, ow, ds, E, h1, fun vs H1 s1 D1 => ⟨by rw [D1.length]; exact h2, fun p hp => ?_⟩⟩
  refine k _ _ (s1.trans (same_new hp)) (.tup (SqT.of ((E.mono s1).newAt hp)) (D1.mono (del_mono (same_new hp) _)))
theorem r_tup {x1} (h : PAr X O es fs) : PR X O (.Tuple es x1 pos) (fun ρ => shortD .tuple (fs ρ)) := (pe_tup h).imp fun σ H Q zpat => by
  obtain ⟨hid, H0, ρ, ow, r, E, hf, k⟩ := zpat
  refine L2.o_EAA (shortD_some hf) fun ds h1 h2 zq3 => ?_
  subst zq3
  refine ⟨hid, H0, ρ, ow, ds, E, h1, fun vs H1 s1 D1 => ⟨by rw [D1.length]; exact h2, fun p hp => ?_⟩⟩
  exact k _ _ (s1.trans (same_new hp)) (.tup (SqT.of ((E.mono s1).newAtR hp)) (D1.mono (del_mono (same_new hp) _)))
noncomputable def shortL (o : Option (List PyData)) : Option (List PyData) := o.bind fun ds => if decide (ds.length ≤ 1000) = true then some ds else none
theorem shortL_some {o : Option (List PyData)} {r : List PyData} (h : shortL o = some r) : o = some r ∧ r.length ≤ sizeLine := by
  obtain ⟨ds, h1, h2⟩ := bind_some h
  split at h2
  · rename_i hc
    cases h2
    exact ⟨h1, len_line hc⟩
  · cases h2
theorem fc_lst (h : PAv X O es fs) : PFc X O (.List es pos) (fun ρ => shortL (fs ρ)) := (pe_lst h).imp fun σ H Q zpat => by
  obtain ⟨hid, H0, ρ, ow, r, E, hf, k⟩ := zpat
  refine L2.o_A (shortL_some hf) fun h1 h2 => ?_
  refine ⟨hid, H0, ρ, ow, r, E, h1, fun vs H1 s1 D1 => ⟨by rw [D1.length]; exact h2, fun p hp => ?_⟩⟩
  exact k _ vs _ (s1.trans (same_new hp)) (s1.free hp) upd_same (D1.mono (del_new (same_new hp) hp fun b z => by rcases z with z | z; exact .inl (.inl z); rcases List.mem_cons.mp z with z | z; exact .inr z; exact .inl (.inr z)))
theorem fr_lst (h : PAr X O es fs) : PFr X O (.List es pos) (fun ρ => shortL (fs ρ)) := (pe_lst h).imp fun σ H Q zpat => by
  obtain ⟨hid, H0, ρ, ow, r, E, hf, k⟩ := zpat
  refine L2.o_A (shortL_some hf) fun h1 h2 => ?_
  refine ⟨hid, H0, ρ, ow, r, E, h1, fun vs H1 s1 D1 => ⟨by rw [D1.length]; exact h2, fun p hp => ?_⟩⟩
  exact k _ vs _ (s1.trans (same_new hp)) (s1.free hp) upd_same (D1.mono (del_new (same_new hp) hp fun b z => by rcases z with z | z; exact .inl z; exact .inr (by simpa using z)))
theorem listD_some {d : PyData} {ds : List PyData} (h : listD d = some ds) : d = .list ds := by
  unfold listD at h
  split at h
  · cases h; rfl
  · cases h
noncomputable def spR (K : PySem.W.Frag) (T : Ty) (F : List PyData → Option PyData) : Sp := fun vs H Q _ => ∃ (hid : Addr → Prop) (ds : List PyData) (r : PyData), (∀ b, hid b → ∃ vs, H b = some (.lst vs)) ∧ DenL K (del H hid) vs ds ∧ F ds = some r ∧ ∀ v as H', Same H H' → (∀ p ∈ as, H p = none) → DenO K H' (del H' (uni hid as)) T v r as → Q v H'
noncomputable def tFt (K : PySem.W.Frag) (O : Ow) (T : Ty) (f : Rho → Option PyData) : TE := fun σ H Q => At5 K O f σ H fun hid H0 ρ ow d => ∀ v as H', Same H H' → (∀ p ∈ as, H p = none) → DenO K H' (del H' (uni hid (as ++ ow))) T v d as → Q v H'
noncomputable abbrev PFt (X : Cx) (O : Ow) (T : Ty) (e : Expr) (f : Rho → Option PyData) : Prop := PE X e (tFt X.K O T f)
theorem uni_mono {hid : Addr → Prop} {as bs : List Addr} (h : ∀ p ∈ as, p ∈ bs) (b : Addr) (z : uni hid as b) : uni hid bs b := by
  rcases z with z | z
  · exact .inl z
  · exact .inr (h b z)
theorem PFc.ft {f : Rho → Option (List PyData)} (h : PFc X O e f) : PFt X O (.lst .cl) e (fun ρ => (f ρ).map .list) := h.imp fun σ H Q zpat => by
  obtain ⟨hid, H0, ρ, ow, d, E, hf, k⟩ := zpat
  obtain ⟨ds, h1, rfl⟩ := map_some hf
  refine ⟨hid, H0, ρ, ow, ds, E, h1, fun l vs H' s n q D => k (.ref l) [l] H' s (fun p hp => by rw [List.mem_singleton.mp hp]; exact n) (.lst q D.os (by simp))⟩
theorem PV.ft (h : PV X O e f) : PFt X O .cl e f := h.imp fun σ H Q ⟨hid, H0, ρ, ow, d, E, hf, k⟩ => ⟨hid, H0, ρ, ow, d, E, hf, fun v H' s D => k v [] H' s (fun p hp => by cases hp) (.cl D)⟩
theorem r_call {k : Nat} {g : Addr} {fd : FuncData} {ps : List Str} {x : Str} {p : Pos} {T : Ty} {F : List PyData → Option PyData} (G : FnOk X.prog X.w X.K X.mg X.base CX0 k g fd ps (spR X.K T F)) (hr : Room k X.A) (hg : Gl X x) (hm : X.mg x = some (.ref g)) (hk : PySem.W.keepIn X.K (.ref g) = true) (hb : Binds X.K fd ps [])
    (ha : PAr X O (a :: es) fs) (hdb : (x == ("__debug__" : Str)) = false := by decide) (he : starEach (a :: es) X.env = (false, eval a X.env) :: starEach es X.env := by rfl) (hpl : (backTo pos (starEach es X.env)).any (·.1) = false := by rfl) :
    PR X O (.Call (.Name x p) (a :: es) [] pos) (fun ρ => (fs ρ).bind F) :=
  (pe_call G hr hg hm hk hb .nil pass0 ha hdb he hpl).imp fun σ H Q zpat => by
    obtain ⟨hid, H0, ρ, ow, r, E, hf, q⟩ := zpat
    obtain ⟨ds, h1, h2⟩ := bind_some hf
    refine ⟨hid, H0, ρ, ow, ds, E, h1, fun vs H1 s1 D1 => ⟨hid, ds, r, (E.mono s1).ishL, by rw [List.append_nil]; exact D1, h2, fun v as H2 s2 n2 D2 => q v H2 (s1.trans s2) ?_⟩⟩
    exact D2.raw (del_uni _ _ _) fun p hp o e => by rw [del_out fun z => (E.mono s1).ish p z (n2 p hp)]; exact e
theorem ft_call {k : Nat} {g : Addr} {fd : FuncData} {ps : List Str} {x : Str} {p : Pos} {T : Ty} {F : List PyData → Option PyData} (G : FnOk X.prog X.w X.K X.mg X.base CX0 k g fd ps (spR X.K T F)) (hr : Room k X.A) (hg : Gl X x) (hm : X.mg x = some (.ref g)) (hk : PySem.W.keepIn X.K (.ref g) = true) (hb : Binds X.K fd ps [])
    (ha : PAv X O (a :: es) fs) (hdb : (x == ("__debug__" : Str)) = false := by decide) (he : starEach (a :: es) X.env = (false, eval a X.env) :: starEach es X.env := by rfl) (hpl : (backTo pos (starEach es X.env)).any (·.1) = false := by rfl) :
    PFt X O T (.Call (.Name x p) (a :: es) [] pos) (fun ρ => (fs ρ).bind F) :=
  (pe_call G hr hg hm hk hb .nil pass0 ha hdb he hpl).imp fun σ H Q zpat => by
    obtain ⟨hid, H0, ρ, ow, r, E, hf, q⟩ := zpat
    obtain ⟨ds, h1, h2⟩ := bind_some hf
    refine ⟨hid, H0, ρ, ow, ds, E, h1, fun vs H1 s1 D1 => ⟨uni hid ow, ds, r, (E.mono s1).uniL, by rw [List.append_nil]; exact D1, h2, fun v as H2 s2 n2 D2 => q v as H2 (s1.trans s2) (fun p hp => s1.free (n2 p hp)) ?_⟩⟩
    refine D2.mono (del_sub fun b z => ?_) fun p _ o e => e
    rcases z with z | z
    · exact .inl (.inl z)
    · rcases List.mem_append.mp z with z | z
      · exact .inr z
      · exact .inl (.inr z)
theorem v_call {k : Nat} {g : Addr} {fd : FuncData} {ps : List Str} {x : Str} {p : Pos} {T : Ty} {F : List PyData → Option PyData} (G : FnOk X.prog X.w X.K X.mg X.base CX0 k g fd ps (spR X.K T F)) (hr : Room k X.A) (hg : Gl X x) (hm : X.mg x = some (.ref g)) (hk : PySem.W.keepIn X.K (.ref g) = true) (hb : Binds X.K fd ps [])
    (ha : PAv X O (a :: es) fs) (hdb : (x == ("__debug__" : Str)) = false := by decide) (he : starEach (a :: es) X.env = (false, eval a X.env) :: starEach es X.env := by rfl) (hpl : (backTo pos (starEach es X.env)).any (·.1) = false := by rfl) :
    PV X O (.Call (.Name x p) (a :: es) [] pos) (fun ρ => (fs ρ).bind F) :=
  (pe_call G hr hg hm hk hb .nil pass0 ha hdb he hpl).imp fun σ H Q zpat => by
    obtain ⟨hid, H0, ρ, ow, r, E, hf, q⟩ := zpat
    obtain ⟨ds, h1, h2⟩ := bind_some hf
    refine ⟨hid, H0, ρ, ow, ds, E, h1, fun vs H1 s1 D1 => ⟨uni hid ow, ds, r, (E.mono s1).uniL, by rw [List.append_nil]; exact D1, h2, fun v as H2 s2 n2 D2 => q v H2 (s1.trans s2) ?_⟩⟩
    exact D2.raw (del_uni _ _ _) fun p hp o e => by rw [del_out fun z => (E.mono s1).fresh (n2 p hp) z]; exact e
noncomputable def tRt (K : PySem.W.Frag) (O : Ow) (U : List Nat) (T : Ty) (f : Rho → Option PyData) : TE := fun σ H Q => ∃ hid H0 ρ ow d A, EnvOk K O hid H0 σ H ρ ow ∧ OwnA K O hid σ H ρ ow A ∧ f ρ = some d ∧ ∀ v as H', Same H H' → (∀ p ∈ as, H p = none ∨ ∃ i ∈ U, p ∈ A i) → DenO K H' (del H' (uni hid (as ++ ow))) T v d as → Q v H'
noncomputable def tRa (K : PySem.W.Frag) (O : Ow) (U : List Nat) (Ts : List Ty) (f : Rho → Option (List PyData)) : TA := fun σ H Q => ∃ hid H0 ρ ow ds A, EnvOk K O hid H0 σ H ρ ow ∧ OwnA K O hid σ H ρ ow A ∧ f ρ = some ds ∧ ∀ vs as H', Same H H' → (∀ p ∈ as, H p = none ∨ ∃ i ∈ U, p ∈ A i) → DenOp K H' (del H' (uni hid (as ++ ow))) Ts vs ds as → Q vs H'
noncomputable abbrev PRt (X : Cx) (O : Ow) (U : List Nat) (T : Ty) (e : Expr) (f : Rho → Option PyData) : Prop := PE X e (tRt X.K O U T f)
noncomputable abbrev PRa (X : Cx) (O : Ow) (U : List Nat) (Ts : List Ty) (es : List Expr) (f : Rho → Option (List PyData)) : Prop := PA X es (tRa X.K O U Ts f)
variable {T : Ty} {Ts : List Ty} {U U' : List Nat}
theorem PFt.rt (h : PFt X O T e f) : PRt X O [] T e f := h.imp fun σ H Q zpat => by
  refine L2.o_EEEEEEAAA (zpat) fun hid H0 ρ ow d A E EA hf k => ?_
  exact ⟨hid, H0, ρ, ow, d, E, hf, fun v as H' s n D => k v as H' s (fun p hp => .inl (n p hp)) D⟩
theorem rt_name {i : Nat} (h : PE X e (tVar i)) (hi : O.s.lookup i = some T := by rfl) : PRt X O [i] T e (fun ρ => (ρ[i]?).join) := h.imp fun σ H Q zpat => by
  refine L2.o_EEEEEEAAA (zpat) fun hid H0 ρ ow d A E EA hf k => ?_
  refine L2.o_EA (EA.1 i T d hi (join_some hf)) fun v h1 h2 => ?_
  refine ⟨v, h1, k v (A i) H (Same.refl H) (fun p hp => .inr ⟨i, List.mem_singleton.mpr rfl, hp⟩) (h2.mono (del_sub fun b z => ?_) fun p _ o e => e)⟩
  rcases z with z | z
  · exact .inl z
  · rcases List.mem_append.mp z with z | z
    · exact .inr (EA.2.2 i b z)
    · exact .inr z
noncomputable def SpecCall (K : PySem.W.Frag) (r : List V → Hp → VK → Prop) (g : List PyData → Option PyData) : Prop := ∀ xs H ds d Q, DenL K H xs ds → g ds = some d → (∀ v, Sc v d → Q v H) → r xs H Q
structure CallD (X : Cx) (u : Value) (g : List PyData → Option PyData) : Prop where
  ex : ∃ r, CallR X u r ∧ SpecCall X.K r g
theorem v_callB {x : Str} {p : Pos} {id : String} {g : List PyData → Option PyData} (C : CallD X (.builtin id) g) (hg : Gl X x) (hm : X.mg x = none) (hv : bootBuiltins x = some (.builtin id)) (ha : PAr X O (a :: es) fs) (hn : x ≠ "__name__" := by decide) (hdb : (x == ("__debug__" : Str)) = false := by decide)
    (he : starEach (a :: es) X.env = (false, eval a X.env) :: starEach es X.env := by rfl) (hpl : (backTo pos (starEach es X.env)).any (·.1) = false := by rfl) : PV X O (.Call (.Name x p) (a :: es) [] pos) (fun ρ => (fs ρ).bind g) := by
  refine L2.o_EA (C.ex) fun r hc hs => ?_
  refine (pe_callB hc hg hm hv ha hn hdb he hpl).imp fun σ H Q zpat => ?_
  obtain ⟨hid, H0, ρ, ow, d, E, hf, q⟩ := zpat
  obtain ⟨ds, h1, h2⟩ := bind_some hf
  exact ⟨hid, H0, ρ, ow, ds, E, h1, fun vs H1 s1 D1 => hs vs H1 ds d Q (D1.mono (del_same _ _)) h2 fun v S => q v H1 s1 S.den⟩
theorem v_callT {x : Str} {p : Pos} {T : String} {g : List PyData → Option PyData} (C : CallD X (.type T) g) (hg : Gl X x) (hm : X.mg x = none) (hv : bootBuiltins x = some (.type T)) (ha : PAr X O (a :: es) fs) (hn : x ≠ "__name__" := by decide) (hdb : (x == ("__debug__" : Str)) = false := by decide)
    (he : starEach (a :: es) X.env = (false, eval a X.env) :: starEach es X.env := by rfl) (hpl : (backTo pos (starEach es X.env)).any (·.1) = false := by rfl) : PV X O (.Call (.Name x p) (a :: es) [] pos) (fun ρ => (fs ρ).bind g) := by
  refine L2.o_EA (C.ex) fun r hc hs => ?_
  refine (pe_callTy hc hg hm hv ha hn hdb he hpl).imp fun σ H Q zpat => ?_
  obtain ⟨hid, H0, ρ, ow, d, E, hf, q⟩ := zpat
  obtain ⟨ds, h1, h2⟩ := bind_some hf
  exact ⟨hid, H0, ρ, ow, ds, E, h1, fun vs H1 s1 D1 => hs vs H1 ds d Q (D1.mono (del_same _ _)) h2 fun v S => q v H1 s1 S.den⟩
noncomputable def absD : List PyData → Option PyData
  | [.int i] => some (.int (if i < 0 then -i else i))
  | _ => none
noncomputable def lenD : List PyData → Option PyData
  | [.list ds] => some (.int ds.length)
  | [.tuple ds] => some (.int ds.length)
  | _ => none
noncomputable def minD : List PyData → Option PyData
  | [.int i, .int j] => some (.int (if j < i then j else i))
  | _ => none
noncomputable def intD : List PyData → Option PyData
  | [.int i] => some (.int i)
  | [.bool b] => some (.int (if b then 1 else 0))
  | _ => none
theorem one_den {K : PySem.W.Frag} {H : Hp} {vs : List V} {d : PyData} (h : DenL K H vs [d]) : ∃ v, vs = [v] ∧ Den K H v d := by
  refine L2.o_EEAA (denl_cons h) fun v ws zq2 h1 h2 => ?_
  subst zq2
  rw [denl_nil h2]
  exact ⟨v, rfl, h1⟩
theorem two_den {K : PySem.W.Frag} {H : Hp} {vs : List V} {d e : PyData} (h : DenL K H vs [d, e]) : ∃ v w, vs = [v, w] ∧ Den K H v d ∧ Den K H w e := by
  refine L2.o_EEAA (denl_cons h) fun v ws zq2 h1 h2 => ?_
  subst zq2
  refine L2.o_EA (one_den h2) fun w zq1 h3 => ?_
  subst zq1
  exact L2.i_EEAA (v) (w) (rfl) (h1) (h3)
theorem b_abs : CallD X (.builtin "abs") absD := ⟨_, call_abs, fun xs H ds d Q D h k => by
  unfold absD at h
  split at h
  · refine L2.o_EA (one_den D) fun v zq1 D1 => ?_
    subst zq1
    cases h
    exact ⟨_, by rw [den_int D1], k _ (.int _)⟩
  · cases h⟩
theorem b_len : CallD X (.builtin "len") lenD := ⟨_, call_len_seq, fun xs H ds d Q D h k => by
  unfold lenD at h
  split at h
  · refine L2.o_EA (one_den D) fun v zq1 D1 => ?_
    subst zq1
    obtain ⟨p, vs, rfl, q, r⟩ := den_lst D1
    cases h
    exact L2.i_EEAA (p) (vs) (rfl) (.inl q) (by rw [r.length]; exact k _ (.int _))
  · refine L2.o_EA (one_den D) fun v zq1 D1 => ?_
    subst zq1
    obtain ⟨p, vs, rfl, q, r⟩ := den_tup D1
    cases h
    exact L2.i_EEAA (p) (vs) (rfl) (.inr q) (by rw [r.length]; exact k _ (.int _))
  · cases h⟩
theorem b_min (hc : X.calm = true) : CallD X (.builtin "min") minD := ⟨_, call_min2 hc, fun xs H ds d Q D h k => by
  unfold minD at h
  split at h
  · refine L2.o_EEAA (two_den D) fun v w zq2 D1 D2 => ?_
    subst zq2
    cases h
    exact L2.i_EEA (_) (_) (by rw [den_int D1, den_int D2]) (k _ (.int _))
  · cases h⟩
theorem b_int : CallD X (.type "int") intD := ⟨_, call_int1, fun xs H ds d Q D h k => by
  unfold intD at h
  split at h
  · refine L2.o_EA (one_den D) fun v zq1 D1 => ?_
    subst zq1
    cases h
    exact .inl ⟨_, by rw [den_int D1], k _ (.int _)⟩
  · refine L2.o_EA (one_den D) fun v zq1 D1 => ?_
    subst zq1
    cases h
    exact .inr ⟨_, by rw [den_bl D1], k _ (.int _)⟩
  · cases h⟩
noncomputable def seqD : PyData → Option (List PyData)
  | .list ds => some ds
  | .tuple ds => some ds
  | _ => none
theorem fr_list {p : Pos} (hg : Gl X "list") (hm : X.mg "list" = none) (ha : PR X O a fa) (he : starEach [a] X.env = (false, eval a X.env) :: starEach [] X.env := by rfl) (hpl : (backTo pos (starEach [] X.env)).any (·.1) = false := by rfl)
    (hv : bootBuiltins "list" = some (.type "list") := by first | exact PySem.boot_list | rfl) : PFr X O (.Call (.Name "list" p) [a] [] pos) (fun ρ => (fa ρ).bind seqD) :=
  (pe_callTy call_list_of hg hm hv (pa_cons ha pa_nil he) (by decide) (by decide) he hpl).imp fun σ H Q zpat => by
    obtain ⟨hid, H0, ρ, ow, r, E, hf, k⟩ := zpat
    obtain ⟨d, h1, h2⟩ := bind_some hf
    refine ⟨hid, H0, ρ, ow, d, E, h1, fun x H1 s1 D1 => ?_⟩
    unfold seqD at h2
    split at h2
    · cases h2
      obtain ⟨q, vs, rfl, q1, r1⟩ := den_lst D1
      exact L2.i_EEAA (q) (vs) (rfl) (.inl ((del_same _ _).seq q1)) (fun l hl => k l vs _ (s1.trans (same_new hl)) (s1.free hl) upd_same (r1.mono (del_new (same_new hl) hl fun b z => by rcases z with z | z; exact .inl z; exact .inr (by simpa using z))))
    · cases h2
      obtain ⟨q, vs, rfl, q1, r1⟩ := den_tup D1
      exact L2.i_EEAA (q) (vs) (rfl) (.inr ((del_same _ _).tup q1)) (fun l hl => k l vs _ (s1.trans (same_new hl)) (s1.free hl) upd_same (r1.mono (del_new (same_new hl) hl fun b z => by rcases z with z | z; exact .inl z; exact .inr (by simpa using z))))
    · cases h2
end
end L2
namespace L2
open PySem PySem.Spec PyProof.Rows
variable [Reg]
inductive TGi (K : PySem.W.Frag) (O : Ow) (S : PyData → Rho → Option Rho) (v : V) (σ : St) (H : Hp) (Q : St → Hp → Prop) : Prop
  | mk (hid : Addr → Prop) (H0 : Hp) (ρ : Rho) (ow : List Addr) (d : PyData) (ρ' : Rho) (E : EnvOk K O hid H0 σ H ρ ow) (D : Den K (del H (uni hid ow)) v d) (hs : S d ρ = some ρ') (k : ∀ σ', EnvOk K O hid H0 σ' H ρ' ow → Q σ' H) : TGi K O S v σ H Q
noncomputable def tG (K : PySem.W.Frag) (O : Ow) (S : PyData → Rho → Option Rho) : TG := fun v σ H Q => TGi K O S v σ H Q
inductive TGsi (K : PySem.W.Frag) (O : Ow) (S : List PyData → Rho → Option Rho) (vs : List V) (σ : St) (H : Hp) (Q : St → Hp → Prop) : Prop
  | mk (hid : Addr → Prop) (H0 : Hp) (ρ : Rho) (ow : List Addr) (ds : List PyData) (ρ' : Rho) (E : EnvOk K O hid H0 σ H ρ ow) (D : DenL K (del H (uni hid ow)) vs ds) (hs : S ds ρ = some ρ') (k : ∀ σ', EnvOk K O hid H0 σ' H ρ' ow → Q σ' H) : TGsi K O S vs σ H Q
noncomputable def tGs (K : PySem.W.Frag) (O : Ow) (S : List PyData → Rho → Option Rho) : TGs := fun vs σ H Q => TGsi K O S vs σ H Q
noncomputable abbrev PGv (X : Cx) (O : Ow) (tg : Expr) (S : PyData → Rho → Option Rho) : Prop := PG X tg (tG X.K O S)
noncomputable abbrev PGsv (X : Cx) (O : Ow) (tg : List Expr) (S : List PyData → Rho → Option Rho) : Prop := PGs X tg (tGs X.K O S)
noncomputable def setS (i : Nat) (d : PyData) (ρ : Rho) : Option Rho := some (ρ.set i (some d))
noncomputable def consS (S : PyData → Rho → Option Rho) (T : List PyData → Rho → Option Rho) : List PyData → Rho → Option Rho
  | d :: r, ρ => (S d ρ).bind (T r)
  | [], _ => none
noncomputable def nilS : List PyData → Rho → Option Rho
  | [], ρ => some ρ
  | _ :: _, _ => none
noncomputable def tupS (n : Nat) (T : List PyData → Rho → Option Rho) : PyData → Rho → Option Rho
  | .tuple ds, ρ => if ds.length = n then T ds ρ else none
  | _, _ => none
section
variable {X : Cx} {O : Ow} {pos : Pos}
theorem g_name {i : Nat} {x : Str} (hN : X.N.Nodup) (hi : X.N[i]? = some x) (hx : Loc X.env.scope x) (hO : O.s.lookup i = none := by rfl) (hf : X.fn x = true ∨ X.env.scope.names.lookup x = some .local := by first | exact .inl rfl | exact .inr rfl | assumption) : PGv X O (.Name x pos) (setS i) :=
  (pg_name hN hi hx hf).imp fun v σ H Q zpat => by
    obtain ⟨hid, H0, ρ, ow, d, ρ', E, D, hS, k⟩ := zpat
    cases hS
    exact k _ (E.set hO D)
theorem gs_nil : PGsv X O [] nilS := pgs_nil.imp fun vs σ H Q zpat => by
  obtain ⟨hid, H0, ρ, ow, ds, ρ', E, D, hS, k⟩ := zpat
  cases ds with
  | nil => cases hS; exact ⟨denl_nil D, k _ E⟩
  | cons d r => cases hS
theorem gs_cons {e : Expr} {es : List Expr} {S : PyData → Rho → Option Rho} {T : List PyData → Rho → Option Rho} (h1 : PGv X O e S) (h2 : PGsv X O es T) (hs : (assignEach (e :: es) X.env).map (·.2) = assign e X.env :: (assignEach es X.env).map (·.2) := by rfl) : PGsv X O (e :: es) (consS S T) :=
  (pgs_cons h1 h2 hs).imp fun vs σ H Q zpat => by
    obtain ⟨hid, H0, ρ, ow, ds, ρ', E, D, hS, k⟩ := zpat
    cases ds with
    | nil => cases hS
    | cons d r =>
      refine L2.o_EEAA (denl_cons D) fun v ws zq2 D1 D2 => ?_
      subst zq2
      obtain ⟨ρ1, h3, h4⟩ := bind_some hS
      exact ⟨v, ws, rfl, hid, H0, ρ, ow, d, ρ1, E, D1, h3, fun σ1 E1 => ⟨hid, H0, ρ1, ow, r, ρ', E1, D2, h4, k⟩⟩
theorem g_tup {es : List Expr} {k : Nat} {n : Nat} {T : List PyData → Rho → Option Rho} (hc : X.calm = true) (h : PGsv X O es T) (hn : (assignEach es X.env).length = n := by rfl) (hst : (assignEach es X.env).findIdx? (·.1) = none := by rfl) : PGv X O (.Tuple es k pos) (tupS n T) :=
  (pg_tup hc h hn hst).imp fun v σ H Q zpat => by
    obtain ⟨hid, H0, ρ, ow, d, ρ', E, D, hS, k⟩ := zpat
    cases d with
    | tuple ds =>
      rw [tupS] at hS
      split at hS
      · rename_i hl
        obtain ⟨a, vs, rfl, q, r⟩ := den_tup D
        exact ⟨a, vs, rfl, (del_same _ _).tup q, by rw [r.length]; exact hl, hid, H0, ρ, ow, ds, ρ', E, r, hS, k⟩
      · cases hS
    | _ => cases hS
end
structure GoodIt (K : PySem.W.Frag) (J : It) (G : Hp) (ds : List PyData) : Prop where
  go : ∀ H2 i, Same G H2 → i < ds.length → J.go i H2
  yld : ∀ H2 i x H3 d, Same G H2 → ds[i]? = some d → J.yld i H2 x H3 → (H3 = H2 ∧ Den K G x d) ∨ ∃ p vs es, H2 p = none ∧ H3 = upd H2 p (.tup vs) ∧ x = .ref p ∧ d = .tuple es ∧ DenL K G vs es
  stop : ∀ H2, Same G H2 → J.stop ds.length H2
noncomputable def tIr (K : PySem.W.Frag) (O : Ow) (f : Rho → Option (List PyData)) : TI := fun σ H R => At5 K O f σ H fun hid H0 ρ ow ds => ∀ J H', Same H H' → GoodIt K J (del H' hid) ds → R J H'
noncomputable def tIv (K : PySem.W.Frag) (O : Ow) (f : Rho → Option (List PyData)) : TI := fun σ H R => At5 K O f σ H fun hid H0 ρ ow ds => ∀ J H', Same H H' → GoodIt K J (del H' (uni hid ow)) ds → R J H'
noncomputable abbrev PIr (X : Cx) (O : Ow) (tg iter : Expr) (f : Rho → Option (List PyData)) : Prop := PI X tg iter (tIr X.K O f)
noncomputable abbrev PIv (X : Cx) (O : Ow) (tg iter : Expr) (f : Rho → Option (List PyData)) : Prop := PI X tg iter (tIv X.K O f)
theorem good_list {K : PySem.W.Frag} {G : Hp} {a : Addr} {xs : List V} {ds : List PyData} (q : SqL K G a xs) (r : DenL K G xs ds) : GoodIt K (Itl K a) G ds where
  go := fun H2 i s h => by
    have hl : i < xs.length := by rw [r.length]; exact h
    exact L2.i_EEA (xs) (xs[i]) (s.seq q) (by simp [hl])
  yld := fun H2 i x H3 d s h y => by
    revert y
    refine fun zqq => L2.o_A zqq fun zq0 y => ?_
    clear zqq
    subst zq0
    refine L2.o_EA (r.get h) fun v h1 h2 => ?_
    have := y xs (s.seq q)
    rw [h1] at this
    cases this
    exact .inl ⟨rfl, h2⟩
  stop := fun H2 s => ⟨xs, s.seq q, by rw [r.length]; exact Nat.le_refl _⟩
noncomputable def rngL (lo : Int) (n : Nat) : List PyData := (List.range n).map fun i => .int (lo + (i : Nat))
theorem good_rng {K : PySem.W.Frag} {G : Hp} (lo : Int) (n : Nat) : GoodIt K (Itr lo n) G (rngL lo n) where
  go := fun H2 i s h => by
    have : i < n := by simpa [rngL] using h
    exact this
  yld := fun H2 i x H3 d s h y => by
    revert y
    refine fun zqq => L2.o_A zqq fun zq0 zq1 => ?_
    clear zqq
    subst zq0
    subst zq1
    have : i < n ∧ PyData.int (lo + i) = d := by
      unfold rngL at h
      rw [List.getElem?_map] at h
      cases e : (List.range n)[i]? with
      | none => rw [e] at h; cases h
      | some j =>
        rw [e] at h
        refine L2.o_E (List.getElem?_eq_some_iff.mp e) fun h1 h2 => ?_
        have h3 : i = j := by simpa using h2
        subst h3
        exact ⟨by simpa using h1, Option.some.inj h⟩
    rw [← this.2]
    exact .inl ⟨rfl, .int _⟩
  stop := fun H2 s => by
    show n ≤ (rngL lo n).length
    simp [rngL]
section
variable {X : Cx} {O : Ow} {pos p : Pos} {tg e : Expr} {f : Rho → Option PyData}
theorem ir_list (h : PR X O e f) : PIr X O tg e (fun ρ => (f ρ).bind listD) := (pi_list h).imp fun σ H R zpat => by
  obtain ⟨hid, H0, ρ, ow, ds, E, hf, k⟩ := zpat
  obtain ⟨d, h1, h2⟩ := bind_some hf
  rw [listD_some h2] at h1
  refine ⟨hid, H0, ρ, ow, _, E, h1, fun v H' s D => ?_⟩
  obtain ⟨a, xs, rfl, q, r⟩ := den_lst D
  exact ⟨a, rfl, ⟨xs, (del_same _ _).seq q⟩, k _ H' s (good_list q r)⟩
noncomputable def rng1D : List PyData → Option (List PyData)
  | [.int j] => if decide (j.natAbs < 2 ^ 61) = true then some (rngL 0 j.toNat) else none
  | _ => none
variable {a b : Expr} {fs : Rho → Option (List PyData)}
theorem rng1D_some {ds es : List PyData} (h : rng1D ds = some es) : ∃ j, ds = [.int j] ∧ -(2 ^ 62) ≤ j ∧ j < 2 ^ 62 ∧ es = rngL 0 j.toNat := by
  unfold rng1D at h
  split at h
  · rename_i j
    split at h
    · rename_i hc
      have hc' := of_decide_eq_true hc
      cases h
      exact ⟨j, rfl, by omega, by omega, rfl⟩
    · cases h
  · cases h
theorem iv_rng1 (hg : Gl X "range") (hm : X.mg "range" = none) (ha : PAr X O [a] fs) (hs : starEach [a] X.env = [(false, eval a X.env)] := by rfl) : PIv X O tg (.Call (.Name "range" p) [a] [] pos) (fun ρ => (fs ρ).bind rng1D) :=
  (pi_range1 hg hm ha hs).imp fun σ H R zpat => by
    obtain ⟨hid, H0, ρ, ow, ds, E, hf, k⟩ := zpat
    obtain ⟨es, h1, h2⟩ := bind_some hf
    refine L2.o_EAAA (rng1D_some h2) fun j zq1 h3 h4 zq4 => ?_
    subst zq1
    subst zq4
    refine ⟨hid, H0, ρ, ow, _, E, h1, fun vs H' s D => ?_⟩
    refine L2.o_EA (one_den D) fun v zq1 D1 => ?_
    subst zq1
    exact ⟨j, by rw [den_int D1], h3, h4, k _ H' s (good_rng 0 j.toNat)⟩
end
theorem GoodIt.mono {K : PySem.W.Frag} {J : It} {G G' : Hp} {ds : List PyData} (h : GoodIt K J G ds) (s : Same G G') : GoodIt K J G' ds where
  go := fun H2 i e hi => h.go H2 i (s.trans e) hi
  yld := fun H2 i x H3 d e hd y => by
    rcases h.yld H2 i x H3 d (s.trans e) hd y with ⟨a, b⟩ | ⟨p, vs, es, a, b, c, d', e'⟩
    · exact .inl ⟨a, b.mono s⟩
    · exact .inr ⟨p, vs, es, a, b, c, d', e'.mono s⟩
  stop := fun H2 e => h.stop H2 (s.trans e)
theorem PIv.raw {X : Cx} {O : Ow} {tg e : Expr} {f : Rho → Option (List PyData)} (h : PIv X O tg e f) : PIr X O tg e f := h.imp fun σ H R ⟨hid, H0, ρ, ow, ds, E, hf, k⟩ => ⟨hid, H0, ρ, ow, ds, E, hf, fun J H' s G => k J H' s (G.mono (del_uni _ _ _))⟩
noncomputable abbrev O0 : Ow := ⟨[], .cl⟩
noncomputable def compD (S : PyData → Rho → Option Rho) (ft : Rho → Option Bool) (fe : Rho → Option PyData) : List PyData → Rho → Option (List PyData)
  | [], _ => some []
  | d :: r, ρ => (S d ρ).bind fun ρ1 => (ft ρ1).bind fun c => if c = true then (fe ρ1).bind fun y => (compD S ft fe r ρ1).map (y :: ·) else compD S ft fe r ρ1
noncomputable def compO (S : PyData → Rho → Option Rho) (ft : Rho → Option Bool) (fe : Rho → Option PyData) (x : Option (List PyData)) (ρ : Rho) : Option (List PyData) := x.bind fun ds => if decide (ds.length ≤ 1000) = true then compD S ft fe ds ρ else none
noncomputable abbrev PIfv (X : Cx) (ifs : List Expr) (ft : Rho → Option Bool) : Prop := PIf X ifs (tT X.K O0 ft)
theorem if_nil {X : Cx} : PIfv X [] (fun _ => some true) := fun pins s σ H Q I zpat => by
  obtain ⟨hid, H0, ρ, ow, b, E, hf, k⟩ := zpat
  cases hf
  exact pif_nil pins s σ H Q I (k H (Same.refl H))
noncomputable def frees (k : Nat) (ix : List Nat) (ρ : Rho) : Rho := List.replicate k none ++ ix.map fun i => (ρ[i]?).join
theorem frees_ok {K : PySem.W.Frag} {O : Ow} {hid hid' : Addr → Prop} {H0 H H' : Hp} {σ : St} {ρ : Rho} {ow : List Addr} (E : EnvOk K O hid H0 σ H ρ ow) (s : Same H H') (hs : Same (del H hid) (del H' hid')) (hh : ∀ b, hid' b → ∃ vs, H' b = some (.lst vs)) (k : Nat) (ix : List Nat) : EnvOk K O0 hid' H (stComp k ix σ) H' (frees k ix ρ) [] := by
  refine ⟨?_, fun b o e => (by rw [del_out (by simp)]; exact s b o e), fun i d _ h => ?_, ⟨fun _ => [], fun i t d h => (by cases h), fun i j p _ h => (by cases h), fun i p h => (by cases h)⟩, fun l h => (by cases h), hh, fun _ => rfl⟩
  · unfold frees stComp
    simp
  · rw [uni_nil]
    unfold frees at h
    unfold stComp
    by_cases hi : i < k
    · rw [List.getElem?_append_left (by simpa using hi), List.getElem?_replicate, if_pos hi] at h
      cases h
    · have hj : k ≤ i := Nat.le_of_not_lt hi
      rw [List.getElem?_append_right (by simpa using hj), List.getElem?_map] at h
      rw [List.getElem?_append_right (by simpa using hj), List.getElem?_map]
      simp only [List.length_replicate] at h ⊢
      cases q : ix[i - k]? with
      | none => rw [q] at h; cases h
      | some j =>
        rw [q] at h
        have h' : (ρ[j]?).join = some d := Option.some.inj h
        refine L2.o_EA (E.raw (join_some h')) fun v h1 h2 => ?_
        exact ⟨v, by simp [h1], h2.mono hs⟩
theorem EnvOk.updHid {K : PySem.W.Frag} {O : Ow} {hid : Addr → Prop} {H0 H : Hp} {σ : St} {ρ : Rho} {ow : List Addr} (E : EnvOk K O hid H0 σ H ρ ow) {l : Addr} {ws : List V} (hl : hid l) (h0 : H0 l = none) : EnvOk K O hid H0 σ (upd H l (.lst ws)) ρ ow := by
  have ed : del (upd H l (.lst ws)) (uni hid ow) = del H (uni hid ow) := del_upd (.inl hl)
  have nl : ∀ l' ∈ ow, l' ≠ l := fun l' h z => (E.isl l' h).2 (z ▸ hl)
  refine ⟨E.len, fun b u e => ?_, fun i d hi h => by rw [ed]; exact E.val i d hi h, ?_, fun l' h => ?_, fun b hb => ?_, E.emp⟩
  · have hne : b ≠ l := ne_of_none e h0
    have q := E.base b u e
    by_cases hb : b ∈ ow
    · rw [del_in hb] at q; cases q
    · rw [del_out hb] at q ⊢
      rw [upd_ne hne]
      exact q
  · refine L2.o_EAA (E.own) fun A a1 a2 a3 => ?_
    refine ⟨A, fun i t d hi h => ?_, a2, a3⟩
    refine L2.o_EA (a1 i t d hi h) fun v q r => ?_
    exact ⟨v, q, by rw [ed]; exact r.mono (Same.refl _) fun p hp o e => by rw [upd_ne (nl p (a3 i p hp))]; exact e⟩
  · obtain ⟨⟨vs, q⟩, n⟩ := E.isl l' h
    exact ⟨⟨vs, by rw [upd_ne (nl l' h)]; exact q⟩, n⟩
  · by_cases hne : b = l
    · subst hne; rw [upd_same]; exact ⟨_, rfl⟩
    · rw [upd_ne hne]; exact E.ishL b hb
theorem comp_imp {K : PySem.W.Frag} {O : Ow} {fi : Rho → Option (List PyData)} {S : PyData → Rho → Option Rho} {ft : Rho → Option Bool} {fe : Rho → Option PyData} {k : Nat} {ix : List Nat} : ∀ σ H Q, tFr K O (fun ρ => compO S ft fe (fi ρ) (frees k ix ρ)) σ H Q → tComp (tIr K O fi) (tG K O0 S) (tT K O0 ft) (tR K O0 fe) (stComp k ix) σ H Q := fun σ H Q zpat => by
  obtain ⟨hid, H0, ρ, ow, out, E, hf, q⟩ := zpat
  obtain ⟨ds, h1, h2⟩ := bind_some hf
  split at h2
  case isFalse => cases h2
  rename_i hlen
  have hz : ds.length ≤ 1000 := of_decide_eq_true hlen
  have hzl : 1000 < sizeLine := by decide
  refine ⟨hid, H0, ρ, ow, ds, E, h1, fun J H1 s1 G D hD => ?_⟩
  have hDH : H D = none := s1.free hD
  have hq : ∀ b, uni hid [D] b → hid b ∨ b = D := fun b z => by rcases z with z | z; exact .inl z; exact .inr (by simpa using z)
  have hDh : uni hid [D] D := .inr (by simp)
  refine ⟨fun i m τ H2 => m = ds.length - i ∧ i ≤ ds.length ∧ ∃ ρ2 ys done rest, EnvOk K O0 (uni hid [D]) H τ H2 ρ2 [] ∧ Same H1 H2 ∧ H2 D = some (.lst ys) ∧ DenL K (del H2 (uni hid [D])) ys done ∧ compD S ft fe (ds.drop i) ρ2 = some rest ∧ out = done ++ rest ∧ done.length ≤ i,
    ⟨ds.length, by simp, Nat.zero_le _, frees k ix ρ, [], [], out, ?_, same_new hD, upd_same, .nil, by simpa using h2, rfl, Nat.le_refl _⟩, ?_⟩
  · refine frees_ok E (s1.trans (same_new hD)) (del_new (s1.trans (same_new hD)) hDH hq) (fun b z => ?_) k ix
    rcases hq b z with z | z
    · refine L2.o_E (E.ishL b z) fun vs e => ?_
      exact ⟨vs, (s1.trans (same_new hD)) _ _ e⟩
    · rw [z, upd_same]
      exact ⟨_, rfl⟩
  · rintro i m τ H2 ⟨rfl, hi', ρ2, ys, done, rest, E2, s2, hy, hd, hr, ho, hdl⟩
    have keep : Same (del H1 hid) H2 := (del_same _ _).trans s2
    by_cases hlt : i < ds.length
    · have hdr : ds.drop i = ds[i] :: ds.drop (i + 1) := List.drop_eq_getElem_cons hlt
      rw [hdr, compD] at hr
      obtain ⟨ρ3, g1, hr⟩ := bind_some hr
      obtain ⟨c, g2, hr⟩ := bind_some hr
      refine .inr ⟨G.go H2 i keep hlt, fun τ' H' => ∃ ρ2 ys done rest, EnvOk K O0 (uni hid [D]) H τ' H' ρ2 [] ∧ Same H1 H' ∧ H' D = some (.lst ys) ∧ DenL K (del H' (uni hid [D])) ys done ∧ compD S ft fe (ds.drop (i + 1)) ρ2 = some rest ∧ out = done ++ rest ∧ done.length ≤ i + 1,
        fun τ' H' z => ⟨ds.length - (i + 1), by omega, rfl, hlt, z⟩, fun x H3 y => ?_⟩
      have step : ∃ s23 : Same H2 H3, Den K (del H3 (uni (uni hid [D]) [])) x ds[i] := by
        rw [uni_nil]
        rcases G.yld H2 i x H3 ds[i] keep (by simp [hlt]) y with ⟨rfl, Dx⟩ | ⟨p, vs, es, hp, rfl, rfl, hde, De⟩
        · exact ⟨Same.refl _, Dx.mono (del_new s2 hD hq)⟩
        · refine ⟨same_new hp, ?_⟩
          rw [hde]
          have np : ¬ uni hid [D] p := fun z => E2.fresh hp (.inl z)
          exact .tup (SqT.of (by rw [del_out np, upd_same])) ((De.mono (del_new s2 hD hq)).mono (del_mono (same_new hp) _))
      refine L2.o_E (step) fun s23 Dx => ?_
      refine ⟨uni hid [D], H, ρ2, [], ds[i], ρ3, E2.mono s23, Dx, g1, fun τ3 E3 => ⟨uni hid [D], H, ρ3, [], c, E3, g2, fun H5 s5 => ?_⟩⟩
      have sA : Same H2 H5 := s23.trans s5
      cases c with
      | false =>
        dsimp only
        rw [if_neg Bool.false_ne_true] at hr ⊢
        exact L2.i_EEEEAAAAAA (ρ3) (ys) (done) (rest) (E3.mono s5) (s2.trans sA) (sA _ _ hy) (hd.mono (del_mono sA _)) (hr) (ho) (Nat.le_succ_of_le hdl)
      | true =>
        dsimp only
        rw [if_pos rfl] at hr ⊢
        obtain ⟨yv, g3, hr⟩ := bind_some hr
        obtain ⟨rest2, g4, rfl⟩ := map_some hr
        refine ⟨uni hid [D], H, ρ3, [], yv, E3.mono s5, g3, fun y H6 s6 Dy => ?_⟩
        have sB : Same H2 H6 := sA.trans s6
        have hyl : ys.length = done.length := hd.length
        refine L2.i_EAAEEEEAAAAAA (ys) (sB _ _ hy) (by omega) (ρ3) (ys ++ [y]) (done ++ [yv]) (rest2) (((E3.mono s5).mono s6).updHid hDh hDH) (fun b o e => ?_) (upd_same) ?_ (g4) ?_ ?_
        · rw [upd_ne (ne_of_none e hD)]
          exact sB b o (s2 b o e)
        · rw [del_upd hDh]
          exact (hd.mono (del_mono sB _)).append (.cons Dy .nil)
        · rw [ho, List.append_assoc]; rfl
        · rw [List.length_append, List.length_singleton]; omega
    · have e : i = ds.length := by omega
      subst e
      rw [List.drop_length, compD] at hr
      cases hr
      rw [List.append_nil] at ho
      subst ho
      exact .inl ⟨G.stop H2 keep, q D ys H2 (s1.trans s2) hDH hy hd⟩
theorem fr_comp {X : Cx} {O : Ow} {elt tg iter : Expr} {ifs : List Expr} {scope : Scope} {pos : Pos} {fi : Rho → Option (List PyData)} {S : PyData → Rho → Option Rho} {ft : Rho → Option Bool} {fe : Rho → Option PyData} {k : Nat} {N : List Str} {ix : List Nat} (sc : Scope) (hsc : X.env.scope = sc) (C : CompSc sc X.N scope k N ix)
    (hx : X.xe = fun _ _ => False) (hc : X.calm = true) (hi : PIr X O tg iter fi)
    (hg : ∀ cl C s3 H3 fp pins, PGv (cxComp X N scope cl C s3 H3 fp pins) O0 tg S) (ht : ∀ cl C s3 H3 fp pins, PIfv (cxComp X N scope cl C s3 H3 fp pins) ifs ft) (he : ∀ cl C s3 H3 fp pins, PR (cxComp X N scope cl C s3 H3 fp pins) O0 elt fe)
    (hs : ∀ x, foldedSetIterable iter X.env x = pure x := by intro _; rfl) :
    PFr X O (.ListComp elt [⟨tg, iter, ifs, 0⟩] scope pos) (fun ρ => compO S ft fe (fi ρ) (frees k ix ρ)) := by
  exact (pe_comp (g := tG X.K O0 S) (tc := tT X.K O0 ft) (te := tR X.K O0 fe) sc hsc C hx hc hi hg ht he hs).imp comp_imp
inductive Out where
  | nx (ρ : Rho) | rt (d : PyData) | bk (ρ : Rho) | ct (ρ : Rho)
noncomputable def Then (K : PySem.W.Frag) (O : Ow) (hid : Addr → Prop) (H0 G : Hp) (D : Ends) : Out → Prop
  | .nx ρ' => ∀ σ' H' ow', Same G (del H' (uni hid ow')) → EnvOk K O hid H0 σ' H' ρ' ow' → D.nx σ' H'
  | .bk ρ' => ∀ σ' H' ow', Same G (del H' (uni hid ow')) → EnvOk K O hid H0 σ' H' ρ' ow' → D.bk σ' H'
  | .ct ρ' => ∀ σ' H' ow', Same G (del H' (uni hid ow')) → EnvOk K O hid H0 σ' H' ρ' ow' → D.ct σ' H'
  | .rt d => ∀ v as H', Same H0 H' → (∀ p ∈ as, H0 p = none) → DenO K H' (del H' (uni hid as)) O.r v d as → D.rt v H'
noncomputable def tP (K : PySem.W.Frag) (O : Ow) (F : Rho → Option Out) : TS := fun D σ H => At5 K O F σ H fun hid H0 ρ ow o => Then K O hid H0 (del H (uni hid ow)) D o
noncomputable abbrev PSv (X : Cx) (O : Ow) (st : Stmt) (F : Rho → Option Out) : Prop := PS X st (tP X.K O F)
noncomputable abbrev PSsv (X : Cx) (O : Ow) (st : List Stmt) (F : Rho → Option Out) : Prop := PSs X st (tP X.K O F)
theorem Then.weak {K : PySem.W.Frag} {O : Ow} {hid : Addr → Prop} {H0 G G' : Hp} {D : Ends} {o : Out} (s : Same G G') (h : Then K O hid H0 G D o) : Then K O hid H0 G' D o := by
  cases o with
  | nx ρ => exact fun σ' H' ow' s' E => h σ' H' ow' (s.trans s') E
  | bk ρ => exact fun σ' H' ow' s' E => h σ' H' ow' (s.trans s') E
  | ct ρ => exact fun σ' H' ow' s' E => h σ' H' ow' (s.trans s') E
  | rt d => exact h
theorem EnvOk.baseS {K : PySem.W.Frag} {O : Ow} {hid : Addr → Prop} {H0 H : Hp} {σ : St} {ρ : Rho} {ow : List Addr} (E : EnvOk K O hid H0 σ H ρ ow) : Same H0 H := E.base.trans (del_same _ _)
noncomputable def seqF (F G : Rho → Option Out) (ρ : Rho) : Option Out := (F ρ).bind fun o => match o with
  | .nx ρ' => G ρ'
  | .rt d => some (.rt d)
  | .bk ρ' => some (.bk ρ')
  | .ct ρ' => some (.ct ρ')
noncomputable def forD (S : PyData → Rho → Option Rho) (F : Rho → Option Out) : List PyData → Rho → Option Out
  | [], ρ => some (.nx ρ)
  | d :: r, ρ => (S d ρ).bind fun ρ1 => (F ρ1).bind fun o => match o with
    | .nx ρ2 => forD S F r ρ2
    | .ct ρ2 => forD S F r ρ2
    | .bk ρ2 => some (.nx ρ2)
    | .rt v => some (.rt v)
noncomputable def setO (i : Nat) (ρ : Rho) (x : Option PyData) : Option Out := x.map fun d => .nx (ρ.set i (some d))
noncomputable def setLO (i : Nat) (ρ : Rho) (x : Option (List PyData)) : Option Out := x.map fun ds => .nx (ρ.set i (some (.list ds)))
noncomputable def dropO (ρ : Rho) (x : Option PyData) : Option Out := x.map fun _ => .nx ρ
noncomputable def asgO (S : PyData → Rho → Option Rho) (ρ : Rho) (x : Option PyData) : Option Out := x.bind fun d => (S d ρ).map .nx
noncomputable def forO (S : PyData → Rho → Option Rho) (F : Rho → Option Out) (x : Option (List PyData)) (ρ : Rho) : Option Out := x.bind fun ds => forD S F ds ρ
noncomputable def whileD (t : Rho → Option Bool) (F : Rho → Option Out) : Nat → Rho → Option Out
  | 0, _ => none
  | n + 1, ρ => (t ρ).bind fun c => if c = true then (F ρ).bind fun o => match o with
    | .nx ρ2 => whileD t F n ρ2
    | .ct ρ2 => whileD t F n ρ2
    | .bk ρ2 => some (.nx ρ2)
    | .rt v => some (.rt v) else some (.nx ρ)
section
variable {X : Cx} {O : Ow} {st : Stmt} {rest : List Stmt} {F G : Rho → Option Out} {e : Expr} {f : Rho → Option PyData} {pos : Pos}
theorem ss_nil : PSsv X O [] (fun ρ => some (.nx ρ)) := pss_nil.imp fun D σ H zpat => by
  obtain ⟨hid, H0, ρ, ow, o, E, hf, k⟩ := zpat
  cases hf
  exact k σ H ow (Same.refl _) E
theorem ss_cons (h1 : PSv X O st F) (h2 : PSsv X O rest G) : PSsv X O (st :: rest) (seqF F G) := (pss_cons h1 h2).imp fun D σ H zpat => by
  obtain ⟨hid, H0, ρ, ow, o, E, hf, k⟩ := zpat
  obtain ⟨o1, g1, g2⟩ := bind_some hf
  refine ⟨hid, H0, ρ, ow, o1, E, g1, ?_⟩
  cases o1 with
  | nx ρ1 => exact fun σ' H' ow' s' E' => ⟨hid, H0, ρ1, ow', o, E', g2, by cases o <;> exact k.weak s'⟩
  | rt d => cases g2; exact k
  | bk ρ1 => cases g2; exact k
  | ct ρ1 => cases g2; exact k
theorem ss_one (h1 : PSv X O st F) : PSsv X O [st] F := pss_one h1
theorem s_never : PSv X O st (fun _ => none) := ps_never.imp fun D σ H ⟨hid, H0, ρ, ow, o, E, hf, k⟩ => by cases hf
theorem s_ret (h : PR X O e f) (hr : O.r = .cl := by rfl) : PSv X O (.Return (some e) pos) (fun ρ => (f ρ).map .rt) := (ps_ret h).imp fun D σ H zpat => by
  obtain ⟨hid, H0, ρ, ow, o, E, hf, k⟩ := zpat
  obtain ⟨d, g1, rfl⟩ := map_some hf
  exact ⟨hid, H0, ρ, ow, d, E, g1, fun v H' s Dv => k v [] H' (E.baseS.trans s) (fun p hp => by cases hp) (by rw [hr, uni_nil]; exact .cl Dv)⟩
theorem s_retO {U : List Nat} (h : PRt X O U O.r e f) : PSv X O (.Return (some e) pos) (fun ρ => (f ρ).map .rt) := (ps_ret h).imp fun D σ H zpat => by
  obtain ⟨hid, H0, ρ, ow, o, E, hf, k⟩ := zpat
  obtain ⟨d, g1, rfl⟩ := map_some hf
  refine L2.o_E (E.own) fun A EA => ?_
  refine L2.i_EEEEEEAAA (hid) (H0) (ρ) (ow) (d) (A) (E) (EA) (g1) (fun v as H' s n Dv => k v as H' (E.baseS.trans s) (fun p hp => ?_) (Dv.mono (del_sub (uni_mono fun p hp => List.mem_append_left _ hp)) fun p _ o e => e))
  rcases n p hp with z | ⟨i, _, z⟩
  · exact E.baseS.free z
  · exact E.ow0 (EA.2.2 i p z)
theorem s_if {c : Expr} {a b : List Stmt} {ft : Rho → Option Bool} (hc : PTv X O c ft) (ha : PSsv X O a F) (hb : PSsv X O b G) : PSv X O (.If c a b pos) (fun ρ => condO (ft ρ) (F ρ) (G ρ)) := (ps_if hc ha hb).imp fun D σ H zpat => by
  obtain ⟨hid, H0, ρ, ow, o, E, hf, k⟩ := zpat
  obtain ⟨c, g1, g2⟩ := bind_some hf
  refine ⟨hid, H0, ρ, ow, c, E, g1, fun H' s => ?_⟩
  cases c with
  | true => rw [if_pos rfl] at g2 ⊢; exact ⟨hid, H0, ρ, ow, o, E.mono s, g2, k.weak (del_mono s _)⟩
  | false => rw [if_neg Bool.false_ne_true] at g2 ⊢; exact ⟨hid, H0, ρ, ow, o, E.mono s, g2, k.weak (del_mono s _)⟩
theorem s_set {i : Nat} {x : Str} {pos' : Pos} (hN : X.N.Nodup) (hi : X.N[i]? = some x) (hx : Loc X.env.scope x) (he : PV X O e f) (hO : O.s.lookup i = none := by rfl) (hs : swapsWith e (some (.Name x pos')) pos.line X.env = pure false := by rfl) (hf : X.fn x = true ∨ X.env.scope.names.lookup x = some .local := by first | exact .inl rfl | exact .inr rfl | assumption) :
    PSv X O (.Assign [.Name x pos'] e pos) (fun ρ => setO i ρ (f ρ)) := (ps_set hN hi hx he hs hf).imp fun D σ H zpat => by
  obtain ⟨hid, H0, ρ, ow, o, E, hf, k⟩ := zpat
  obtain ⟨d, g1, rfl⟩ := map_some hf
  exact ⟨hid, H0, ρ, ow, d, E, g1, fun v H' s Dv => k _ H' ow (del_mono s _) ((E.mono s).set hO Dv)⟩
theorem s_setT {i : Nat} {x : Str} {pos' : Pos} {T : Ty} (hN : X.N.Nodup) (hi : X.N[i]? = some x) (hx : Loc X.env.scope x) (he : PFt X O T e f) (hO : O.s.lookup i = some T := by rfl) (hs : swapsWith e (some (.Name x pos')) pos.line X.env = pure false := by rfl) (hf : X.fn x = true ∨ X.env.scope.names.lookup x = some .local := by first | exact .inl rfl | exact .inr rfl | assumption) :
    PSv X O (.Assign [.Name x pos'] e pos) (fun ρ => setO i ρ (f ρ)) := (ps_set hN hi hx he hs hf).imp fun D σ H zpat => by
  obtain ⟨hid, H0, ρ, ow, o, E, hf, k⟩ := zpat
  obtain ⟨d, g1, rfl⟩ := map_some hf
  refine ⟨hid, H0, ρ, ow, d, E, g1, fun v as H' s n Dv => k _ H' (as ++ ow) ?_ (E.setT s hO n Dv)⟩
  intro b u z
  by_cases hb : uni hid ow b
  · rw [del_in hb] at z; cases z
  · rw [del_out hb] at z
    rw [del_out fun y => ?_]
    · exact s b u z
    · rcases y with y | y
      · exact hb (.inl y)
      · rcases List.mem_append.mp y with y | y
        · rw [n b y] at z; cases z
        · exact hb (.inr y)
theorem s_setO {i : Nat} {x : Str} {pos' : Pos} {f : Rho → Option (List PyData)} (hN : X.N.Nodup) (hi : X.N[i]? = some x) (hx : Loc X.env.scope x) (he : PFc X O e f) (hO : O.s.lookup i = some (.lst .cl) := by rfl) (hs : swapsWith e (some (.Name x pos')) pos.line X.env = pure false := by rfl) (hf : X.fn x = true ∨ X.env.scope.names.lookup x = some .local := by first | exact .inl rfl | exact .inr rfl | assumption) :
    PSv X O (.Assign [.Name x pos'] e pos) (fun ρ => setLO i ρ (f ρ)) := (s_setT hN hi hx he.ft hO hs hf).imp fun D σ H zpat => by
  obtain ⟨hid, H0, ρ, ow, o, E, hf, k⟩ := zpat
  refine ⟨hid, H0, ρ, ow, o, E, ?_, k⟩
  obtain ⟨d, g1, rfl⟩ := map_some hf
  show setO i ρ ((f ρ).map .list) = _
  rw [g1]
  rfl
theorem s_for {tg iter : Expr} {body : List Stmt} {fi : Rho → Option (List PyData)} {S : PyData → Rho → Option Rho} (hc : X.calm = true) (hi : PIv X O tg iter fi) (hg : PGv X O tg S) (hb : PSsv X O body F) (hp : PassesOwn (model X.prog X.w) X.A X.env X.xe)
    (hs : ∀ x, foldedSetIterable iter X.env x = pure x := by intro _; rfl) : PSv X O (.For tg iter body [] pos) (fun ρ => forO S F (fi ρ) ρ) := (ps_for hp hc hi hg hb hs).imp fun D σ H zpat => by
  obtain ⟨hid, H0, ρ, ow, out, E, hf, k⟩ := zpat
  obtain ⟨ds, g1, g2⟩ := bind_some hf
  refine ⟨hid, H0, ρ, ow, ds, E, g1, fun J H1 s1 Gd => ?_⟩
  have k1 := k.weak (del_mono s1 (uni hid ow))
  refine ⟨fun i m τ H2 => m = ds.length - i ∧ i ≤ ds.length ∧ ∃ ρ2 ow2, EnvOk X.K O hid H0 τ H2 ρ2 ow2 ∧ Same (del H1 (uni hid ow)) (del H2 (uni hid ow2)) ∧ forD S F (ds.drop i) ρ2 = some out, ⟨ds.length, by simp, Nat.zero_le _, ρ, ow, E.mono s1, Same.refl _, by simpa using g2⟩, ?_⟩
  rintro i m τ H2 ⟨rfl, hi', ρ2, ow2, E2, s2, hr⟩
  have keep : Same (del H1 (uni hid ow)) H2 := s2.trans (del_same _ _)
  by_cases hlt : i < ds.length
  · have hdr : ds.drop i = ds[i] :: ds.drop (i + 1) := List.drop_eq_getElem_cons hlt
    rw [hdr, forD] at hr
    obtain ⟨ρ3, g3, hr⟩ := bind_some hr
    obtain ⟨o3, g4, hr⟩ := bind_some hr
    refine .inr ⟨Gd.go H2 i keep hlt, fun τ' H' => ∃ ρ2 ow2, EnvOk X.K O hid H0 τ' H' ρ2 ow2 ∧ Same (del H1 (uni hid ow)) (del H' (uni hid ow2)) ∧ forD S F (ds.drop (i + 1)) ρ2 = some out, fun τ' H' z => ⟨ds.length - (i + 1), by omega, rfl, hlt, z⟩, fun x H3 y => ?_⟩
    have step : ∃ s23 : Same H2 H3, Den X.K (del H3 (uni hid ow2)) x ds[i] := by
      rcases Gd.yld H2 i x H3 ds[i] keep (by simp [hlt]) y with ⟨rfl, Dx⟩ | ⟨p, vs, es, hp, rfl, rfl, hde, De⟩
      · exact ⟨Same.refl _, Dx.mono s2⟩
      · refine ⟨same_new hp, ?_⟩
        rw [hde]
        exact .tup (SqT.of (E2.newAt hp)) ((De.mono s2).mono (del_mono (same_new hp) _))
    refine L2.o_E (step) fun s23 Dx => ?_
    refine ⟨hid, H0, ρ2, ow2, ds[i], ρ3, E2.mono s23, Dx, g3, fun τ3 E3 => ⟨hid, H0, ρ3, ow2, o3, E3, g4, ?_⟩⟩
    have s13 : Same (del H1 (uni hid ow)) (del H3 (uni hid ow2)) := s2.trans (del_mono s23 _)
    cases o3 with
    | nx ρ4 => exact fun σ' H' ow' s' E' => ⟨ρ4, ow', E', s13.trans s', hr⟩
    | ct ρ4 => exact fun σ' H' ow' s' E' => ⟨ρ4, ow', E', s13.trans s', hr⟩
    | bk ρ4 =>
      cases hr
      exact fun σ' H' ow' s' E' => k1 σ' H' ow' (s13.trans s') E'
    | rt d =>
      cases hr
      exact k1
  · have e : i = ds.length := by omega
    subst e
    rw [List.drop_length, forD] at hr
    cases hr
    exact .inl ⟨Gd.stop H2 keep, k1 τ H2 ow2 s2 E2⟩
theorem s_while {c : Expr} {body : List Stmt} {ft : Rho → Option Bool} (μ : Rho → Nat) (hc : PTv X O c ft) (hb : PSsv X O body F) (hp : PassesOwn (model X.prog X.w) X.A X.env X.xe) : PSv X O (.While c body [] pos) (fun ρ => whileD ft F (μ ρ) ρ) := (ps_while hp hc hb).imp fun D σ H zpat => by
  obtain ⟨hid, H0, ρ, ow, out, E, hf, k⟩ := zpat
  refine ⟨fun m τ H2 => ∃ ρ2 ow2, EnvOk X.K O hid H0 τ H2 ρ2 ow2 ∧ Same (del H (uni hid ow)) (del H2 (uni hid ow2)) ∧ whileD ft F m ρ2 = some out, ⟨_, ρ, ow, E, Same.refl _, hf⟩, ?_⟩
  rintro m τ H2 ⟨ρ2, ow2, E2, s2, hr⟩
  cases m with
  | zero => cases hr
  | succ m =>
    rw [whileD] at hr
    obtain ⟨b, g1, hr⟩ := bind_some hr
    refine ⟨hid, H0, ρ2, ow2, b, E2, g1, fun H3 s3 => ?_⟩
    have s13 : Same (del H (uni hid ow)) (del H3 (uni hid ow2)) := s2.trans (del_mono s3 _)
    cases b with
    | false =>
      dsimp only
      rw [if_neg Bool.false_ne_true] at hr ⊢
      cases hr
      exact k τ H3 ow2 s13 (E2.mono s3)
    | true =>
      dsimp only
      rw [if_pos rfl] at hr ⊢
      obtain ⟨o3, g4, hr⟩ := bind_some hr
      refine ⟨fun τ' H' => ∃ ρ2 ow2, EnvOk X.K O hid H0 τ' H' ρ2 ow2 ∧ Same (del H (uni hid ow)) (del H' (uni hid ow2)) ∧ whileD ft F m ρ2 = some out, fun τ' H' z => ⟨m, Nat.lt_succ_self m, z⟩, hid, H0, ρ2, ow2, o3, E2.mono s3, g4, ?_⟩
      cases o3 with
      | nx ρ4 => exact fun σ' H' ow' s' E' => ⟨ρ4, ow', E', s13.trans s', hr⟩
      | ct ρ4 => exact fun σ' H' ow' s' E' => ⟨ρ4, ow', E', s13.trans s', hr⟩
      | bk ρ4 =>
        cases hr
        exact fun σ' H' ow' s' E' => k σ' H' ow' (s13.trans s') E'
      | rt d =>
        cases hr
        exact k
noncomputable def tAt (K : PySem.W.Frag) (O : Ow) (i : Nat) (T : Ty) (fp : Rho → Option (List Int)) : TE := fun σ H Q => ∃ hid H0 ρ ow d path ds, EnvOk K O hid H0 σ H ρ ow ∧ ρ[i]? = some (some d) ∧ fp ρ = some path ∧ tyP T d path = true ∧ getP d path = some ds ∧
  ∀ H1 l vs, Same H H1 → H1 l = some (.lst vs) → DenL K (del H1 (uni hid ow)) vs ds → l ∈ ow →
    (∀ H2, Same H1 H2 → ∀ ws es, DenL K (del H2 (uni hid ow)) ws es → EnvOk K O hid H0 σ (upd H2 l (.lst ws)) (ρ.set i (some (setP d path es))) ow) → Q (.ref l) H1
noncomputable abbrev PAt (X : Cx) (O : Ow) (i : Nat) (T : Ty) (e : Expr) (fp : Rho → Option (List Int)) : Prop := PE X e (tAt X.K O i T fp)
theorem at_name {i : Nat} (h : PE X e (tVar i)) (hi : O.s.lookup i = some (.lst .cl) := by rfl) : PAt X O i (.lst .cl) e (fun _ => some []) := h.imp fun σ H Q zpat => by
  refine L2.o_EEEEEEEAAAAA (zpat) fun hid H0 ρ ow d path ds E hρ hp ht hg k => ?_
  cases hp
  obtain rfl := getP_nil hg
  refine L2.o_EEAAAA (E.at0 hi hρ) fun l vs h1 h3 h4 h5 h6 => ?_
  exact ⟨.ref l, h1, k H l vs (Same.refl H) h3 h4 h5 h6⟩
noncomputable def appP (i : Nat) (T : Ty) (ρ : Rho) (path : Option (List Int)) (d : PyData) : Option Out := path.bind fun p => ((ρ[i]?).join).bind fun t => if tyP T t p = true then (getP t p).bind fun ds => if decide (ds.length < 1000) = true then some (.nx (ρ.set i (some (setP t p (ds ++ [d]))))) else none else none
theorem s_appendP {i : Nat} {T : Ty} {x : Expr} {fp : Rho → Option (List Int)} {apos cpos : Pos} (hx : PAt X O i T x fp) (he : PV X O e f)
    (hbase : attributeBase x "append" X.env (eval x X.env) = eval x X.env := by rfl)
    (hfew : ((backTo cpos (starEach [e] X.env)).all (fun x => !x.1) && (backToKw cpos (keywordEach [] X.env)).all (fun x => x.1.isSome) && decide ([e].length + ([] : List Keyword).length + (if ([] : List Keyword).isEmpty then 0 else 1) < 30)) = true := by rfl)
    (hline : (apos.endLine == cpos.line) = true := by rfl) (hst : starEach [e] X.env = (false, eval e X.env) :: starEach [] X.env := by rfl) (hplain : (backTo cpos (starEach [] X.env)).any (·.1) = false := by rfl)
    (hs : swapsWith (.Call (.Attribute x "append" apos) [e] [] cpos) none pos.line X.env = pure false := by rfl) :
    PSv X O (.Expr (.Call (.Attribute x "append" apos) [e] [] cpos) pos) (fun ρ => (f ρ).bind (appP i T ρ (fp ρ))) :=
  (ps_expr (pe_bm PySem.F.plainAttrs_list PySem.F.slot_list_append PySem.F.type_list_append mt_append hx (pa_cons he pa_nil hst) hbase hfew hline hst hplain) hs).imp fun D σ H zpat => by
    obtain ⟨hid, H0, ρ, ow, o, E, hf, k⟩ := zpat
    obtain ⟨d, g1, g2⟩ := bind_some hf
    obtain ⟨path, g3, g4⟩ := bind_some g2
    obtain ⟨t, g5, g6⟩ := bind_some g4
    split at g6
    case isFalse => cases g6
    rename_i hty
    obtain ⟨ds, g7, g8⟩ := bind_some g6
    split at g8
    case isFalse => cases g8
    rename_i hlt
    cases g8
    refine L2.i_EEEEEEEAAAAA (hid) (H0) (ρ) (ow) (t) (path) (ds) (E) (join_some g5) (g3) (hty) (g7) (fun H1 l vs s1 hH hD hl hE => ⟨.inl ⟨rfl, vs, SqL.of hH⟩, hid, H0, ρ, ow, d, E.mono s1, g1, fun v H2 s2 Dv => ?_⟩)
    have hz : 1000 < sizeLine := by decide
    have hlt' := of_decide_eq_true hlt
    refine L2.i_EEEAAAA (l) (vs) (v) (rfl) (rfl) (s2 _ _ hH) (by rw [hD.length]; omega) (k _ _ ow ?_ (hE H2 s2 _ _ ((hD.mono (del_mono s2 _)).append (.cons Dv .nil))))
    rw [del_upd (uni_in hl)]
    exact (del_mono s1 _).trans (del_mono s2 _)
noncomputable def appD (i : Nat) (ρ : Rho) (d : PyData) : Option Out := ((ρ[i]?).join.bind listD).bind fun ds => if decide (ds.length < 1000) = true then some (.nx (ρ.set i (some (.list (ds ++ [d]))))) else none
theorem s_append {i : Nat} {x : Str} {p apos cpos : Pos} (hx : PE X (.Name x p) (tVar i)) (he : PV X O e f) (hO : O.s.lookup i = some (.lst .cl) := by rfl)
    (hbase : attributeBase (.Name x p) "append" X.env (eval (.Name x p) X.env) = eval (.Name x p) X.env := by rfl)
    (hfew : ((backTo cpos (starEach [e] X.env)).all (fun x => !x.1) && (backToKw cpos (keywordEach [] X.env)).all (fun x => x.1.isSome) && decide ([e].length + ([] : List Keyword).length + (if ([] : List Keyword).isEmpty then 0 else 1) < 30)) = true := by rfl)
    (hline : (apos.endLine == cpos.line) = true := by rfl) (hst : starEach [e] X.env = (false, eval e X.env) :: starEach [] X.env := by rfl) (hplain : (backTo cpos (starEach [] X.env)).any (·.1) = false := by rfl)
    (hs : swapsWith (.Call (.Attribute (.Name x p) "append" apos) [e] [] cpos) none pos.line X.env = pure false := by rfl) :
    PSv X O (.Expr (.Call (.Attribute (.Name x p) "append" apos) [e] [] cpos) pos) (fun ρ => (f ρ).bind (appD i ρ)) :=
  (s_appendP (at_name hx hO) he hbase hfew hline hst hplain hs).imp fun D σ H zpat => by
    obtain ⟨hid, H0, ρ, ow, o, E, hf, k⟩ := zpat
    refine ⟨hid, H0, ρ, ow, o, E, ?_, k⟩
    obtain ⟨d, g1, g2⟩ := bind_some hf
    obtain ⟨ds, g3, g4⟩ := bind_some g2
    obtain ⟨dl, g5, g6⟩ := bind_some g3
    rw [listD_some g6] at g5
    try dsimp only
    rw [g1, Option.bind_some]
    unfold appP
    rw [Option.bind_some, g5, Option.bind_some]
    exact g4
noncomputable def putD (i : Nat) (ρ : Rho) (d : PyData) : PyData → Option Out
  | .int k => ((ρ[i]?).join.bind listD).bind fun ds => (ixN ds.length k).map fun j => .nx (ρ.set i (some (.list (ds.set j d))))
  | _ => none
noncomputable def putO (i : Nat) (ρ : Rho) (x k : Option PyData) : Option Out := x.bind fun d => k.bind (putD i ρ d)
end
theorem lookTy_mem : ∀ {l : List (Nat × Ty)} {i : Nat} {t : Ty}, l.lookup i = some t → i ∈ l.map (·.1)
  | [], _, _, h => by cases h
  | (j, u) :: r, i, t, h => by
    rw [List.lookup_cons] at h
    by_cases hj : (i == j) = true
    · rw [beq_iff_eq] at hj; subst hj; exact List.mem_cons_self
    · rw [Bool.not_eq_true] at hj
      rw [hj] at h
      exact List.mem_cons_of_mem _ (lookTy_mem h)
noncomputable def CdOk (K : PySem.W.Frag) (f : Addr) (cdv : Value) : Prop := ∃ oc od fd osl, K.lookup f = some ⟨oc, od, .func fd, osl⟩ ∧ fd.code = cdv
theorem fn_okC {P : Program} {w : World} {K : PySem.W.Frag} {mg : Str → Option Value} {base : Heap} {x qual : Str} {st : Stmt} {f : Addr} {fd : FuncData} {N ps : List Str} {k : Nat} {sp : Sp} (F : Fun K x qual st f fd) (S : FnScope N ps (defScope st)) (len : ∀ vs H Q E, sp vs H Q E → vs.length = ps.length)
    (body : ∀ cdv, CdOk K f cdv → ∀ A outer s H vs Q E, Room k (A.deeper (envOfC qual (defScope st) s.heap.objs.size f cdv)) → sp vs H Q E → ∃ t, PSs (cxOf CX0 P w K mg base N qual (defScope st) f cdv A outer s H E).nox (defBody st) t ∧ t { nx := fun _ H' => Q .non H', rt := Q } (start N vs) H) : FnOk P w K mg base CX0 (k + 1) f fd ps sp := by
  refine L2.o_EEEEEEEEEAA (F.ex) fun a1 a2 a3 a4 a5 a6 cdv a7 a8 e lk hc => ?_
  subst e
  exact fn_of lk hc S len fun A outer s H vs Q E hr hs => by
    refine L2.o_EA (body cdv ⟨_, _, _, _, lk, rfl⟩ A outer s H vs Q E hr hs) fun t h1 h2 => ?_
    exact ⟨t, h1.nox, h2⟩
theorem fn_pure {P : Program} {w : World} {K : PySem.W.Frag} {mg : Str → Option Value} {base : Heap} {x qual : Str} {st : Stmt} {f : Addr} {fd : FuncData} {N ps : List Str} {k : Nat} {Fs : List PyData → Option PyData} (O : Ow) (F : Fun K x qual st f fd) (S : FnScope N ps (defScope st))
    (hl : ∀ ds r, Fs ds = some r → ds.length = ps.length)
    (hO : ∀ i ∈ O.s.map (·.1), ps.length ≤ i) (B : Rho → Option Out)
    (hbody : ∀ (cdv : Value), CdOk K f cdv → ∀ (A : Around) (outer : List Env) (s : Shared) (H : Hp) (E : XK), Room k (A.deeper (envOfC qual (defScope st) s.heap.objs.size f cdv)) →
      PSsv (cxOf CX0 P w K mg base N qual (defScope st) f cdv A outer s H E).nox O (defBody st) B)
    (hs : ∀ ds r, Fs ds = some r → B (ds.map some ++ List.replicate (N.length - ds.length) none) = some (.rt r) ∨ (r = .none ∧ ∃ ρ, B (ds.map some ++ List.replicate (N.length - ds.length) none) = some (.nx ρ))) :
    FnOk P w K mg base CX0 (k + 1) f fd ps (spR K O.r Fs) := by
  refine fn_okC F S (fun vs H Q E h => ?_) (fun cdv hk A outer s H vs Q E hr h => ?_)
  · refine L2.o_EEEAAA (h) fun hid ds r _ D hf _ => ?_
    rw [D.length]
    exact hl ds r hf
  · refine L2.o_EEEAAA (h) fun hid ds r hh D hf q => ?_
    refine ⟨_, hbody cdv hk A outer s H E hr, ?_⟩
    have hdl := D.length
    have hpl := hl ds r hf
    have E0 : EnvOk K O hid H (start N vs) H (ds.map some ++ List.replicate (N.length - ds.length) none) [] := by
      have get : ∀ (i : Nat) (d : PyData), (ds.map some ++ List.replicate (N.length - ds.length) none)[i]? = some (some d) → i < ds.length ∧ ∃ v, (start N vs)[i]? = some (some v) ∧ Den K (del H hid) v d := fun i d e => by
        by_cases hi : i < ds.length
        · rw [List.getElem?_append_left (by simpa using hi), List.getElem?_map] at e
          cases q : ds[i]? with
          | none => rw [q] at e; cases e
          | some d' =>
            rw [q] at e
            cases e
            refine L2.o_EA (D.get q) fun v h1 h2 => ?_
            refine ⟨hi, v, ?_, h2⟩
            unfold start
            rw [List.getElem?_append_left (by simpa [hdl] using hi), List.getElem?_map, h1]
            rfl
        · rw [List.getElem?_append_right (by simpa using Nat.le_of_not_lt hi), List.getElem?_replicate] at e
          split at e <;> cases e
      refine ⟨by unfold start; simp [hdl], fun b o e => by rw [del_out (by simp)]; exact e, fun i d hi e => ?_, ⟨fun _ => [], fun i t d hi e => ?_, fun i j p _ z => (by cases z), fun i p z => (by cases z)⟩, fun l z => (by cases z), hh, fun _ => rfl⟩
      · refine L2.o_AEA (get i d e) fun _ v h1 h2 => ?_
        exact ⟨v, h1, by rw [uni_nil]; exact h2⟩
      · have := (get i d e).1
        have := hO i (lookTy_mem hi)
        omega
    rcases hs ds r hf with h | ⟨rfl, ρ, h⟩
    · exact ⟨hid, H, _, [], _, E0, h, fun v as H' s' n Dv => q v as H' s' n Dv⟩
    · exact ⟨hid, H, _, [], _, E0, h, fun σ' H' ow' s' E' => q .non [] H' E'.baseS (fun p hp => by cases hp) .non⟩
end L2
namespace L2
open PySem PySem.Spec PyProof.Rows
variable [Reg]
noncomputable def tyD : PyData → String
  | .none => "NoneType"
  | .bool _ => "bool"
  | .int _ => "int"
  | .str _ => "str"
  | .list _ => "list"
  | .tuple _ => "tuple"
  | .dict _ => "dict"
noncomputable def subT (t T : String) : Bool := t == T || (t == "bool" && T == "int")
theorem kit_bi (K : PySem.W.Frag) : ∀ t ∈ ["NoneType", "bool", "int", "str", "list", "tuple"], ∀ T ∈ ["bool", "int", "str", "list", "tuple"], PySem.W.kitOne K (.type t) (.type T) = some (subT t T) := by
  intro t ht T hT
  simp only [List.mem_cons, List.not_mem_nil, or_false] at ht hT
  rcases ht with rfl | rfl | rfl | rfl | rfl | rfl <;> rcases hT with rfl | rfl | rfl | rfl | rfl <;> rfl
noncomputable def isD (T : String) : PyData → Option PyData
  | .dict _ => none
  | d => some (.bool (subT (tyD d) T))
theorem isD_some {T : String} {d r : PyData} (h : isD T d = some r) : r = .bool (subT (tyD d) T) := by
  cases d <;> first | (cases h; rfl) | cases h
noncomputable def rIsi (K : PySem.W.Frag) (T : String) : List V → Hp → VK → Prop := fun xs H Q => ∃ x d, xs = [x, .ty T] ∧ Den K H x d ∧ isD T d ≠ none ∧ Q (.bl (subT (tyD d) T)) H
theorem call_isi {X : Cx} {T : String} (hT : T ∈ ["bool", "int", "str", "list", "tuple"]) : CallR X (.builtin "isinstance") (rIsi X.K T) := by
  intro pins s σ H xs us Q I r h
  revert h
  refine fun zqq => L2.o_EEAAA zqq fun x d zq2 D hnd q => ?_
  clear zqq
  subst zq2
  refine L2.o_EEAA (r.two) fun u c zq2 rx rc => ?_
  subst zq2
  cases (show c = Value.type T from rc)
  have fin : ∀ tk, EP X pins σ Q (.bool (subT (tyD d) T)) { s with toks := tk } := fun tk => ⟨.bl _, H, I.tok tk, rfl, q⟩
  cases D with
  | non => cases (show u = Value.none from rx); exact PySem.W.kia_one PySem.W.kitx_none I.kIn True.intro (kit_bi X.K "NoneType" (by simp) T hT) (fun z => nomatch z) fin
  | bl b => cases (show u = Value.bool b from rx); exact PySem.W.kia_one PySem.W.kitx_bool I.kIn True.intro (kit_bi X.K "bool" (by simp) T hT) (fun z => nomatch z) fin
  | int i => obtain ⟨t, q⟩ := (show ∃ t, u = Value.int i t from rx); cases q; exact PySem.W.kia_one PySem.W.kitx_int I.kIn True.intro (kit_bi X.K "int" (by simp) T hT) (fun z => nomatch z) fin
  | str y => obtain ⟨t, q⟩ := (show ∃ t, u = Value.str y t from rx); cases q; exact PySem.W.kia_one PySem.W.kitx_str I.kIn True.intro (kit_bi X.K "str" (by simp) T hT) (fun z => nomatch z) fin
  | @lst a vs ds hq hr =>
    cases (show u = Value.ref a from rx)
    obtain ⟨its, _, ⟨o, n, e, c, _⟩, _⟩ := I.list hq
    exact PySem.W.kia_one PySem.W.kitx_list I.kIn ⟨o, e, c⟩ (kit_bi X.K "list" (by simp) T hT) (fun z => nomatch z) fin
  | fn _ _ => exact absurd rfl hnd
  | exc _ _ => exact absurd rfl hnd
  | obj _ _ => exact absurd rfl hnd
  | @tup a vs ds hq hr =>
    cases (show u = Value.ref a from rx)
    obtain ⟨its, _, ⟨o, e, c, _⟩, _⟩ := I.tuple hq
    exact PySem.W.kia_one PySem.W.kitx_tuple I.kIn ⟨o, e, c⟩ (kit_bi X.K "tuple" (by simp) T hT) (fun z => nomatch z) fin
theorem v_isi {X : Cx} {O : Ow} {e : Expr} {f : Rho → Option PyData} {p p2 pos : Pos} {T : Str} (Ts : String) (he : PR X O e f) (hT : Ts ∈ ["bool", "int", "str", "list", "tuple"]) (hg : Gl X "isinstance") (hm : X.mg "isinstance" = none) (hgT : Gl X T) (hmT : X.mg T = none) (hvT : bootBuiltins T = some (.type Ts))
    (hn : T ≠ "__name__" := by decide) (hd : (T == ("__debug__" : Str)) = false := by decide) (h1 : starEach [e, .Name T p2] X.env = (false, eval e X.env) :: starEach [.Name T p2] X.env := by rfl) (h2 : starEach [.Name T p2] X.env = (false, eval (.Name T p2) X.env) :: starEach [] X.env := by rfl)
    (hpl : (backTo pos (starEach [.Name T p2] X.env)).any (·.1) = false := by rfl) : PV X O (.Call (.Name "isinstance" p) [e, .Name T p2] [] pos) (fun ρ => (f ρ).bind (isD Ts)) :=
  (pe_callB (call_isi hT) hg hm PyProof.Rows.boot_isinstance (pa_cons he (pa_cons (pe_bltn (v := .ty Ts) hgT hmT hvT rfl hn hd) pa_nil h2) h1) (by decide) (by decide) h1 hpl).imp fun σ H Q zpat => by
    obtain ⟨hid, H0, ρ, ow, r, E, hf, k⟩ := zpat
    obtain ⟨d, g1, g2⟩ := bind_some hf
    refine ⟨hid, H0, ρ, ow, d, E, g1, fun v H' s D => ⟨v, d, rfl, D.mono (del_same _ _), (fun z => by rw [z] at g2; cases g2), ?_⟩⟩
    have := isD_some g2
    subst this
    exact k _ H' s (.bl _)
end L2
namespace L2
open PySem PySem.Spec PyProof.Rows
variable [Reg]
section
variable {X : Cx} {O : Ow} {i : Nat} {x : Str} {pos' spos : Pos} {elt tg iter : Expr} {ifs : List Expr} {scope : Scope} {pos : Pos} {fi : Rho → Option (List PyData)} {S : PyData → Rho → Option Rho} {ft : Rho → Option Bool} {fe : Rho → Option PyData} {k : Nat} {N : List Str} {ix : List Nat}
theorem s_asgT {st : Stmt} {T : Ty} {f : Rho → Option PyData} (h : PS X st (tAsg (tFt X.K O T f) (gName i))) (hO : O.s.lookup i = some T ∨ (O.s.lookup i = none ∧ T = .cl)) : PSv X O st (fun ρ => setO i ρ (f ρ)) := h.imp fun D σ H zpat => by
  obtain ⟨hid, H0, ρ, ow, o, E, hf, k⟩ := zpat
  obtain ⟨d, g1, rfl⟩ := map_some hf
  rcases hO with hO | ⟨hO, rfl⟩
  · refine ⟨hid, H0, ρ, ow, d, E, g1, fun v as H' s n Dv => k _ H' (as ++ ow) ?_ (E.setT s hO n Dv)⟩
    intro b u z
    by_cases hb : uni hid ow b
    · rw [del_in hb] at z; cases z
    · rw [del_out hb] at z
      rw [del_out fun y => ?_]
      · exact s b u z
      · rcases y with y | y
        · exact hb (.inl y)
        · rcases List.mem_append.mp y with y | y
          · rw [n b y] at z; cases z
          · exact hb (.inr y)
  · refine ⟨hid, H0, ρ, ow, d, E, g1, fun v as H' s n Dv => k _ H' ow (del_mono s _) ((E.mono s).set hO (Dv.den.mono (del_sub (uni_mono fun p hp => List.mem_append_right _ hp))))⟩
theorem tFr_ft {K : PySem.W.Frag} {f : Rho → Option (List PyData)} : ∀ σ H Q, tFt K O (.lst .cl) (fun ρ => ((f ρ).filter lf.go).map .list) σ H Q → tFr K O f σ H Q := fun σ H Q zpat => by
  obtain ⟨hid, H0, ρ, ow, d, E, hf, k⟩ := zpat
  obtain ⟨ds, h1, rfl⟩ := map_some hf
  refine L2.o_A (Option.filter_eq_some_iff.mp h1) fun h1 h2 => ?_
  refine ⟨hid, H0, ρ, ow, ds, E, h1, fun l vs H' s n q D => k (.ref l) [l] H' s (fun p hp => by rw [List.mem_singleton.mp hp]; exact n) (.lst q (((D.mono (del_uni _ _ _)).clean (fun l2 h2 => ?_) h2).os) (by simp))⟩
  rcases List.mem_cons.mp h2 with rfl | h2
  · exact ⟨vs, q⟩
  · exact (E.mono s).lists l2 h2
theorem s_setCO (hN : X.N.Nodup) (hi' : X.N[i]? = some x) (hx' : Loc X.env.scope x) (sc : Scope) (hsc : X.env.scope = sc) (C : CompSc sc X.N scope k N ix)
    (hx : X.xe = fun _ _ => False) (hc : X.calm = true) (hi : PIr X O tg iter fi)
    (hg : ∀ cl C s3 H3 fp pins, PGv (cxComp X N scope cl C s3 H3 fp pins) O0 tg S) (ht : ∀ cl C s3 H3 fp pins, PIfv (cxComp X N scope cl C s3 H3 fp pins) ifs ft) (he : ∀ cl C s3 H3 fp pins, PR (cxComp X N scope cl C s3 H3 fp pins) O0 elt fe) (hO : O.s.lookup i = some (.lst .cl) := by rfl)
    (hsw : swapsWith (.ListComp elt [⟨tg, iter, ifs, 0⟩] scope pos) (some (.Name x pos')) spos.line X.env = pure true := by rfl) (hf : X.fn x = true ∨ X.env.scope.names.lookup x = some .local := by first | exact .inl rfl | exact .inr rfl | assumption)
    (hs : ∀ x, foldedSetIterable iter X.env x = pure x := by intro _; rfl) : PSv X O (.Assign [.Name x pos'] (.ListComp elt [⟨tg, iter, ifs, 0⟩] scope pos) spos) (fun ρ => setO i ρ (((compO S ft fe (fi ρ) (frees k ix ρ)).filter lf.go).map .list)) :=
  s_asgT ((ps_setC (g := tG X.K O0 S) (tc := tT X.K O0 ft) (te := tR X.K O0 fe) hN hi' hx' sc hsc C hx hc hi hg ht he hsw hf hs).imp fun D σ H h => comp_imp σ H _ (tFr_ft σ H _ h)) (.inl hO)
end
section
variable {X : Cx} {O : Ow} {i : Nat} {e a : Expr} {f fa : Rho → Option PyData} {pos p : Pos}
noncomputable def tO (K : PySem.W.Frag) (O : Ow) (f : Rho → Option (Option Int)) : TO := fun σ H Q => At5 K O f σ H fun hid H0 ρ ow o => ∀ H', Same H H' → Q o H'
noncomputable abbrev POv (X : Cx) (O : Ow) (e : Option Expr) (f : Rho → Option (Option Int)) : Prop := PO X e (tO X.K O f)
noncomputable def intO : PyData → Option Int
  | .int i => some i
  | _ => none
theorem intO_some {d : PyData} {i : Int} (h : intO d = some i) : d = .int i := by
  unfold intO at h
  split at h
  · cases h; rfl
  · cases h
theorem PO.imp {e : Option Expr} {t t' : TO} (h : PO X e t) (hi : ∀ σ H Q, t' σ H Q → t σ H Q) : PO X e t' := fun pins s σ H Q I q => h pins s σ H Q I (hi σ H Q q)
theorem o_none : POv X O none (fun _ => some none) := PO.imp po_none fun σ H Q ⟨hid, H0, ρ, ow, o, E, hf, k⟩ => by cases hf; exact k H (Same.refl H)
theorem o_some (h : PR X O e f) : POv X O (some e) (fun ρ => ((f ρ).bind intO).map some) := PO.imp (po_some h) fun σ H Q zpat => by
  obtain ⟨hid, H0, ρ, ow, o, E, hf, k⟩ := zpat
  obtain ⟨i, g1, rfl⟩ := map_some hf
  obtain ⟨d, g2, g3⟩ := bind_some g1
  rw [intO_some g3] at g2
  exact ⟨hid, H0, ρ, ow, _, E, g2, fun v H' s D => ⟨i, den_int D, k H' s⟩⟩
noncomputable def intsO : List PyData → Option (List Int)
  | [] => some []
  | .int i :: r => (intsO r).map (i :: ·)
  | _ :: _ => none
theorem intsO_map : ∀ (ns : List Int), intsO (ns.map .int) = some ns
  | [] => rfl
  | n :: r => by rw [List.map_cons, intsO, intsO_map r]; rfl
theorem intsO_some : ∀ {ds : List PyData} {ns : List Int}, intsO ds = some ns → ds = ns.map .int
  | [], ns, h => by cases h; rfl
  | d :: r, ns, h => by
    cases d with
    | int i =>
      rw [intsO] at h
      obtain ⟨ms, h1, rfl⟩ := map_some h
      rw [List.map_cons, ← intsO_some h1]
    | _ => cases h
theorem DenL.isInts {K : PySem.W.Frag} {H : Hp} : ∀ {vs : List V} {ns : List Int}, DenL K H vs (ns.map .int) → vs = ns.map .int
  | _, [], h => denl_nil h
  | vs, n :: r, h => by
    refine L2.o_EEAA (denl_cons h) fun v ws zq2 h1 h2 => ?_
    subst zq2
    rw [den_int h1, DenL.isInts h2]
    rfl
theorem DenL.rev {K : PySem.W.Frag} {H : Hp} : ∀ {vs : List V} {ds : List PyData}, DenL K H vs ds → DenL K H vs.reverse ds.reverse
  | _, _, .nil => .nil
  | _, _, .cons h r => by
    rw [List.reverse_cons, List.reverse_cons]
    exact (DenL.rev r).append (.cons h .nil)
theorem vals_rev : ∀ {vs : List V} {us : List Value}, Vals vs us → Vals vs.reverse us.reverse := fun r => r.reverse
noncomputable def revD : PyData → Option (List PyData)
  | .list ds => some ds.reverse
  | _ => none
end
end L2
namespace L2
open PySem PySem.Spec PyProof.Rows
variable [Reg]
noncomputable def natAt (ρ : Rho) (i : Nat) : Nat := match (ρ[i]?).join with
  | some (.int k) => k.natAbs
  | some (.list ds) => ds.length
  | _ => 0
theorem bt_len : bootBuiltins "len" = some (.builtin "len") := by decide +kernel
theorem bt_abs : bootBuiltins "abs" = some (.builtin "abs") := by decide +kernel
theorem bt_min : bootBuiltins "min" = some (.builtin "min") := by decide +kernel
theorem bt_int : bootBuiltins "int" = some (.type "int") := by decide +kernel
theorem bt_bool : bootBuiltins "bool" = some (.type "bool") := by decide +kernel
theorem bt_str : bootBuiltins "str" = some (.type "str") := by decide +kernel
theorem bt_list : bootBuiltins "list" = some (.type "list") := by decide +kernel
theorem bt_tuple : bootBuiltins "tuple" = some (.type "tuple") := by decide +kernel
noncomputable def outD : Option Out → Option PyData
  | some (.rt r) => some r
  | some (.nx _) => some .none
  | _ => none
noncomputable def runD (n m : Nat) (B : Rho → Option Out) (ds : List PyData) : Option PyData := if ds.length = n then outD (B (ds.map some ++ List.replicate m none)) else none
theorem runD_some {n m : Nat} {B : Rho → Option Out} {ds : List PyData} {r : PyData} (h : runD n m B ds = some r) : ds.length = n ∧ outD (B (ds.map some ++ List.replicate m none)) = some r := by
  unfold runD at h
  split at h
  · exact ⟨by assumption, h⟩
  · cases h
theorem fn_auto {P : Program} {w : World} {K : PySem.W.Frag} {mg : Str → Option Value} {base : Heap} {x qual : Str} {st : Stmt} {f : Addr} {fd : FuncData} {N ps : List Str} {k : Nat} (O : Ow) (F : Fun K x qual st f fd) (S : FnScope N ps (defScope st))
    (hO : ∀ i ∈ O.s.map (·.1), ps.length ≤ i) (B : Rho → Option Out)
    (hbody : ∀ (cdv : Value), CdOk K f cdv → ∀ (A : Around) (outer : List Env) (s : Shared) (H : Hp) (E : XK), Room k (A.deeper (envOfC qual (defScope st) s.heap.objs.size f cdv)) →
      PSsv (cxOf CX0 P w K mg base N qual (defScope st) f cdv A outer s H E).nox O (defBody st) B) :
    FnOk P w K mg base CX0 (k + 1) f fd ps (spR K O.r (runD ps.length (N.length - ps.length) B)) := by
  refine fn_pure O F S (fun ds r h => (runD_some h).1) hO B hbody fun ds r h => ?_
  refine L2.o_A (runD_some h) fun h1 h2 => ?_
  rw [h1]
  unfold outD at h2
  split at h2
  · rename_i q
    cases h2
    exact .inl q
  · rename_i ρ q
    cases h2
    exact .inr ⟨rfl, ρ, q⟩
  · cases h2
noncomputable def DefOk (P : Program) (w : World) (K : PySem.W.Frag) (mg : Str → Option Value) (base : Heap) (k : Nat) (x : Str) (ps : List Str) (T : Ty) (F : List PyData → Option PyData) : Prop :=
  ∃ f fd, FnOk P w K mg base CX0 k f fd ps (spR K T F) ∧ mg x = some (.ref f) ∧ PySem.W.keepIn K (.ref f) = true ∧ Binds K fd ps [] ∧ PySem.W.nsIn K mainGlobals x = some (some (.ref f))
section
variable {X : Cx} {O : Ow} {a : Expr} {es : List Expr} {pos p : Pos} {fs : Rho → Option (List PyData)} {k : Nat} {ps : List Str} {x : Str} {T : Ty} {F : List PyData → Option PyData}
theorem r_callD (G : DefOk X.prog X.w X.K X.mg X.base k x ps T F) (hr : Room k X.A) (hg : Gl X x) (ha : PAr X O (a :: es) fs) (hdb : (x == ("__debug__" : Str)) = false := by decide) (he : starEach (a :: es) X.env = (false, eval a X.env) :: starEach es X.env := by rfl) (hpl : (backTo pos (starEach es X.env)).any (·.1) = false := by rfl) :
    PR X O (.Call (.Name x p) (a :: es) [] pos) (fun ρ => (fs ρ).bind F) := by
  refine L2.o_EEAAAA (G) fun f fd h1 h2 h3 h4 _ => ?_
  exact r_call h1 hr hg h2 h3 h4 ha hdb he hpl
theorem v_callD (G : DefOk X.prog X.w X.K X.mg X.base k x ps T F) (hr : Room k X.A) (hg : Gl X x) (ha : PAv X O (a :: es) fs) (hdb : (x == ("__debug__" : Str)) = false := by decide) (he : starEach (a :: es) X.env = (false, eval a X.env) :: starEach es X.env := by rfl) (hpl : (backTo pos (starEach es X.env)).any (·.1) = false := by rfl) :
    PV X O (.Call (.Name x p) (a :: es) [] pos) (fun ρ => (fs ρ).bind F) := by
  refine L2.o_EEAAAA (G) fun f fd h1 h2 h3 h4 _ => ?_
  exact v_call h1 hr hg h2 h3 h4 ha hdb he hpl
theorem ft_callD (G : DefOk X.prog X.w X.K X.mg X.base k x ps T F) (hr : Room k X.A) (hg : Gl X x) (ha : PAv X O (a :: es) fs) (hdb : (x == ("__debug__" : Str)) = false := by decide) (he : starEach (a :: es) X.env = (false, eval a X.env) :: starEach es X.env := by rfl) (hpl : (backTo pos (starEach es X.env)).any (·.1) = false := by rfl) :
    PFt X O T (.Call (.Name x p) (a :: es) [] pos) (fun ρ => (fs ρ).bind F) := by
  refine L2.o_EEAAAA (G) fun f fd h1 h2 h3 h4 _ => ?_
  exact ft_call h1 hr hg h2 h3 h4 ha hdb he hpl
end
theorem len0 {P : List Value → Prop} {us : List Value} (h : us.length = 0) (k : P []) : P us := by
  cases us with
  | nil => exact k
  | cons a r => cases h
theorem lenS {P : List Value → Prop} {us : List Value} {n : Nat} (h : us.length = n + 1) (k : ∀ a r, r.length = n → P (a :: r)) : P us := by
  cases us with
  | nil => cases h
  | cons a r => exact k a r (Nat.succ.inj h)
theorem len1 {P : List Value → Prop} {us : List Value} (h : us.length = 1) (k : ∀ a, P [a]) : P us := lenS h fun a r h => len0 (P := fun r => P (a :: r)) h (k a)
theorem len2 {P : List Value → Prop} {us : List Value} (h : us.length = 2) (k : ∀ a b, P [a, b]) : P us := lenS h fun a r h => len1 (P := fun r => P (a :: r)) h (k a)
theorem len3 {P : List Value → Prop} {us : List Value} (h : us.length = 3) (k : ∀ a b c, P [a, b, c]) : P us := lenS h fun a r h => len2 (P := fun r => P (a :: r)) h (k a)
end L2
namespace L2
open PySem PySem.Spec PyProof.Rows
variable [Reg]
noncomputable def Keeps (P : Program) (w : World) (h : Heap) (g : Addr) : Prop := ∃ k, (k = Keeper.frame ∨ k = Keeper.machine ∨ k = Keeper.boundFrame) ∧ PySem.W.Looks (model P w) h (keeperOf (.ref g)) k
structure FvOk (P : Program) (w : World) (K : PySem.W.Frag) (mg : Str → Option Value) (base : Heap) (k : Nat) (tag : Str) (F : List PyData → Option PyData) : Prop where
  keep : ∀ (A : Around) (outer : List Env) (s : Shared) (H : Hp) (g : Addr) (cv : List V), Env0 P w K mg base A outer s H → FnV K H g tag cv → Keeps P w s.heap g
  run : ∀ (A : Around) (outer : List Env) (s : Shared) (H : Hp) (g : Addr) (cv : List V) (us : List Value) (vs : List V) (Q : VK) (E : XK), Room k A → Env0 P w K mg base A outer s H → FnV K H g tag cv → Vals vs us → spR K .cl F (vs ++ cv) H Q E →
    codeAny (model P w) A (.call (.ref g) ⟨us, []⟩) (CR CX0 outer P w H s Q E) s
theorem FvOk.mono {P : Program} {w : World} {K : PySem.W.Frag} {mg : Str → Option Value} {base : Heap} {j k : Nat} {tag : Str} {F : List PyData → Option PyData} (h : FvOk P w K mg base j tag F) (hk : j ≤ k) : FvOk P w K mg base k tag F :=
  ⟨h.keep, fun A outer s H g cv us vs Q E hr => h.run A outer s H g cv us vs Q E (hr.mono hk)⟩
noncomputable abbrev FTab := List (Str × (List PyData → Option PyData))
section
variable {X : Cx} {O : Ow} {a : Expr} {es : List Expr} {pos p : Pos} {fs : Rho → Option (List PyData)} {fx : Rho → Option PyData} {k : Nat} {ps : List Str} {x : Str} {T : FTab} {T' : Ty} {F : List PyData → Option PyData}
end
end L2
namespace L2
open PySem PySem.Spec PyProof.Rows
variable [Reg]
theorem lam_q {P q : Program} (h : ((lamNames P).all fun y => ((recsOf q).find? fun e => e.name == y).isSome) = true) : ∀ y ∈ lamNames P, ((recsOf q).find? fun e => e.name == y).isSome = true := List.all_eq_true.mp h
theorem lam_k {P : Program} {K : PySem.W.Frag} (h : ((lamNames P).all fun y => match PySem.W.tabIn K y with | some z => (K.lookup z.2).isNone | none => true) = true) (y : Str) (c p : Addr) (hy : y ∈ lamNames P) (e : PySem.W.tabIn K y = some (c, p)) : K.lookup p = none := by
  have := List.all_eq_true.mp h y hy
  rw [e] at this
  simpa using this
structure LamSc (L : Lam) : Prop where
  kind : L.scope.kind = .function
  co : L.scope.isCoroutine = false
  gen : L.scope.isGenerator = false
  nocell : ∀ y ∈ L.scope.names, y.2 ≠ .cell
  par : ∀ x ∈ L.ps, L.scope.names.lookup x = some .local
  fr : ((L.scope.names.filter fun x => x.2 == .free).map (fun z => z.1)).reverse = L.free
  frl : ∀ x ∈ L.free, L.scope.names.lookup x = some .free
  nd : L.ps.Nodup
  ndf : L.free.Nodup
section
variable {P : Program} {w : World} {K : PySem.W.Frag} {mg : Str → Option Value} {base : Heap} {L : Lam} {clos : List (Str × Addr)} {g c' : Addr} {q : Str} {A : Around} {outer : List Env} {s : Shared} {H : Hp}
end
section
variable {X : Cx}
noncomputable def Made (H : Hp) (L : Lam) (clos : List (Str × Addr)) (g : Addr) : Prop :=
  ∃ (pm : Value) (c' : Addr) (ctv : Value) (oc : Obj) (vs : Array Value) (q : Str) (t : Tok) (φ : HO), H g = some (fz g (PySem.W.kla_obj "<lambda>" L.qual L.params L.body L.scope clos pm c' ctv)) ∧ H c' = some (.frz oc φ) ∧ oc.data = .fields vs ∧ vs[1]? = some (.str q t)
theorem Made.mono {H H' : Hp} {L : Lam} {clos : List (Str × Addr)} {g : Addr} (e : Same H H') (h : Made H L clos g) : Made H' L clos g := by
  refine L2.o_EEEEEEEEAA (h) fun pm c' ctv oc vs q t φ h1 h2 h3 => ?_
  exact L2.i_EEEEEEEEAA (pm) (c') (ctv) (oc) (vs) (q) (t) (φ) (e _ _ h1) (e _ _ h2) (h3)
end
section
variable {X : Cx} {O : Ow}
noncomputable def nf : PyData → Bool
  | .dict _ => false
  | .list ds => go ds
  | .tuple ds => go ds
  | _ => true
where go : List PyData → Bool
  | [] => true
  | d :: r => nf d && go r
theorem SqT.sub {K : PySem.W.Frag} {G G' : Hp} (e : ∀ a o, G a = some o → (∀ ob φ, o ≠ .frz ob (.ext φ)) → G' a = some o) {a : Addr} {vs : List V} (q : SqT K G a vs) : SqT K G' a vs := by
  rcases q with (q | ⟨o, q⟩) | q
  · exact .inl (.inl (e _ _ q fun _ _ z => by cases z))
  · exact .inl (.inr ⟨o, e _ _ q fun _ _ z => by cases z⟩)
  · exact .inr q
theorem SqL.sub {K : PySem.W.Frag} {G G' : Hp} (e : ∀ a o, G a = some o → (∀ ob φ, o ≠ .frz ob (.ext φ)) → G' a = some o) {a : Addr} {vs : List V} (q : SqL K G a vs) : SqL K G' a vs := by
  rcases q with (q | ⟨o, q⟩) | q
  · exact .inl (.inl (e _ _ q fun _ _ z => by cases z))
  · exact .inl (.inr ⟨o, e _ _ q fun _ _ z => by cases z⟩)
  · exact .inr q
theorem Den.sub {K : PySem.W.Frag} {G G' : Hp} (e : ∀ a o, G a = some o → (∀ ob φ, o ≠ .frz ob (.ext φ)) → G' a = some o) {v : V} {d : PyData} (z : Den K G v d) : nf d = true → Den K G' v d :=
  Den.rec (motive_1 := fun v d _ => nf d = true → Den K G' v d) (motive_2 := fun vs ds _ => nf.go ds = true → DenL K G' vs ds) (fun _ => .non) (fun b _ => .bl b) (fun i _ => .int i) (fun x _ => .str x) (fun q _ r h => .tup (q.sub e) (r h)) (fun q _ r h => .lst (q.sub e) (r h)) (fun _ _ _ h => by cases h) (fun _ _ _ h => by cases h) (fun _ _ _ h => by cases h) (fun _ => .nil) (fun _ _ a b h => by rw [nf.go, Bool.and_eq_true] at h; exact .cons (a h.1) (b h.2)) z
theorem DenL.sub {K : PySem.W.Frag} {G G' : Hp} (e : ∀ a o, G a = some o → (∀ ob φ, o ≠ .frz ob (.ext φ)) → G' a = some o) {vs : List V} {ds : List PyData} (z : DenL K G vs ds) : nf.go ds = true → DenL K G' vs ds :=
  DenL.rec (motive_1 := fun v d _ => nf d = true → Den K G' v d) (motive_2 := fun vs ds _ => nf.go ds = true → DenL K G' vs ds) (fun _ => .non) (fun b _ => .bl b) (fun i _ => .int i) (fun x _ => .str x) (fun q _ r h => .tup (q.sub e) (r h)) (fun q _ r h => .lst (q.sub e) (r h)) (fun _ _ _ h => by cases h) (fun _ _ _ h => by cases h) (fun _ _ _ h => by cases h) (fun _ => .nil) (fun _ _ a b h => by rw [nf.go, Bool.and_eq_true] at h; exact .cons (a h.1) (b h.2)) z
structure LamAtX (X : Cx) (L : Lam) (ix : List Nat) : Prop where
  tab : ∃ y c p, y ∈ lamNames X.prog ∧ PySem.W.tabIn X.K y = some (c, p) ∧ X.env.code = .ref c
  qual : X.env.qual ++ "<lambda>" = L.qual
  dfl : defaultsOf L.params X.env = ([], [])
  cell : ∀ x ∈ L.free, X.env.scope.names.lookup x = some .cell
  fn : ∀ x ∈ L.free, X.fn x = true
  sl : ix.map (fun i => X.N[i]?) = L.free.map some
end
end L2
namespace L2
open PySem PySem.Spec PyProof.Rows
open Sem (wp)
variable [Reg]
section
variable {M : Model} {A : Around} {E : Value → Shared → Prop} {s : Shared} {env : Env} {outer : List Env} {base : Heap} {L e : Addr} {oe : Obj} {vs : Array Value} {Q : Unit → Shared → Prop}
structure Noted (fs : List Addr) (e : Addr) (oe : Obj) (fl : Value) (h h' : Heap) : Prop where
  exc : h'.get? e = some (oe.mapFields (·.setIfInBounds 1 (.ref h.objs.size)))
  tb : ∃ oT ts, h'.get? h.objs.size = some oT ∧ oT.data = .fields ts ∧ ts[3]? = some fl
  keep : ∀ b o, b ≠ e → b ∉ fs → h.get? b = some o → h'.get? b = some o
  slot : ∀ b o, b ≠ e → h.get? b = some o → ∃ sl, h'.get? b = some { o with slots := sl }
noncomputable def Tr (h : Heap) (vs : Array Value) : Prop := vs[1]? = some .none ∨ ∃ T oT ts, vs[1]? = some (.ref T) ∧ h.get? T = some oT ∧ oT.data = .fields ts ∧ ts[3]? = some .none
end
structure FlyC (H : Hp) (h G : Heap) (e C : Addr) (od : Option Addr) : Prop where
  ex : ∃ oe vs, h.get? e = some oe ∧ oe.cls = .ref C ∧ oe.dict = od ∧ oe.data = .fields vs ∧ Tr h vs
  fre : H e = none
  new : G.get? e = none
structure Fly (X : Cx) (pins : List (Addr × Obj)) (H : Hp) (s : Shared) (e C : Addr) (od : Option Addr) : Prop where
  c : FlyC H s.heap X.s₀.heap e C od
  pin : ∀ p ∈ X.pn ++ pins, p.1 ≠ e
noncomputable def CXe (P : Program) (w : World) : CXT := fun outer H s E e s' => ∃ H' a C od, e = .ref a ∧ s'.os = s.os ∧ AllBare s'.gens ∧ Un (frs outer) [] H H' s.heap s'.heap ∧ HOk P w H' s'.heap ∧ FlyC H' s'.heap s.heap a C od ∧ E (.ref C) od H'
theorem Tr.sz {h : Heap} {vs : Array Value} (t : Tr h vs) : 1 < vs.size := by
  rcases t with t | ⟨_, _, _, t, _⟩
  · exact (Array.getElem?_eq_some_iff.mp t).1
  · exact (Array.getElem?_eq_some_iff.mp t).1
section
variable {P : Program} {w : World} {K : PySem.W.Frag} {mg : Str → Option Value} {base : Heap} {N : List Str} {qual : Str} {scope : Scope} {f : Addr} {cd : Value} {A : Around} {outer : List Env} {s s' : Shared} {H H' : Hp} {E : XK} {pins : List (Addr × Obj)} {σ : St} {a C : Addr} {od : Option Addr}
end
section
variable {X : Cx} {k : Nat} {f : Addr} {fd : FuncData} {ps : List Str} {sp : Sp} {pins : List (Addr × Obj)} {σ : St} {H : Hp} {s : Shared} {Q : VK} {E : XK} {us : List Value} {vs : List V}
end
theorem ObjOk.there {P : Program} {w : World} {H : Hp} {h : Heap} {a : Addr} {o : HO} (x : ObjOk P w H h a o) : ∃ u, h.get? a = some u := by
  cases o with
  | lst xs => obtain ⟨_, _, _, _, e⟩ := x; exact ⟨_, e⟩
  | tup xs => obtain ⟨_, _, _, o, e, _⟩ := x; exact ⟨_, e⟩
  | dK kvs => obtain ⟨_, _, _, _, o, _, _, e, _⟩ := x; exact ⟨_, e⟩
  | dT kvs => obtain ⟨_, _, _, _, o, _, _, e, _⟩ := x; exact ⟨_, e⟩
  | set S n => obtain ⟨o, _, _, _, e, _⟩ := x; exact ⟨_, e⟩
  | ins C dx fs => obtain ⟨_, _, _, e, _⟩ := x; exact ⟨_, e⟩
  | own y => obtain ⟨_, e⟩ := x; exact ⟨_, e⟩
  | xd fs => obtain ⟨_, ⟨_, _, _, e, _⟩, _⟩ := x; exact ⟨_, e⟩
  | rng lo hi => obtain ⟨_, _, _, e⟩ := x; exact ⟨_, e⟩
  | frz ob u => obtain ⟨e, _⟩ := x; exact ⟨_, e⟩
  | tbl ps => exact ⟨_, x⟩
  | tab => obtain ⟨_, e, _⟩ := x; exact ⟨_, e⟩
  | met f y => exact ⟨_, x⟩
  | ext φ => obtain ⟨_, ⟨_, e⟩, _⟩ := x; exact ⟨_, e⟩
end L2
namespace L2
open PySem PySem.Spec PyProof.Rows
variable [Reg]
noncomputable def XIs (K : PySem.W.Frag) (H : Hp) (C : Addr) (od : Option Addr) (x : PyData) : Prop :=
  ∃ cls fv fd, x = excD cls (nmD fv ++ fd) ∧ PySem.W.nsIn K mainGlobals cls = some (some (.ref C)) ∧ ((fv = [] ∧ od = none) ∨ ∃ dx, od = some dx ∧ H dx = some (.xd fv)) ∧ DenL K H (fv.map (·.2)) fd
theorem XIs.mono {K : PySem.W.Frag} {H H' : Hp} {C : Addr} {od : Option Addr} {x : PyData} (s : Same H H') (h : XIs K H C od x) : XIs K H' C od x := by
  refine L2.o_EEEAAA (h) fun cls fv fd h1 h2 h3 h4 => ?_
  refine L2.i_EEEAAA (cls) (fv) (fd) (h1) (h2) ?_ (h4.mono s)
  rcases h3 with h3 | ⟨dx, h3, h5⟩
  · exact .inl h3
  · exact .inr ⟨dx, h3, s _ _ h5⟩
inductive RX where
  | ret (d : PyData) | exc (x : PyData)
noncomputable def spX (K : PySem.W.Frag) (T : Ty) (F : List PyData → Option RX) : Sp := fun vs H Q E => ∃ (hid : Addr → Prop) (ds : List PyData) (r : RX), (∀ b, hid b → ∃ vs, H b = some (.lst vs)) ∧ DenL K (del H hid) vs ds ∧ F ds = some r ∧
  match r with
  | .ret d => ∀ v as H', Same H H' → (∀ p ∈ as, H p = none) → DenO K H' (del H' (uni hid as)) T v d as → Q v H'
  | .exc x => ∀ C od H', Same H H' → XIs K (del H' hid) C od x → E (.ref C) od H'
noncomputable def tXt (X : Cx) (O : Ow) (T : Ty) (f : Rho → Option RX) : TE := fun σ H Q => At5 X.K O f σ H fun hid H0 ρ ow r =>
  match r with
  | .ret d => ∀ v as H', Same H H' → (∀ p ∈ as, H p = none) → DenO X.K H' (del H' (uni hid (as ++ ow))) T v d as → Q v H'
  | .exc x => ∀ pins s' H' a C od, Inv X pins σ H' s' → Same H H' → Fly X pins H' s' a C od → XIs X.K (del H' (uni hid ow)) C od x → X.xe (.ref a) s'
noncomputable abbrev PXt (X : Cx) (O : Ow) (T : Ty) (e : Expr) (f : Rho → Option RX) : Prop := PE X e (tXt X O T f)
noncomputable def DefX (P : Program) (w : World) (K : PySem.W.Frag) (mg : Str → Option Value) (base : Heap) (k : Nat) (x : Str) (ps : List Str) (T : Ty) (F : List PyData → Option RX) : Prop :=
  ∃ f fd, FnOk P w K mg base (CXe P w) k f fd ps (spX K T F) ∧ mg x = some (.ref f) ∧ PySem.W.keepIn K (.ref f) = true ∧ Binds K fd ps [] ∧ PySem.W.nsIn K mainGlobals x = some (some (.ref f))
noncomputable def pureX (F : List PyData → Option RX) (ds : List PyData) : Option PyData := (F ds).bind fun r => match r with
  | .ret d => some d
  | .exc _ => none
theorem DefX.ok {P : Program} {w : World} {K : PySem.W.Frag} {mg : Str → Option Value} {base : Heap} {k : Nat} {x : Str} {ps : List Str} {T : Ty} {F : List PyData → Option RX} (G : DefX P w K mg base k x ps T F) : DefOk P w K mg base k x ps T (pureX F) := by
  refine L2.o_EEAAAA (G) fun f fd h1 h2 h3 h4 h5 => ?_
  have imp : ∀ vs H Q E, spR K T (pureX F) vs H Q E → spX K T F vs H Q E0 := fun vs H Q E zpat => by
    refine L2.o_EEEAAA (zpat) fun hid ds r a1 a2 a3 a4 => ?_
    obtain ⟨q, b1, b2⟩ := bind_some a3
    cases q with
    | ret d => cases b2; exact ⟨hid, ds, .ret r, a1, a2, b1, a4⟩
    | exc x => cases b2
  refine L2.i_EEAAAA (f) (fd) (⟨fun vs H Q E h => h1.len vs H Q E0 (imp vs H Q E h), fun A outer s H args us vs Q E hr he hb hv hs => ?_⟩) (h2) (h3) (h4) (h5)
  refine codeAny_mono (h1.run A outer s H args us vs Q E0 hr he hb hv (imp vs H Q E hs)) fun r s' hq => ?_
  cases r with
  | error e =>
    refine L2.o_EEEEAAAAAA (hq) fun H' a C od _ _ _ _ _ _ q => ?_
    exact q.elim
  | ok fl => cases fl <;> exact hq
section
variable {X : Cx} {O : Ow} {a : Expr} {es : List Expr} {pos p : Pos} {fs : Rho → Option (List PyData)} {k : Nat} {ps : List Str} {x : Str} {T : Ty} {F : List PyData → Option RX}
end
inductive OutX where
  | nx (ρ : Rho) | rt (d : PyData) | bk (ρ : Rho) | ct (ρ : Rho) | ex (x : PyData) (ρ : Rho)
noncomputable def ThenX (X : Cx) (O : Ow) (hid : Addr → Prop) (H0 G : Hp) (D : Ends) : OutX → Prop
  | .nx ρ' => ∀ σ' H' ow', Same G (del H' (uni hid ow')) → EnvOk X.K O hid H0 σ' H' ρ' ow' → D.nx σ' H'
  | .bk ρ' => ∀ σ' H' ow', Same G (del H' (uni hid ow')) → EnvOk X.K O hid H0 σ' H' ρ' ow' → D.bk σ' H'
  | .ct ρ' => ∀ σ' H' ow', Same G (del H' (uni hid ow')) → EnvOk X.K O hid H0 σ' H' ρ' ow' → D.ct σ' H'
  | .rt d => ∀ v as H', Same H0 H' → (∀ p ∈ as, H0 p = none) → DenO X.K H' (del H' (uni hid as)) O.r v d as → D.rt v H'
  | .ex x ρ' => ∀ pins s' σ' H' ow' a C od, Inv X pins σ' H' s' → Same G (del H' (uni hid ow')) → EnvOk X.K O hid H0 σ' H' ρ' ow' → Fly X pins H' s' a C od → XIs X.K (del H' (uni hid ow')) C od x → X.xe (.ref a) s'
noncomputable def tPx (X : Cx) (O : Ow) (F : Rho → Option OutX) : TS := fun D σ H => At5 X.K O F σ H fun hid H0 ρ ow o => ThenX X O hid H0 (del H (uni hid ow)) D o
noncomputable abbrev PSx (X : Cx) (O : Ow) (st : Stmt) (F : Rho → Option OutX) : Prop := PS X st (tPx X O F)
noncomputable abbrev PSsx (X : Cx) (O : Ow) (st : List Stmt) (F : Rho → Option OutX) : Prop := PSs X st (tPx X O F)
theorem ThenX.weak {X : Cx} {O : Ow} {hid : Addr → Prop} {H0 G G' : Hp} {D : Ends} {o : OutX} (s : Same G G') (h : ThenX X O hid H0 G D o) : ThenX X O hid H0 G' D o := by
  cases o with
  | nx ρ => exact fun σ' H' ow' s' E => h σ' H' ow' (s.trans s') E
  | bk ρ => exact fun σ' H' ow' s' E => h σ' H' ow' (s.trans s') E
  | ct ρ => exact fun σ' H' ow' s' E => h σ' H' ow' (s.trans s') E
  | rt d => exact h
  | ex x ρ => exact fun pins s1 σ' H' ow' a C od I s' E f q => h pins s1 σ' H' ow' a C od I (s.trans s') E f q
noncomputable def Out.x : Out → OutX
  | .nx ρ => .nx ρ
  | .rt d => .rt d
  | .bk ρ => .bk ρ
  | .ct ρ => .ct ρ
section
variable {X : Cx} {O : Ow} {st : Stmt} {rest : List Stmt} {F G : Rho → Option OutX} {e : Expr} {f : Rho → Option RX} {pos : Pos} {T : Ty}
end
end L2
namespace L2
open PySem PySem.Spec PyProof.Rows
variable [Reg]
section
variable {X : Cx} {O : Ow} {st : Stmt} {rest : List Stmt} {F G : Rho → Option OutX} {e : Expr} {f : Rho → Option RX} {pos : Pos} {T : Ty}
noncomputable def bmVE : List Value := [.type "ValueError", .type "Exception", .type "BaseException", .type "object"]
inductive XNo (K : PySem.W.Frag) (C : Addr) : Prop
  | mk (nm q : Str) (N : Addr) (bs bm : List Value) (hdct : Bool) (sn : List Str) (sub : List Value) (ab : Bool) (col : Option Bool) (dd : Option Addr) (k0 k1 k2 k3 k5 : Option Value) (ob : Obj) (l : K.lookup C = some ob) (eo : ob = excClassObj nm q C N bs bm hdct sn sub ab col dd k0 k1 k2 k3 k5 "ValueError.__new__") (t : PySem.W.tailIn K bmVE bm = true) (o : PySem.W.nsOkIn K N = true) (i : PySem.W.nsIn K N "__init__" = some none) : XNo K C
theorem XNo.of {K : PySem.W.Frag} {C : Addr} {nm q : Str} {N : Addr} {bs bm : List Value} {hdct : Bool} {sn : List Str} {sub : List Value} {ab : Bool} {col : Option Bool} {dd : Option Addr} {k0 k1 k2 k3 k5 : Option Value} {ob : Obj} (l : K.lookup C = some ob) (eo : ob = excClassObj nm q C N bs bm hdct sn sub ab col dd k0 k1 k2 k3 k5 "ValueError.__new__") (t : PySem.W.tailIn K bmVE bm = true) (o : PySem.W.nsOkIn K N = true) (i : PySem.W.nsIn K N "__init__" = some none) : XNo K C := ⟨nm, q, N, bs, bm, hdct, sn, sub, ab, col, dd, k0, k1, k2, k3, k5, ob, l, eo, t, o, i⟩
structure XCls (X : Cx) (x : Str) (C : Addr) : Prop where
  gl : Gl X x
  mg : X.mg x = some (.ref C)
  ns : PySem.W.nsIn X.K mainGlobals x = some (some (.ref C))
  ex : XNo X.K C
inductive ExcObj (h : Heap) (C : Addr) : Prop
  | mk (nm q : Str) (N : Addr) (bs bm : List Value) (hdct : Bool) (sn : List Str) (sub : List Value) (ab : Bool) (col : Option Bool) (dd : Option Addr) (k0 k1 k2 k3 k5 : Option Value) (mN : Str → Option Value) (hC : h.get? C = some (excClassObj nm q C N bs bm hdct sn sub ab col dd k0 k1 k2 k3 k5 "ValueError.__new__")) (hN : h.Ns N mN) (hi : mN "__init__" = none) (T : OwnTail h bmVE bm) : ExcObj h C
end
end L2
namespace L2
open PySem PySem.Spec PyProof.Rows
variable [Reg]
noncomputable abbrev Cx.wp (X : Cx) (pn : List (Addr × Obj)) (W : Value → Shared → Prop) : Cx := { X with pn := pn, xe := W }
noncomputable abbrev Cx.mark (X : Cx) (pn : List (Addr × Obj)) (a : Addr) : Cx := { X with A := X.A.mark (some (.ref a)), calm := false, pn := pn, xe := fun _ _ => False }
section
variable {X : Cx} {pins pins' : List (Addr × Obj)} {σ : St} {H : Hp} {s : Shared} {W : Value → Shared → Prop} {a : Addr}
theorem Inv.wp (I : Inv X pins σ H s) (W : Value → Shared → Prop) : Inv (X.wp (X.pn ++ pins) W) [] σ H s :=
  ⟨⟨I.ok.mod, I.ok.kind, I.ok.glob, I.ok.blt, I.ok.above, I.ok.inj, I.ok.has, I.ok.cab, I.ok.hd, I.ok.frames, I.ok.stk, I.ok.exf, I.ok.bs, I.ok.bsz, I.ok.noex, I.ok.exfs, I.ok.funs, I.ok.frf, I.ok.tabs⟩, I.os, I.bare, I.base, I.loc, I.cell, I.free, I.freeC, fun p hp => I.pin p (by simpa using hp), I.hok, I.len⟩
theorem Inv.mark (I : Inv X pins σ H s) (a : Addr) : Inv (X.mark (X.pn ++ pins) a) [] σ H s :=
  ⟨⟨I.ok.mod, I.ok.kind, I.ok.glob, I.ok.blt, I.ok.above, I.ok.inj, I.ok.has, I.ok.cab, (fun z => nomatch z), I.ok.frames, I.ok.stk, I.ok.exf, I.ok.bs, I.ok.bsz, I.ok.noex, I.ok.exfs, I.ok.funs, I.ok.frf, I.ok.tabs⟩, I.os, I.bare, I.base, I.loc, I.cell, I.free, I.freeC, fun p hp => I.pin p (by simpa using hp), I.hok, I.len⟩
end
section
variable {X : Cx} {O : Ow} {body suite : List Stmt} {b₀ : Stmt} {n tn : Str} {ie : Nat} {np hpos pos : Pos} {F : Rho → Option OutX} {Hd : Rho → Option Out} {PC : Addr} {caught : List Str}
end
end L2
namespace L2
open PySem PySem.Spec PyProof.Rows
variable [Reg]
structure XCD (K : PySem.W.Frag) (mg : Str → Option Value) (x : Str) (C : Addr) : Prop where
  mg : mg x = some (.ref C)
  ns : PySem.W.nsIn K mainGlobals x = some (some (.ref C))
  ex : XNo K C
theorem XCD.at {X : Cx} {x : Str} {C : Addr} (c : XCD X.K X.mg x C) (hg : Gl X x) : XCls X x C := ⟨hg, c.mg, c.ns, c.ex⟩
noncomputable def excKit (K : PySem.W.Frag) (C : Addr) : Bool :=
  PySem.W.findIn K (.ref C) "__getattribute__" == some (some (.builtin "BaseException.__getattribute__")) && PySem.W.findIn K (.ref C) "__getattr__" == some none && PySem.W.mroIn K C (.type "BaseException") == some true &&
  PySem.W.findIn K (.ref C) "__class__" == some (some (.builtin "object.__class__")) && PySem.W.specialIn K (.builtin "object.__class__") "__get__" == some (some (.builtin "getset_descriptor.__get__")) && PySem.W.takesIn K (.builtin "object.__class__") == some true && PySem.W.mroIn K C (.type "object") == some true && PySem.W.hasDictIn K C
structure ExcKit (K : PySem.W.Frag) (C : Addr) : Prop where
  ga : PySem.W.findIn K (.ref C) "__getattribute__" = some (some (.builtin "BaseException.__getattribute__"))
  gn : PySem.W.findIn K (.ref C) "__getattr__" = some none
  be : PySem.W.mroIn K C (.type "BaseException") = some true
  cl : PySem.W.findIn K (.ref C) "__class__" = some (some (.builtin "object.__class__"))
  sp : PySem.W.specialIn K (.builtin "object.__class__") "__get__" = some (some (.builtin "getset_descriptor.__get__"))
  tk : PySem.W.takesIn K (.builtin "object.__class__") = some true
  ob : PySem.W.mroIn K C (.type "object") = some true
  hd : PySem.W.hasDictIn K C = true
section
variable {prog : Program} {w : World} {A : Around} {E : Value → Shared → Prop} {s : Shared} {K : PySem.W.Frag} {x D : Addr} {ox : Obj} {od : Option Obj} {name : Str} {R : Result → Shared → Prop} {Q : Value → Shared → Prop}
end
noncomputable def subX (cls T : Str) : Bool := cls == T || T == "PostError" || T == "ValueError"
structure IsT (K : PySem.W.Frag) (mg : Str → Option Value) (exs : List Str) (T : Str) (D : Addr) : Prop where
  mg : mg T = some (.ref D)
  ex : ∀ cls ∈ exs, ∀ C, PySem.W.nsIn K mainGlobals cls = some (some (.ref C)) → excKit K C = true ∧ PySem.W.kitOne K (.ref C) (.ref D) = some (subX cls T)
  no : PySem.W.kitOne K (.type "NoneType") (.ref D) = some false
structure IsV (K : PySem.W.Frag) (exs : List Str) : Prop where
  ex : ∀ cls ∈ exs, ∀ C, PySem.W.nsIn K mainGlobals cls = some (some (.ref C)) → excKit K C = true ∧ PySem.W.kitOne K (.ref C) (.type "ValueError") = some true
  no : PySem.W.kitOne K (.type "NoneType") (.type "ValueError") = some false
section
variable {X : Cx} {O : Ow} {e : Expr} {f : Rho → Option PyData} {p p2 pos : Pos} {exs : List Str} {T : Str} {D : Addr}
end
end L2
namespace L2
open PySem PySem.Spec PyProof.Rows
variable [Reg]
noncomputable def flatD : PyData → Bool
  | .none => true
  | .bool _ => true
  | .int _ => true
  | .str _ => true
  | _ => false
noncomputable def eqF : PyData → PyData → Bool
  | .none, .none => true
  | .bool a, .bool b => a == b
  | .bool a, .int b => (if a then 1 else 0) == b
  | .int a, .bool b => a == (if b then 1 else 0)
  | .int a, .int b => a == b
  | .str a, .str b => a == b
  | _, _ => false
theorem flat_den {K : PySem.W.Frag} {H : Hp} {v : V} {d : PyData} (h : Den K H v d) (f : flatD d = true) : flatV v = true ∧ Sc v d := by
  cases h with
  | non => exact ⟨rfl, .non⟩
  | bl b => exact ⟨rfl, .bl b⟩
  | int i => exact ⟨rfl, .int i⟩
  | str x => exact ⟨rfl, .str x⟩
  | _ => cases f
theorem eqV_F {v w : V} {d e : PyData} (h : Sc v d) (k : Sc w e) : eqV v w = eqF d e := by
  cases h <;> cases k <;> rfl
theorem flat_denL {K : PySem.W.Frag} {H : Hp} {w : V} {e : PyData} (k : Sc w e) : ∀ {vs : List V} {ds : List PyData}, DenL K H vs ds → ds.all flatD = true → vs.all flatV = true ∧ vs.map (fun v => eqV v w) = ds.map (fun d => eqF d e) := by
  intro vs ds h
  refine h.ind (M := fun vs ds => ds.all flatD = true → vs.all flatV = true ∧ vs.map (fun v => eqV v w) = ds.map (fun d => eqF d e)) (fun _ => ⟨rfl, rfl⟩) ?_
  · intro v d vs ds h _ ih f
    rw [List.all_cons, Bool.and_eq_true] at f
    refine L2.o_A (flat_den h f.1) fun a1 a2 => ?_
    refine L2.o_A (ih f.2) fun b1 b2 => ?_
    exact ⟨by rw [List.all_cons, a1, b1]; rfl, by rw [List.map_cons, List.map_cons, b2, eqV_F a2 k]⟩
section
variable {X : Cx} {O : Ow} {a b : Expr} {fa fb : Rho → Option PyData} {apos cpos pos p : Pos}
noncomputable def inD : PyData → PyData → Option PyData
  | e, .list ds => if (ds.all flatD && flatD e) = true then some (.bool ((ds.map fun d => eqF d e).any id)) else none
  | e, .tuple ds => if (ds.all flatD && flatD e) = true then some (.bool ((ds.map fun d => eqF d e).any id)) else none
  | _, _ => none
theorem any_map' {α : Type} (p : α → Bool) (xs : List α) : (xs.map p).any id = xs.any p := by
  rw [List.any_map]; rfl
theorem in_spec {K : PySem.W.Frag} {neg : Bool} {x y : V} {H : Hp} {e d r : PyData} (D1 : Den K H x e) (D2 : Den K H y d) (h : inD e d = some r) : ∃ b, r = .bool b ∧ ∀ Q : VK, Q (.bl (if neg then !b else b)) H → rIn K neg x y H Q := by
  unfold inD at h
  split at h
  case h_3 => cases h
  · split at h
    case isFalse => cases h
    rename_i hfl
    rw [Bool.and_eq_true] at hfl
    cases h
    obtain ⟨l, xs, rfl, q1, r1⟩ := den_lst D2
    refine L2.o_A (flat_den D1 hfl.2) fun f1 f2 => ?_
    refine L2.o_A (flat_denL f2 r1 hfl.1) fun g1 g2 => ?_
    refine ⟨_, rfl, fun Q q => ⟨l, xs, rfl, .inl q1, f1, g1, ?_⟩⟩
    unfold inV
    rw [← any_map', g2]
    exact q
  · split at h
    case isFalse => cases h
    rename_i hfl
    rw [Bool.and_eq_true] at hfl
    cases h
    obtain ⟨l, xs, rfl, q1, r1⟩ := den_tup D2
    refine L2.o_A (flat_den D1 hfl.2) fun f1 f2 => ?_
    refine L2.o_A (flat_denL f2 r1 hfl.1) fun g1 g2 => ?_
    refine ⟨_, rfl, fun Q q => ⟨l, xs, rfl, .inr q1, f1, g1, ?_⟩⟩
    unfold inV
    rw [← any_map', g2]
    exact q
theorem c_in : CmpD X .In inD := ⟨_, op_in_seq, fun x y H d e r Q D1 D2 h k => by
  refine L2.o_EA (in_spec (neg := false) D1 D2 h) fun b zq1 q => ?_
  subst zq1
  exact q Q (k _ (.bl _))⟩
theorem call_sum (hc : X.calm = true) : CallR X (.builtin "sum") (fun xs H Q => ∃ (a : Addr) (ns : List Int), xs = [.ref a] ∧ SqL X.K H a (ns.map V.int) ∧ Q (.int ns.sum) H) := by
  intro pins s σ H xs us Q I r h
  revert h
  refine fun zqq => L2.o_EEAA zqq fun q ns zq2 hq k => ?_
  clear zqq
  subst zq2
  refine L2.o_EA (vals1 r) fun u zq1 rx => ?_
  subst zq1
  cases rx
  refine L2.o_EAA (I.list hq) fun its r' pl hz => ?_
  have hI := intsAre_of r'
  have hl := pl.isList
  refine L2.o_E (hI.allInts.items) fun xs hx => ?_
  have hn : numsOf its.toArray.toList = ns := by rw [show its.toArray.toList = its from rfl, hI.numsOf]
  rw [hx] at hl hn
  rw [nums_intItems] at hn
  refine sum_intListG (I.ok.hd hc) hl fun h' tk t' hk => ?_
  rw [preSum_eq, List.take_of_length_le (by simp), hn]
  exact ⟨.int _, H, I.kept (t' := tk) hk, ⟨t', rfl⟩, k⟩
noncomputable def sumD : PyData → Option PyData
  | .list ds => (intsO ds).map fun ns => .int ns.sum
  | _ => none
theorem v_sum (hc : X.calm = true) (hg : Gl X "sum") (hm : X.mg "sum" = none) (ha : PR X O a fa) (he : starEach [a] X.env = (false, eval a X.env) :: starEach [] X.env := by rfl) (hpl : (backTo pos (starEach [] X.env)).any (·.1) = false := by rfl)
    (hv : bootBuiltins "sum" = some (.builtin "sum") := by decide +kernel) : PV X O (.Call (.Name "sum" p) [a] [] pos) (fun ρ => (fa ρ).bind sumD) :=
  (pe_callB (call_sum hc) hg hm hv (pa_cons ha pa_nil he) (by decide) (by decide) he hpl).imp fun σ H Q zpat => by
    obtain ⟨hid, H0, ρ, ow, r, E, hf, k⟩ := zpat
    obtain ⟨d, h1, h2⟩ := bind_some hf
    refine ⟨hid, H0, ρ, ow, d, E, h1, fun x H1 s1 D1 => ?_⟩
    unfold sumD at h2
    split at h2
    case h_2 => cases h2
    obtain ⟨ns, h3, rfl⟩ := map_some h2
    have e := intsO_some h3
    subst e
    obtain ⟨q, vs, rfl, q1, r1⟩ := den_lst D1
    have e2 := r1.isInts
    subst e2
    exact L2.i_EEAA (q) (ns) (rfl) ((del_same _ _).seq q1) (k _ H1 s1 (.int _))
end
end L2
namespace L2
open PySem PySem.Spec PyProof.Rows
variable [Reg]
section
variable {K : PySem.W.Frag} {O O' : Ow} {hid : Addr → Prop} {H0 H H' : Hp} {σ : St} {ρ : Rho} {ow : List Addr}
end
section
variable {X : Cx} {O O' : Ow} {st : Stmt} {rest : List Stmt} {F G : Rho → Option Out} {e : Expr} {f : Rho → Option PyData} {pos : Pos}
theorem EnvOk.free {K : PySem.W.Frag} {O : Ow} {hid : Addr → Prop} {H0 H : Hp} {σ : St} {ρ : Rho} {ow : List Addr} (E : EnvOk K O hid H0 σ H ρ ow) (r : Ty) : EnvOk K ⟨[], r⟩ hid H0 σ H ρ [] := by
  refine ⟨E.len, E.baseS.trans (fun b o q => (by rw [del_out (by simp)]; exact q)), fun i d _ q => ?_, ⟨fun _ => [], (fun i t d h => (by cases h)), (fun i j p _ h => (by cases h)), (fun i p h => (by cases h))⟩, (fun l h => (by cases h)), E.ishL, fun _ => rfl⟩
  refine L2.o_EA (E.raw q) fun v a b => ?_
  exact ⟨v, a, b.mono (del_sub fun b z => by
    rcases z with z | z
    · exact z
    · cases z)⟩
end
section
variable {X : Cx} {O : Ow} {i : Nat} {x : Str} {pos' spos : Pos} {elt tg iter : Expr} {ifs : List Expr} {scope : Scope} {pos : Pos} {fi : Rho → Option (List PyData)} {S : PyData → Rho → Option Rho} {ft : Rho → Option Bool} {fe : Rho → Option PyData} {k : Nat} {N : List Str} {ix : List Nat}
end
section
variable {X : Cx} {O : Ow} {i : Nat}
end
end L2
namespace L2
open PySem PySem.Spec PyProof.Rows
variable [Reg]
section
variable {K : PySem.W.Frag} {O : Ow} {hid : Addr → Prop} {H0 H H' C C' : Hp} {σ : St} {ρ : Rho} {ow : List Addr}
end
section
variable {K : PySem.W.Frag} {O : Ow} {hid : Addr → Prop} {H0 H H' : Hp} {σ : St} {ρ : Rho} {ow : List Addr}
end
section
variable {X : Cx} {O : Ow} {i : Nat} {pos : Pos}
end
end L2
namespace L2
open PySem PySem.Spec PyProof.Rows
variable [Reg]
noncomputable def tX (K : PySem.W.Frag) (O : Ow) (f : Rho → Option (PyData × Rho)) : TE := fun σ H Q => At5 K O f σ H fun hid H0 ρ ow r => ∀ v H', EnvOk K O hid H0 σ H' r.2 ow → Same (del H (uni hid ow)) (del H' (uni hid ow)) → Den K (del H' (uni hid ow)) v r.1 → Q v H'
noncomputable abbrev PX (X : Cx) (O : Ow) (e : Expr) (f : Rho → Option (PyData × Rho)) : Prop := PE X e (tX X.K O f)
noncomputable def popD (i : Nat) (ρ : Rho) : Option (PyData × Rho) := ((ρ[i]?).join.bind listD).bind fun ds => ds.getLast?.map fun d => (d, ρ.set i (some (.list ds.dropLast)))
noncomputable def opL (g : PyData → PyData → Option PyData) (fa : Rho → Option (PyData × Rho)) (fb : Rho → Option PyData) (ρ : Rho) : Option (PyData × Rho) := (fa ρ).bind fun r => (fb r.2).bind fun e => (g r.1 e).map fun d => (d, r.2)
noncomputable def opR (g : PyData → PyData → Option PyData) (fa : Rho → Option PyData) (fb : Rho → Option (PyData × Rho)) (ρ : Rho) : Option (PyData × Rho) := (fa ρ).bind fun d => (fb ρ).bind fun r => (g d r.1).map fun e => (e, r.2)
noncomputable def setEff (i : Nat) (x : Option (PyData × Rho)) : Option Out := x.map fun r => .nx (r.2.set i (some r.1))
section
variable {X : Cx} {O : Ow} {a b e : Expr} {fa fb : Rho → Option PyData} {pos : Pos}
theorem DenL.dropLast {K : PySem.W.Frag} {H : Hp} {vs : List V} {ds : List PyData} (h : DenL K H vs ds) : DenL K H vs.dropLast ds.dropLast := by
  rw [List.dropLast_eq_take, List.dropLast_eq_take, h.length]
  exact h.take _
theorem x_pop {i : Nat} {x : Str} {p apos cpos : Pos} (hx : PE X (.Name x p) (tVar i)) (hO : O.s.lookup i = some (.lst .cl) := by rfl)
    (hbase : attributeBase (.Name x p) "pop" X.env (eval (.Name x p) X.env) = eval (.Name x p) X.env := by rfl) (hline : (apos.endLine == cpos.line) = true := by rfl) :
    PX X O (.Call (.Attribute (.Name x p) "pop" apos) [] [] cpos) (popD i) :=
  (pe_bm0 PySem.F.plainAttrs_list PySem.F.slot_list_pop PySem.F.type_list_pop mt_pop (at_name hx hO) hbase hline).imp fun σ H Q zpat => by
    obtain ⟨hid, H0, ρ, ow, r, E, hf, k⟩ := zpat
    obtain ⟨ds, g1, g2⟩ := bind_some hf
    obtain ⟨d, g3, rfl⟩ := map_some g2
    obtain ⟨dl, g4, g5⟩ := bind_some g1
    rw [listD_some g5] at g4
    refine L2.i_EEEEEEEAAAAA (hid) (H0) (ρ) (ow) (.list ds) ([]) (ds) (E) (join_some g4) (rfl) (rfl) (rfl) (fun H1 l vs s1 hH hD hl hE => ?_)
    rw [List.getLast?_eq_getElem?] at g3
    refine L2.o_EA (hD.get g3) fun y h1 h2 => ?_
    rw [← hD.length] at h1
    refine L2.i_AEEEAAAA (.inl ⟨rfl, vs, SqL.of hH⟩) (l) (vs) (y) (rfl) (rfl) (hH) (h1) (k y _ (hE H1 (Same.refl _) _ _ hD.dropLast) ?_ ?_)
    · rw [del_upd (uni_in hl)]; exact del_mono s1 _
    · rw [del_upd (uni_in hl)]; exact h2
theorem x_opL {op : Operator} {rd : R2} {g : PyData → PyData → Option PyData} {fa : Rho → Option (PyData × Rho)} (ho : OpR X (binaryOp op) rd) (hg : SpecOp X.K rd g) (ha : PX X O a fa) (hb : PR X O b fb) : PX X O (.BinOp a op b pos) (opL g fa fb) :=
  (pe_op ho ha hb).imp fun σ H Q zpat => by
    obtain ⟨hid, H0, ρ, ow, r, E, hf, k⟩ := zpat
    obtain ⟨r1, h1, h2⟩ := bind_some hf
    obtain ⟨y1, h3, h4⟩ := bind_some h2
    obtain ⟨d, h5, rfl⟩ := map_some h4
    exact ⟨hid, H0, ρ, ow, r1, E, h1, fun x H1 E1 s1 D1 => ⟨hid, H0, r1.2, ow, y1, E1, h3, fun y H2 s2 D2 => hg x y H2 _ _ _ Q ((D1.mono (del_mono s2 _)).mono (del_same _ _)) (D2.mono (del_same _ _)) h5 fun v S => k v H2 (E1.mono s2) (s1.trans (del_mono s2 _)) S.den⟩⟩
theorem x_ix {fb : Rho → Option (PyData × Rho)} (ha : PV X O a fa) (hb : PX X O b fb) (hs : PlainIx b := by intro _ _; rfl) : PX X O (.Subscript a b pos) (opR ixD fa fb) :=
  (pe_ix (ix_list.or ix_tup) ha hb hs).imp fun σ H Q zpat => by
    obtain ⟨hid, H0, ρ, ow, r, E, hf, k⟩ := zpat
    obtain ⟨d, h1, h2⟩ := bind_some hf
    obtain ⟨r1, h3, h4⟩ := bind_some h2
    obtain ⟨d2, h5, rfl⟩ := map_some h4
    exact ⟨hid, H0, ρ, ow, d, E, h1, fun x H1 s1 D1 => ⟨hid, H0, ρ, ow, r1, E.mono s1, h3, fun y H2 E2 s2 D2 => sp_ix x y H2 (del H2 (uni hid ow)) _ _ _ Q (del_same _ _) (D1.mono s2) D2 h5 fun v S => k v H2 E2 ((del_mono s1 _).trans s2) S⟩⟩
theorem PV.x (h : PV X O e fa) : PX X O e (fun ρ => (fa ρ).map fun d => (d, ρ)) := h.imp fun σ H Q zpat => by
  obtain ⟨hid, H0, ρ, ow, r, E, hf, k⟩ := zpat
  obtain ⟨d, h1, rfl⟩ := map_some hf
  exact ⟨hid, H0, ρ, ow, d, E, h1, fun v H' s D => k v H' (E.mono s) (del_mono s _) D⟩
theorem s_setX {i : Nat} {x : Str} {pos' : Pos} {f : Rho → Option (PyData × Rho)} (hN : X.N.Nodup) (hi : X.N[i]? = some x) (hx : Loc X.env.scope x) (he : PX X O e f) (hO : O.s.lookup i = none := by rfl) (hs : swapsWith e (some (.Name x pos')) pos.line X.env = pure false := by rfl) (hf : X.fn x = true ∨ X.env.scope.names.lookup x = some .local := by first | exact .inl rfl | exact .inr rfl | assumption) :
    PSv X O (.Assign [.Name x pos'] e pos) (fun ρ => setEff i (f ρ)) := (ps_set hN hi hx he hs hf).imp fun D σ H zpat => by
  obtain ⟨hid, H0, ρ, ow, o, E, hf, k⟩ := zpat
  obtain ⟨d, g1, rfl⟩ := map_some hf
  exact ⟨hid, H0, ρ, ow, d, E, g1, fun v H' E' s Dv => k _ H' ow s (E'.set hO Dv)⟩
theorem x_modL {fa : Rho → Option (PyData × Rho)} (ha : PX X O a fa) (hb : PR X O b fb) : PX X O (.BinOp a .Mod b pos) (opL modD fa fb) := x_opL op_modN (spI (fun _ _ => .int _) fun i j h => of_decide_eq_true h) ha hb
theorem mul_cond {i j : Int} (h : ((isBig i && isBig j) || (isS i || isS j)) = true) : CMulB i j := by
  rw [Bool.or_eq_true, Bool.or_eq_true, Bool.and_eq_true] at h
  rcases h with h | h | h
  · exact .inl ⟨of_decide_eq_true h.1, of_decide_eq_true h.2⟩
  · have := of_decide_eq_true h
    exact .inr (.inl (by omega))
  · have := of_decide_eq_true h
    exact .inr (.inr (by omega))
theorem x_mulL {fa : Rho → Option (PyData × Rho)} (ha : PX X O a fa) (hb : PR X O b fb) : PX X O (.BinOp a .Mult b pos) (opL mulD fa fb) := x_opL op_mulB (spI (fun _ _ => .int _) fun i j h => mul_cond h) ha hb
theorem x_addL {fa : Rho → Option (PyData × Rho)} (ha : PX X O a fa) (hb : PR X O b fb) : PX X O (.BinOp a .Add b pos) (opL addD fa fb) := x_opL op_add (spI0 fun _ _ => .int _) ha hb
theorem x_subL {fa : Rho → Option (PyData × Rho)} (ha : PX X O a fa) (hb : PR X O b fb) : PX X O (.BinOp a .Sub b pos) (opL subD fa fb) := x_opL op_sub (spI0 fun _ _ => .int _) ha hb
end
end L2
namespace L2
open PySem PySem.Spec PyProof.Rows
variable [Reg]
section
variable {X : Cx} {O : Ow} {a b e : Expr} {fa fb : Rho → Option PyData} {pos : Pos} {l : Addr}
theorem at_nameI {i : Nat} (h : PE X e (tVar i)) (hi : O.s.lookup i = some (.io l) := by rfl) : PAt X O i (.io l) e (fun _ => some []) := h.imp fun σ H Q zpat => by
  refine L2.o_EEEEEEEAAAAA (zpat) fun hid H0 ρ ow d path ds E hρ hp ht hg k => ?_
  cases hp
  refine L2.o_EEEAAAAA (E.at hi hρ ht hg) fun v m vs h1 h2 h3 h4 h5 h6 => ?_
  cases h2
  exact ⟨.ref m, h1, k H m vs (Same.refl H) h3 h4 h5 h6⟩
theorem x_popI {i : Nat} {x : Str} {p apos cpos : Pos} (hx : PE X (.Name x p) (tVar i)) (hO : O.s.lookup i = some (.io l) := by rfl)
    (hbase : attributeBase (.Name x p) "pop" X.env (eval (.Name x p) X.env) = eval (.Name x p) X.env := by rfl) (hline : (apos.endLine == cpos.line) = true := by rfl) :
    PX X O (.Call (.Attribute (.Name x p) "pop" apos) [] [] cpos) (popD i) :=
  (pe_bm0 PySem.F.plainAttrs_list PySem.F.slot_list_pop PySem.F.type_list_pop mt_pop (at_nameI hx hO) hbase hline).imp fun σ H Q zpat => by
    obtain ⟨hid, H0, ρ, ow, r, E, hf, k⟩ := zpat
    obtain ⟨ds, g1, g2⟩ := bind_some hf
    obtain ⟨d, g3, rfl⟩ := map_some g2
    obtain ⟨dl, g4, g5⟩ := bind_some g1
    rw [listD_some g5] at g4
    refine L2.i_EEEEEEEAAAAA (hid) (H0) (ρ) (ow) (.list ds) ([]) (ds) (E) (join_some g4) (rfl) (rfl) (rfl) (fun H1 l vs s1 hH hD hl hE => ?_)
    rw [List.getLast?_eq_getElem?] at g3
    refine L2.o_EA (hD.get g3) fun y h1 h2 => ?_
    rw [← hD.length] at h1
    refine L2.i_AEEEAAAA (.inl ⟨rfl, vs, SqL.of hH⟩) (l) (vs) (y) (rfl) (rfl) (hH) (h1) (k y _ (hE H1 (Same.refl _) _ _ hD.dropLast) ?_ ?_)
    · rw [del_upd (uni_in hl)]; exact del_mono s1 _
    · rw [del_upd (uni_in hl)]; exact h2
end
theorem del_eq {H : Hp} {l : Addr} : del H (fun b => b = l) l = none := del_in (P := fun b => b = l) rfl
theorem del_neq {H : Hp} {l b : Addr} (h : b ≠ l) : del H (fun b => b = l) b = H b := del_out (P := fun b => b = l) h
inductive SpIO (K : PySem.W.Frag) (j : Nat) (T : Ty) (F : List PyData → Option (PyData × List PyData)) (vs : List V) (H : Hp) (Q : VK) : Prop
  | mk (hid : Addr → Prop) (l : Addr) (ws : List V) (es0 ds : List PyData) (r : PyData × List PyData) (h1 : ∀ b, hid b → ∃ vs, H b = some (.lst vs)) (h2 : ¬ hid l) (h3 : vs[j]? = some (.ref l)) (h4 : H l = some (.lst ws)) (h5 : DenL K (del H (uni hid [l])) ws es0)
      (h6 : ds.length = vs.length) (h7 : ds[j]? = some (.list es0)) (h8 : ∀ (i : Nat) (v : V) (d : PyData), i ≠ j → vs[i]? = some v → ds[i]? = some d → Den K (del H (uni hid [l])) v d) (h9 : F ds = some r)
      (k : ∀ v as H' ws', Same (del H fun b => b = l) H' → H' l = some (.lst ws') → DenL K (del H' (uni hid (l :: as))) ws' r.2 → (∀ p ∈ as, H p = none) → DenO K H' (del H' (uni hid (l :: as))) T v r.1 as → Q v H') : SpIO K j T F vs H Q
noncomputable def spIO (K : PySem.W.Frag) (j : Nat) (T : Ty) (F : List PyData → Option (PyData × List PyData)) : Sp := fun vs H Q _ => SpIO K j T F vs H Q
inductive ThenI (K : PySem.W.Frag) (O : Ow) (l : Addr) (hid : Addr → Prop) (H0 : Hp) (D : Ends) (o : Out) : Prop
  | mk (d : PyData) (es : List PyData) (e : o = .rt (.tuple [d, .list es]))
      (k : ∀ v as H' ws', Same H0 H' → H' l = some (.lst ws') → DenL K (del H' (uni hid (l :: as))) ws' es → (∀ p ∈ as, H0 p = none ∧ p ≠ l) → DenO K H' (del H' (uni hid (l :: as))) O.r v d as → D.rt v H') : ThenI K O l hid H0 D o
noncomputable def tI (K : PySem.W.Frag) (O : Ow) (l : Addr) (F : Rho → Option Out) : TS := fun D σ H => At5 K O F σ H fun hid H0 ρ ow o => ThenI K O l hid H0 D o
noncomputable abbrev PSI (X : Cx) (O : Ow) (l : Addr) (sts : List Stmt) (F : Rho → Option Out) : Prop := PSs X sts (tI X.K O l F)
noncomputable def seqI (F G : Rho → Option Out) (ρ : Rho) : Option Out := (F ρ).bind fun o => match o with
  | .nx ρ' => G ρ'
  | _ => none
noncomputable def retI (j : Nat) (f : Rho → Option PyData) (ρ : Rho) : Option Out := (f ρ).bind fun d => ((ρ[j]?).join.bind listD).map fun es => .rt (.tuple [d, .list es])
section
variable {X : Cx} {O : Ow} {st : Stmt} {rest : List Stmt} {F G : Rho → Option Out} {e : Expr} {f : Rho → Option PyData} {pos : Pos} {l : Addr} {j : Nat}
theorem ss_consI (h1 : PSv X O st F) (h2 : PSI X O l rest G) : PSI X O l (st :: rest) (seqI F G) := (pss_cons h1 h2).imp fun D σ H zpat => by
  obtain ⟨hid, H0, ρ, ow, o, E, hf, d, es, rfl, k⟩ := zpat
  obtain ⟨o1, g1, g2⟩ := bind_some hf
  refine ⟨hid, H0, ρ, ow, o1, E, g1, ?_⟩
  cases o1 with
  | nx ρ1 => exact fun σ' H' ow' s' E' => ⟨hid, H0, ρ1, ow', _, E', g2, d, es, rfl, k⟩
  | rt d => cases g2
  | bk ρ1 => cases g2
  | ct ρ1 => cases g2
theorem ss_retI {U : List Nat} (h : PRt X O U O.r e f) (hj : O.s.lookup j = some (.io l) := by rfl) (hU : j ∉ U := by decide) : PSI X O l [.Return (some e) pos] (retI j f) := (pss_one (ps_ret h)).imp fun D σ H zpat => by
  obtain ⟨hid, H0, ρ, ow, o, E, hf, d, es, e1, k⟩ := zpat
  obtain ⟨d', g1, g2⟩ := bind_some hf
  obtain ⟨es', g3, g4⟩ := map_some g2
  rw [← g4] at e1
  injection e1 with e1
  injection e1 with e1
  injection e1 with e1 e2
  injection e2 with e2 _
  injection e2 with e2
  subst e1 e2
  obtain ⟨dl, g5, g6⟩ := bind_some g3
  rw [listD_some g6] at g5
  refine L2.o_E (E.own) fun A EA => ?_
  refine L2.o_EA (EA.1 j _ _ hj (join_some g5)) fun v0 hv D0 => ?_
  generalize hA : A j = Aj at D0
  cases D0 with
  | @io _ ws _ hl q =>
    have hlA : l ∈ A j := by rw [hA]; exact List.mem_singleton.mpr rfl
    have hlo := EA.2.2 j l hlA
    refine L2.i_EEEEEEAAA (hid) (H0) (ρ) (ow) (d') (A) (E) (EA) (g1) (fun v as H' s n Dv => k v as H' ws (E.baseS.trans s) (s _ _ hl) (q.mono fun b o z => ?_) (fun p hp => ⟨?_, ?_⟩) (Dv.mono (del_sub fun b z => ?_) fun p _ o e => e))
    · by_cases hb : uni hid ow b
      · rw [del_in hb] at z; cases z
      · rw [del_out hb] at z
        rw [del_out fun y => ?_]
        · exact s b o z
        · rcases y with y | y
          · exact hb (.inl y)
          · rcases List.mem_cons.mp y with rfl | y
            · exact hb (.inr hlo)
            · rcases n b y with w | ⟨i, _, w⟩
              · rw [w] at z; cases z
              · exact hb (.inr (EA.2.2 i b w))
    · rcases n p hp with w | ⟨i, _, w⟩
      · exact E.baseS.free w
      · exact E.ow0 (EA.2.2 i p w)
    · rintro rfl
      rcases n p hp with w | ⟨i, hi, w⟩
      · rw [hl] at w; cases w
      · exact EA.2.1 i j p (fun z => hU (z ▸ hi)) w hlA
    · rcases z with z | z
      · exact .inl z
      · rcases List.mem_cons.mp z with rfl | z
        · exact .inr (List.mem_append_right _ hlo)
        · exact .inr (List.mem_append_left _ z)
end
noncomputable def outI : Option Out → Option (PyData × List PyData)
  | some (.rt (.tuple [d, .list es])) => some (d, es)
  | _ => none
noncomputable def runI (n m : Nat) (B : Rho → Option Out) (ds : List PyData) : Option (PyData × List PyData) := if ds.length = n then outI (B (ds.map some ++ List.replicate m none)) else none
theorem runI_some {n m : Nat} {B : Rho → Option Out} {ds : List PyData} {r : PyData × List PyData} (h : runI n m B ds = some r) : ds.length = n ∧ B (ds.map some ++ List.replicate m none) = some (.rt (.tuple [r.1, .list r.2])) := by
  unfold runI at h
  split at h
  · refine ⟨by assumption, ?_⟩
    unfold outI at h
    split at h
    · rename_i e
      cases h
      exact e
    · cases h
  · cases h
theorem fn_autoI {P : Program} {w : World} {K : PySem.W.Frag} {mg : Str → Option Value} {base : Heap} {x qual : Str} {st : Stmt} {f : Addr} {fd : FuncData} {N ps : List Str} {k j : Nat} {T : Ty} (O : Addr → Ow) (F : Fun K x qual st f fd) (S : FnScope N ps (defScope st))
    (hj : ∀ l, (O l).s.lookup j = some (.io l)) (hr' : ∀ l, (O l).r = T) (idx : List Nat) (hix : ∀ l, (O l).s.map (·.1) = idx) (hO : ∀ i ∈ idx, i = j ∨ ps.length ≤ i) (B : Rho → Option Out)
    (hbody : ∀ (l : Addr) (cdv : Value), CdOk K f cdv → ∀ (A : Around) (outer : List Env) (s : Shared) (H : Hp) (E : XK), Room k (A.deeper (envOfC qual (defScope st) s.heap.objs.size f cdv)) →
      PSI (cxOf CX0 P w K mg base N qual (defScope st) f cdv A outer s H E).nox (O l) l (defBody st) B) :
    FnOk P w K mg base CX0 (k + 1) f fd ps (spIO K j T (runI ps.length (N.length - ps.length) B)) := by
  refine fn_okC F S (fun vs H Q E h => ?_) (fun cdv hk A outer s H vs Q E hr h => ?_)
  · obtain ⟨hid, l, ws, es0, ds, r, h1, h2, h3, h4, h5, h6, h7, h8, h9, q⟩ := h
    rw [← h6]
    exact (runI_some h9).1
  · obtain ⟨hid, l, ws, es0, ds, r, h1, h2, h3, h4, h5, h6, h7, h8, h9, q⟩ := h
    refine L2.o_A (runI_some h9) fun hl hB => ?_
    refine ⟨_, hbody l cdv hk A outer s H E hr, ?_⟩
    have E0 : EnvOk K (O l) hid (del H fun b => b = l) (start N vs) H (ds.map some ++ List.replicate (N.length - ps.length) none) [l] := by
      have get : ∀ (i : Nat) (d : PyData), (ds.map some ++ List.replicate (N.length - ps.length) none)[i]? = some (some d) → ds[i]? = some d ∧ ∃ v, vs[i]? = some v ∧ (start N vs)[i]? = some (some v) := fun i d e => by
        by_cases hi : i < ds.length
        · rw [List.getElem?_append_left (by simpa using hi), List.getElem?_map] at e
          refine L2.o_EA (Option.map_eq_some_iff.mp e) fun d' e1 e2 => ?_
          cases e2
          have hv : i < vs.length := by omega
          refine ⟨e1, vs[i], List.getElem?_eq_getElem hv, ?_⟩
          unfold start
          rw [List.getElem?_append_left (by simpa using hv), List.getElem?_map, List.getElem?_eq_getElem hv]
          rfl
        · rw [List.getElem?_append_right (by simpa using Nat.le_of_not_lt hi), List.getElem?_replicate] at e
          split at e <;> cases e
      refine ⟨by unfold start; simp [h6, hl]; omega, fun b o e => ?_, fun i d hi e => ?_, ⟨fun i => if i = j then [l] else [], fun i t d hi e => ?_, fun i m p him hp hm => ?_, fun i p hp => ?_⟩, fun m hm => ?_, h1, fun z => ?_⟩
      · by_cases hb : b = l
        · rw [hb, del_eq] at e; cases e
        · rw [del_neq hb] at e
          rw [del_out fun z => hb (List.mem_singleton.mp z)]
          exact e
      · refine L2.o_AEA (get i d e) fun e1 v e2 e3 => ?_
        refine ⟨v, e3, h8 i v d (fun z => ?_) e2 e1⟩
        rw [z, hj l] at hi; cases hi
      · refine L2.o_AEA (get i d e) fun e1 v e2 e3 => ?_
        rcases hO i (hix l ▸ lookTy_mem hi) with rfl | z
        · rw [hj l] at hi
          cases hi
          rw [h3] at e2
          cases e2
          rw [h7] at e1
          cases e1
          dsimp only
          rw [if_pos rfl]
          exact ⟨_, e3, .io h4 h5⟩
        · have := (List.getElem?_eq_some_iff.mp e1).1
          omega
      · dsimp only at hp hm
        split at hp
        · split at hm
          · subst_vars; exact him rfl
          · cases hm
        · cases hp
      · dsimp only at hp
        split at hp
        · exact hp
        · cases hp
      · rw [List.mem_singleton.mp hm]
        exact ⟨⟨ws, h4⟩, h2⟩
      · have := hj l
        rw [z] at this
        cases this
    refine ⟨hid, _, _, [l], _, E0, hB, r.1, r.2, rfl, fun v as H' ws' s' hl' hD n Dv => q v as H' ws' s' hl' hD (fun p hp => ?_) (by rw [← hr' l]; exact Dv)⟩
    have := (n p hp).1
    rw [del_neq (n p hp).2] at this
    exact this
end L2
namespace L2
open PySem PySem.Spec PyProof.Rows
variable [Reg]
noncomputable def DefI (P : Program) (w : World) (K : PySem.W.Frag) (mg : Str → Option Value) (base : Heap) (k : Nat) (x : Str) (ps : List Str) (j : Nat) (T : Ty) (F : List PyData → Option (PyData × List PyData)) : Prop :=
  ∃ f fd, FnOk P w K mg base CX0 k f fd ps (spIO K j T F) ∧ mg x = some (.ref f) ∧ PySem.W.keepIn K (.ref f) = true ∧ Binds K fd ps [] ∧ PySem.W.nsIn K mainGlobals x = some (some (.ref f))
noncomputable def callN (F : List PyData → Option (PyData × List PyData)) (a : Option (List PyData)) (r : Option (List PyData)) : Option PyData := a.bind fun ds => r.bind fun es => (F (.list ds :: es)).map (·.1)
section
variable {X : Cx} {O : Ow} {a : Expr} {es : List Expr} {pos p : Pos} {fa fs : Rho → Option (List PyData)} {k : Nat} {ps : List Str} {x : Str} {T : Ty} {F : List PyData → Option (PyData × List PyData)}
theorem ft_callN (G : DefI X.prog X.w X.K X.mg X.base k x ps 0 T F) (hr : Room k X.A) (hg : Gl X x) (ha : PFc X O a fa) (hes : PAv X O es fs) (hdb : (x == ("__debug__" : Str)) = false := by decide) (he : starEach (a :: es) X.env = (false, eval a X.env) :: starEach es X.env := by rfl) (hpl : (backTo pos (starEach es X.env)).any (·.1) = false := by rfl) :
    PFt X O T (.Call (.Name x p) (a :: es) [] pos) (fun ρ => callN F (fa ρ) (fs ρ)) := by
  refine L2.o_EEAAAA (G) fun f fd g1 g2 g3 g4 _ => ?_
  exact (pe_call g1 hr hg g2 g3 g4 .nil pass0 (pa_cons ha hes he) hdb he hpl).imp fun σ H Q zpat => by
    obtain ⟨hid, H0, ρ, ow, d, E, hf, k⟩ := zpat
    obtain ⟨ds, e1, hf⟩ := bind_some hf
    obtain ⟨rs, e2, hf⟩ := bind_some hf
    obtain ⟨r, e3, rfl⟩ := map_some hf
    refine ⟨hid, H0, ρ, ow, ds, E, e1, fun l vs H1 s1 n1 q1 D1 => ?_⟩
    have E1 := E.hide s1 [l] fun p hp => ⟨vs, by rw [List.mem_singleton.mp hp]; exact q1⟩
    refine ⟨hid2 hid H [l], H0, ρ, ow, rs, E1, e2, fun us H2 s2 D2 => ?_⟩
    have sub : ∀ b, uni (uni hid ow) [l] b → uni (hid2 hid H [l]) ow b := fun b z => by
      rcases z with (z | z) | z
      · exact .inl (.inl z)
      · exact .inr z
      · exact .inl (.inr ⟨z, by rw [List.mem_singleton.mp z]; exact n1⟩)
    have E2 := (E.mono s1).mono s2
    refine ⟨uni hid ow, l, vs, ds, .list ds :: rs, r, E2.uniL, E.fresh n1, rfl, s2 _ _ q1, ?_, ?_, rfl, fun i v d hi hv hd => ?_, e3, fun v as H3 ws' s3 hl3 hD n3 Dv => ?_⟩
    · refine (D1.mono (del_mono s2 _)).mono (del_sub fun b z => ?_)
      rcases z with (z | z) | z
      · exact .inl z
      · exact .inr (List.mem_cons_of_mem _ z)
      · exact .inr (by rw [List.mem_singleton.mp z]; exact List.mem_cons_self)
    · rw [List.append_nil, List.length_cons, List.length_cons, D2.length]
    · rw [List.append_nil] at hv
      cases i with
      | zero => exact absurd rfl hi
      | succ i =>
        refine L2.o_EA (D2.get (show rs[i]? = some d from by simpa using hd)) fun v' h1 h2 => ?_
        have : us[i]? = some v := by simpa using hv
        rw [h1] at this
        cases this
        exact h2.mono (del_sub sub)
    · refine k v as H3 (fun b o e => s3 b o ?_) (fun p hp => (s1.trans s2).free (n3 p hp)) (Dv.mono (del_sub fun b z => ?_) fun p _ o e => e)
      · rw [del_neq (ne_of_none e n1)]
        exact s2 b o (s1 b o e)
      · rcases z with z | z
        · exact .inl (.inl z)
        · rcases List.mem_append.mp z with z | z
          · exact .inr (List.mem_cons_of_mem _ z)
          · exact .inl (.inr z)
end
end L2
namespace L2
open PySem PySem.Spec PyProof.Rows
variable [Reg]
section
variable {X : Cx} {O : Ow} {a b e : Expr} {fa fb f : Rho → Option PyData} {pos p : Pos}
end
section
variable {K : PySem.W.Frag} {O : Ow} {hid : Addr → Prop} {H0 H H' : Hp} {σ : St} {ρ : Rho} {ow : List Addr}
end
section
variable {X : Cx} {O : Ow} {e : Expr} {f : Rho → Option PyData} {pos : Pos} {T : Ty}
end
end L2
namespace L2
open PySem PySem.Spec PyProof.Rows
variable [Reg]
section
variable {X : Cx} {O : Ow} {a e : Expr} {fa f : Rho → Option PyData} {pos p : Pos} {cls fld : Str}
end
inductive KB (K : PySem.W.Frag) (x : Addr) (f1 f2 : Str) (B : Rho → Option (PyData × PyData)) (D : Ends) (σ : St) (H : Hp) : Prop
  | mk (hid : Addr → Prop) (H0 : Hp) (ρ : Rho) (r : PyData × PyData) (C dx : Addr) (E : EnvOk K O0 hid H0 σ H ρ []) (hx : σ[0]? = some (some (.ref x))) (hH : H x = some (.ins C dx [])) (hc : Cls K C) (n1 : NoAttr K C f1) (n2 : NoAttr K C f2) (hB : B ρ = some r) (l1 : lf r.1 = true) (l2 : lf r.2 = true)
      (k : ∀ σ' H' v1 v2, Same (del H fun b => b = x) H' → H' x = some (.ins C dx [(f1, v1), (f2, v2)]) → Den K (del H' fun b => hid b ∨ b = x) v1 r.1 → Den K (del H' fun b => hid b ∨ b = x) v2 r.2 → D.nx σ' H') : KB K x f1 f2 B D σ H
section
variable {X : Cx} {e : Expr} {st : Stmt} {rest : List Stmt} {f : Rho → Option PyData} {pos : Pos} {x : Addr} {f1 f2 : Str} {B : Rho → Option (PyData × PyData)}
end
inductive SpNew (K : PySem.W.Frag) (cls f1 f2 : Str) (F : List PyData → Option (PyData × PyData)) (vs : List V) (H : Hp) (Q : VK) : Prop
  | mk (hid : Addr → Prop) (x dx C : Addr) (us : List V) (ds : List PyData) (r : PyData × PyData) (e : vs = .ref x :: us) (hH : H x = some (.ins C dx [])) (hn : PySem.W.nsIn K mainGlobals cls = some (some (.ref C))) (h1 : ∀ b, hid b → ∃ vs, H b = some (.lst vs)) (D : DenL K (del H hid) us ds) (hF : F ds = some r)
      (k : ∀ H' v1 v2, Same (del H fun b => b = x) H' → H' x = some (.ins C dx [(f1, v1), (f2, v2)]) → Den K (del H' fun b => hid b ∨ b = x) v1 r.1 → Den K (del H' fun b => hid b ∨ b = x) v2 r.2 → Q .non H') : SpNew K cls f1 f2 F vs H Q
noncomputable def spNew (K : PySem.W.Frag) (cls f1 f2 : Str) (F : List PyData → Option (PyData × PyData)) : Sp := fun vs H Q _ => SpNew K cls f1 f2 F vs H Q
noncomputable def DefN (P : Program) (w : World) (K : PySem.W.Frag) (mg : Str → Option Value) (base : Heap) (k : Nat) (cls : Str) (ps : List Str) (f1 f2 : Str) (F : List PyData → Option (PyData × PyData)) : Prop :=
  ∃ C f fd, Mk K C f ∧ FnOk P w K mg base CX0 k f fd ps (spNew K cls f1 f2 F) ∧ mg cls = some (.ref C) ∧ PySem.W.nsIn K mainGlobals cls = some (some (.ref C)) ∧ Binds K fd ps []
section
variable {X : Cx} {O : Ow} {a : Expr} {es : List Expr} {pos p : Pos} {fs : Rho → Option (List PyData)} {k : Nat} {ps : List Str} {cls f1 f2 : Str} {F : List PyData → Option (PyData × PyData)}
end
end L2
namespace L2
open PySem PySem.Spec PyProof.Rows
variable [Reg]
section
variable {X : Cx} {O : Ow} {e : Expr} {f : Rho → Option PyData} {T : Ty}
theorem PFt.v (h : PFt X O T e f) : PV X O e f := h.imp fun σ H Q zpat => by
  obtain ⟨hid, H0, ρ, ow, d, E, hf, k⟩ := zpat
  refine ⟨hid, H0, ρ, ow, d, E, hf, fun v as H' s n D => k v H' s (D.raw (del_sub fun b z => ?_) fun p hp o q => ?_)⟩
  · rcases z with z | z
    · exact .inl z
    · exact .inr (List.mem_append_right _ z)
  · rw [del_out (E.fresh (n p hp))]
    exact q
theorem PFt.fc (h : PFt X O (.lst .cl) e f) : PFc X O e (fun ρ => (f ρ).bind listD) := h.imp fun σ H Q zpat => by
  obtain ⟨hid, H0, ρ, ow, ds, E, hf, k⟩ := zpat
  obtain ⟨d, h1, h2⟩ := bind_some hf
  rw [listD_some h2] at h1
  refine ⟨hid, H0, ρ, ow, _, E, h1, fun v as H' s n D => ?_⟩
  cases D with
  | @lst _ l vs _ as q r m =>
    refine L2.o_A (r.dl) fun dl zq1 => ?_
    subst zq1
    exact k l vs H' s (n l List.mem_cons_self) q dl
end
section
variable {X : Cx} {O : Ow} {i : Nat} {x : Str} {pos' spos : Pos} {elt tg iter : Expr} {ifs : List Expr} {scope : Scope} {pos : Pos} {fi : Rho → Option (List PyData)} {S : PyData → Rho → Option Rho} {ft : Rho → Option Bool} {fe : Rho → Option PyData} {k : Nat} {N : List Str} {ix : List Nat} {T : Ty}
end
inductive ClsAt (K : PySem.W.Frag) (cls : Str) (st : Stmt) (f1 f2 : Str) : Prop
  | mk (C f : Addr) (fd : FuncData) (a : PySem.W.nsIn K mainGlobals cls = some (some (.ref C))) (m1 : PySem.W.makesIn K C = true) (m2 : PySem.W.findIn K (.ref C) "__init__" = some (some (.ref f))) (m3 : PySem.W.isFn K (.ref f) = true) (m4 : PySem.W.keepIn K (.ref C) = true)
      (c1 : PySem.W.plainGet K C Str.empty = true) (c2 : PySem.W.hasDictIn K C = true) (c3 : PySem.W.plainOver K C = true) (c4 : PySem.W.findIn K (.ref C) "__setattr__" = some (some (.builtin "object.__setattr__"))) (n1 : PySem.W.findIn K (.ref C) f1 = some none) (n2 : PySem.W.findIn K (.ref C) f2 = some none)
      (F : Fun K "__init__" (cls ++ ".__init__") st f fd) : ClsAt K cls st f1 f2
section
variable {P : Program} {w : World} {K : PySem.W.Frag} {h : Heap} {mg : Str → Option Value} {base : Heap} {cls f1 f2 : Str} {st : Stmt} {k : Nat} {ps : List Str}
theorem ClsAt.ok {F : List PyData → Option (PyData × PyData)} (d : ClsAt K cls st f1 f2) (X : K.In h) (G : h.Ns mainGlobals mg)
    (hb : ∀ (kV doc pm : Value) (an : Option Addr) (cdv ct : Value) (us : List Value), us.length = ps.length → bindArgs (PySem.W.fnOf "__init__" (cls ++ ".__init__") (defArgs st) (defBody st) (defScope st) .none kV doc pm an cdv ct) ⟨us, []⟩ = pure (ps.zip us))
    (ok : ∀ f fd, Fun K "__init__" (cls ++ ".__init__") st f fd → FnOk P w K mg base CX0 k f fd ps (spNew K cls f1 f2 F)) : DefN P w K mg base k cls ps f1 f2 F := by
  cases d with
  | mk C f fd a m1 m2 m3 m4 c1 c2 c3 c4 n1 n2 D => exact ⟨C, f, fd, ⟨m1, m2, m3, m4⟩, ok f fd D, PySem.W.mg_of X G a, a, D.binds hb⟩
end
end L2
namespace L2
open PySem PySem.Spec PyProof.Rows
variable [Reg]
inductive FnAt (K : PySem.W.Frag) (x : Str) (st : Stmt) : Prop
  | mk (f : Addr) (fd : FuncData) (a : PySem.W.nsIn K mainGlobals x = some (some (.ref f))) (F : Fun K x x st f fd) : FnAt K x st
section
variable {P : Program} {w : World} {K : PySem.W.Frag} {h : Heap} {mg : Str → Option Value} {base : Heap} {x : Str} {st : Stmt} {k : Nat} {ps : List Str} {T : Ty}
theorem FnAt.ok {F : List PyData → Option PyData} (d : FnAt K x st) (X : K.In h) (G : h.Ns mainGlobals mg)
    (hb : ∀ (kV doc pm : Value) (an : Option Addr) (cdv ct : Value) (us : List Value), us.length = ps.length → bindArgs (PySem.W.fnOf x x (defArgs st) (defBody st) (defScope st) .none kV doc pm an cdv ct) ⟨us, []⟩ = pure (ps.zip us))
    (ok : ∀ f fd, PySem.W.nsIn K mainGlobals x = some (some (.ref f)) → Fun K x x st f fd → FnOk P w K mg base CX0 k f fd ps (spR K T F)) : DefOk P w K mg base k x ps T F := by
  cases d with
  | mk f fd a D => exact ⟨f, fd, ok f fd a D, PySem.W.mg_of X G a, D.kp, D.binds hb, a⟩
theorem FnAt.law {F : List PyData → Option PyData} {fa : Addr} {v0 : Str} (d : FnAt K x st) (X : K.In h) (G : h.Ns mainGlobals mg) (hfa : mg x = some (.ref fa))
    (hb : ∀ (kV doc pm : Value) (an : Option Addr) (cdv ct : Value) (s : Shared) (v : Value), BindsTo s (PySem.W.fnOf x x (defArgs st) (defBody st) (defScope st) .none kV doc pm an cdv ct) ⟨[v], []⟩ [(v0, v)])
    (ok : ∀ base f fd, Fun K x x st f fd → FnOk P w K mg base CX0 k f fd ps (spR K T F)) :
    ∃ fd : FuncData, (∀ (s : Shared) (v : Value), BindsTo s fd ⟨[v], []⟩ [(v0, v)]) ∧ ∀ base : Heap, K.In base → base.Ns mainGlobals mg → FnOk P w K mg base CX0 k fa fd ps (spR K T F) := by
  cases d with
  | mk f fd a D =>
    cases hfa.symm.trans (PySem.W.mg_of X G a)
    refine ⟨fd, ?_, fun base _ _ => ok base _ fd D⟩
    refine L2.o_EEEEEEEEEAA (D.ex) fun oc od kV doc pm an cdv ct osl e _ _ => ?_
    subst e
    exact hb kV doc pm an cdv ct
end
noncomputable def noName (K : PySem.W.Frag) (x : Str) : Bool := match PySem.W.nsIn K mainGlobals x with
  | some none => true
  | _ => false
noncomputable def noNames (K : PySem.W.Frag) (xs : List Str) : Bool := xs.all (noName K)
theorem noNames_get {K : PySem.W.Frag} {h : Heap} {mg : Str → Option Value} {xs : List Str} {x : Str} (X : K.In h) (G : h.Ns mainGlobals mg) (q : noNames K xs = true) (i : Nat) (hi : xs[i]? = some x) : mg x = none := by
  have h1 := List.all_eq_true.mp q x (List.mem_of_getElem? hi)
  refine PySem.W.mg_none_of X G ?_
  unfold noName at h1
  generalize PySem.W.nsIn K mainGlobals x = o at h1 ⊢
  cases o with
  | none => cases h1
  | some v => cases v with
    | none => rfl
    | some v => cases h1
end L2
namespace L2
open PySem PySem.Spec PyProof.Rows
noncomputable def bd (a : Int) (n : Nat) : Prop := a.natAbs < 2 ^ n
theorem bd.mono {a : Int} {m n : Nat} (h : bd a m) (hn : m ≤ n) : bd a n := Nat.lt_of_lt_of_le h (Nat.pow_le_pow_right (by decide) hn)
theorem bd.add {a b : Int} {n : Nat} (h : bd a n) (h' : bd b n) : bd (a + b) (n + 1) := Nat.lt_of_le_of_lt (Int.natAbs_add_le a b) (by rw [Nat.pow_succ, Nat.mul_two]; exact Nat.add_lt_add h h')
theorem bd.sub {a b : Int} {n : Nat} (h : bd a n) (h' : bd b n) : bd (a - b) (n + 1) := by
  rw [Int.sub_eq_add_neg]
  exact bd.add h (show (-b).natAbs < 2 ^ n from by rw [Int.natAbs_neg]; exact h')
theorem bd.neg {a : Int} {n : Nat} (h : bd a n) : bd (-a) n := show (-a).natAbs < 2 ^ n from by rw [Int.natAbs_neg]; exact h
theorem bd.big {a : Int} {n : Nat} (h : bd a n) (hn : n ≤ 1000) : isBig a = true := by
  unfold isBig L2.big
  exact decide_eq_true (h.mono hn)
theorem consD_ss (d : PyData) (r : List PyData) : consD (some d) (some r) = some (d :: r) := rfl
theorem testD_s (b : Bool) : testD (some (.bool b)) = some b := rfl
theorem condO_t {α : Type} (a b : Option α) : condO (some true) a b = a := rfl
theorem condO_f {α : Type} (a b : Option α) : condO (some false) a b = b := rfl
theorem andB_t (y : Option Bool) : andB (some true) y = y := rfl
theorem andB_f (y : Option Bool) : andB (some false) y = some false := rfl
theorem orB_t (y : Option Bool) : orB (some true) y = some true := rfl
theorem orB_f (y : Option Bool) : orB (some false) y = y := rfl
theorem andV_t (y : Option PyData) : andV (some (.bool true)) y = y := rfl
theorem andV_f (y : Option PyData) : andV (some (.bool false)) y = some (.bool false) := rfl
theorem orV_t (y : Option PyData) : orV (some (.bool true)) y = some (.bool true) := rfl
theorem orV_f (y : Option PyData) : orV (some (.bool false)) y = y := rfl
theorem notV_s (b : Bool) : notV (some (.bool b)) = some (.bool (!b)) := rfl
theorem setO_s (i : Nat) (ρ : Rho) (d : PyData) : setO i ρ (some d) = some (.nx (ρ.set i (some d))) := rfl
theorem setLO_s (i : Nat) (ρ : Rho) (d : List PyData) : setLO i ρ (some d) = some (.nx (ρ.set i (some (.list d)))) := rfl
theorem dropO_s (ρ : Rho) (d : PyData) : dropO ρ (some d) = some (.nx ρ) := rfl
theorem forO_s (S : PyData → Rho → Option Rho) (F : Rho → Option Out) (ds : List PyData) (ρ : Rho) : forO S F (some ds) ρ = forD S F ds ρ := rfl
theorem compO_s {S : PyData → Rho → Option Rho} {ft : Rho → Option Bool} {fe : Rho → Option PyData} {ds : List PyData} {ρ : Rho} (h : ds.length ≤ 1000) : compO S ft fe (some ds) ρ = compD S ft fe ds ρ := by
  unfold compO
  rw [Option.bind_some, if_pos (decide_eq_true h)]
theorem asgO_s (S : PyData → Rho → Option Rho) (ρ : Rho) (d : PyData) : asgO S ρ (some d) = (S d ρ).map .nx := rfl
noncomputable def thenO (o : Option Out) (G : Rho → Option Out) : Option Out := o.bind fun o => match o with
  | .nx ρ' => G ρ'
  | .rt d => some (.rt d)
  | .bk ρ' => some (.bk ρ')
  | .ct ρ' => some (.ct ρ')
theorem seqF_def (F G : Rho → Option Out) (ρ : Rho) : seqF F G ρ = thenO (F ρ) G := rfl
theorem thenO_nx (ρ : Rho) (G : Rho → Option Out) : thenO (some (.nx ρ)) G = G ρ := rfl
theorem thenO_rt (d : PyData) (G : Rho → Option Out) : thenO (some (.rt d)) G = some (.rt d) := rfl
theorem short2 {f : List PyData → PyData} (a b : PyData) : shortD f (some [a, b]) = some (f [a, b]) := rfl
theorem shortL0 : shortL (some []) = some [] := rfl
theorem shortL1 (a : PyData) : shortL (some [a]) = some [a] := rfl
theorem shortL2 (a b : PyData) : shortL (some [a, b]) = some [a, b] := rfl
theorem shortL3 (a b c : PyData) : shortL (some [a, b, c]) = some [a, b, c] := rfl
theorem shortL4 (a b c d : PyData) : shortL (some [a, b, c, d]) = some [a, b, c, d] := rfl
theorem lenD_l (ds : List PyData) : lenD [.list ds] = some (.int ds.length) := rfl
theorem lenD_t (ds : List PyData) : lenD [.tuple ds] = some (.int ds.length) := rfl
theorem listD_l (ds : List PyData) : listD (.list ds) = some ds := rfl
theorem tupD_t (ds : List PyData) : tupD (.tuple ds) = some ds := rfl
theorem seqD_l (ds : List PyData) : seqD (.list ds) = some ds := rfl
theorem outD_rt (d : PyData) : outD (some (.rt d)) = some d := rfl
theorem outD_nx (ρ : Rho) : outD (some (.nx ρ)) = some .none := rfl
theorem bind2_ss (x y : PyData) (g : PyData → PyData → Option PyData) : bind2 (some x) (some y) g = g x y := rfl
theorem fdivD_ok {a b : Int} (h0 : 0 < b) (hb : isBig b = true) : fdivD (.int a) (.int b) = some (.int (a / b)) := by
  have : b ≠ 0 := by omega
  simp [fdivD, int2C, hb, this, Int.fdiv_eq_ediv_of_nonneg a (by omega : 0 ≤ b)]
theorem modD_ok {a b : Int} (h0 : 0 < b) : modD (.int a) (.int b) = some (.int (a % b)) := by
  have : b ≠ 0 := by omega
  simp [modD, int2C, this, Int.fmod_eq_emod_of_nonneg a (by omega : 0 ≤ b)]
theorem addD_ok (a b : Int) : addD (.int a) (.int b) = some (.int (a + b)) := rfl
theorem subD_ok (a b : Int) : subD (.int a) (.int b) = some (.int (a - b)) := rfl
theorem ltD_ok (a b : Int) : ltD (.int a) (.int b) = some (.bool (decide (a < b))) := rfl
theorem leD_ok (a b : Int) : leD (.int a) (.int b) = some (.bool (decide (a ≤ b))) := rfl
theorem gtD_ok (a b : Int) : gtD (.int a) (.int b) = some (.bool (decide (b < a))) := rfl
theorem geD_ok (a b : Int) : geD (.int a) (.int b) = some (.bool (decide (b ≤ a))) := rfl
theorem shaped_int (a : Int) : SeqAt.shaped (.int a) = true := by simp [SeqAt.shaped, PyData.canLay0, PyData.depth]
theorem eqD_int (a b : Int) : eqD (.int a) (.int b) = some (.bool (a == b)) := by simp [eqD, shaped_int, PyData.eqv]
theorem neD_int (a b : Int) : neD (.int a) (.int b) = some (.bool (!(a == b))) := by simp [neD, shaped_int, PyData.eqv]
theorem filt {α : Type} {p : α → Bool} {x : α} (h : p x = true) : (some x).filter p = some x := by rw [Option.filter_some, if_pos h]
noncomputable def encP (p : Int × Int) : PyData := .tuple [.int p.1, .int p.2]
noncomputable def encL (ps : List (Int × Int)) : PyData := .list (ps.map encP)
theorem ix_pair0 (a b : PyData) : ixD (.tuple [a, b]) (.int 0) = some a := rfl
theorem ix_pair1 (a b : PyData) : ixD (.tuple [a, b]) (.int 1) = some b := rfl
theorem canLay_encs : ∀ ps : List (Int × Int), PyData.canLayAll0 (ps.map encP) = true ∧ PyData.depthAll (ps.map encP) ≤ 1
  | [] => by simp [PyData.canLayAll0, PyData.depthAll]
  | p :: r => by
    obtain ⟨h1, h2⟩ := canLay_encs r
    simp [PyData.canLayAll0, PyData.depthAll, encP, PyData.canLay0, PyData.depth, h1]
    exact Nat.max_le.mpr ⟨Nat.le_refl _, h2⟩
theorem shaped_encL (ps : List (Int × Int)) : SeqAt.shaped (encL ps) = true := by
  obtain ⟨h1, h2⟩ := canLay_encs ps
  simp [SeqAt.shaped, encL, PyData.canLay0, PyData.depth, h1]
  omega
theorem eqv_encP (p q : Int × Int) : PyData.eqv (encP p) (encP q) = decide (p = q) := by
  obtain ⟨a, b⟩ := p
  obtain ⟨c, d⟩ := q
  rw [Bool.eq_iff_iff]
  simp [encP, PyData.eqv, PyData.eqvAll]
theorem eqv_encs : ∀ ps qs : List (Int × Int), PyData.eqvAll (ps.map encP) (qs.map encP) = decide (ps = qs)
  | [], [] => by simp [PyData.eqvAll]
  | [], _ :: _ => by simp [PyData.eqvAll]
  | _ :: _, [] => by simp [PyData.eqvAll]
  | p :: r, q :: t => by
    rw [List.map_cons, List.map_cons, PyData.eqvAll, eqv_encP, eqv_encs r t, Bool.eq_iff_iff]
    simp
theorem neD_encL (p q : List (Int × Int)) : neD (encL p) (encL q) = some (.bool (!decide (p = q))) := by
  have : PyData.eqv (encL p) (encL q) = decide (p = q) := by rw [encL, encL, PyData.eqv]; exact eqv_encs p q
  simp [neD, shaped_encL, this]
theorem atI_of {α : Type} {xs : List α} {k : Int} {x : α} (h0 : 0 ≤ k) (h : xs[k.toNat]? = some x) : atI xs k = some x := by
  have := atI_nat h
  rwa [Int.toNat_of_nonneg h0] at this
theorem lf_encP (p : Int × Int) : lf (encP p) = true := rfl
theorem appD_ok {i : Nat} {ρ : Rho} {ds : List PyData} {d : PyData} (h : ρ[i]? = some (some (.list ds))) (hl : ds.length < 1000) : appD i ρ d = some (.nx (ρ.set i (some (.list (ds ++ [d]))))) := by
  unfold appD
  rw [h]
  simp only [Option.join_some, Option.bind_some, listD]
  rw [if_pos (decide_eq_true hl)]
theorem rngL_get {n i : Nat} {d : PyData} (h : (rngL 0 n)[i]? = some d) : i < n ∧ d = .int (i : Nat) := by
  unfold rngL at h
  rw [List.getElem?_map] at h
  cases e : (List.range n)[i]? with
  | none => rw [e] at h; cases h
  | some j =>
    rw [e] at h
    obtain ⟨h1, h2⟩ := List.getElem?_eq_some_iff.mp e
    have h3 : i = j := by simpa using h2
    subst h3
    have h4 : PyData.int (0 + (i : Nat)) = d := Option.some.inj h
    exact ⟨by simpa using h1, by rw [← h4, Int.zero_add]⟩
theorem forD_inv {S : PyData → Rho → Option Rho} {F : Rho → Option Out} (I : Nat → Rho → Prop) : ∀ (ds : List PyData) (k : Nat) (ρ : Rho), I k ρ →
    (∀ (i : Nat) (d : PyData) (ρ : Rho), ds[i]? = some d → I (k + i) ρ → ∃ ρ1 ρ2, S d ρ = some ρ1 ∧ F ρ1 = some (.nx ρ2) ∧ I (k + i + 1) ρ2) → ∃ ρ', forD S F ds ρ = some (.nx ρ') ∧ I (k + ds.length) ρ'
  | [], k, ρ, h, _ => ⟨ρ, rfl, h⟩
  | d :: r, k, ρ, h, step => by
    obtain ⟨ρ1, ρ2, h1, h2, h3⟩ := step 0 d ρ rfl h
    obtain ⟨ρ', h4, h5⟩ := forD_inv I r (k + 1) ρ2 h3 fun i d' ρ' hd hi => by
      have := step (i + 1) d' ρ' (by simpa using hd) (by rw [show k + (i + 1) = k + 1 + i by omega]; exact hi)
      rwa [show k + (i + 1) + 1 = k + 1 + i + 1 by omega] at this
    refine ⟨ρ', ?_, ?_⟩
    · rw [forD, h1, Option.bind_some, h2, Option.bind_some]
      exact h4
    · rw [List.length_cons, show k + (r.length + 1) = k + 1 + r.length by omega]
      exact h5
theorem compD_map {α β : Type} {S : PyData → Rho → Option Rho} {fe : Rho → Option PyData} (ea : α → PyData) (eb : β → PyData) (g : α → β) (R : Rho → Prop) (ok : α → Prop)
    (hS : ∀ x ρ, ok x → R ρ → ∃ ρ1, S (ea x) ρ = some ρ1 ∧ R ρ1 ∧ fe ρ1 = some (eb (g x))) : ∀ (xs : List α) (ρ : Rho), R ρ → (∀ x ∈ xs, ok x) → compD S (fun _ => some true) fe (xs.map ea) ρ = some ((xs.map g).map eb)
  | [], ρ, _, _ => rfl
  | x :: r, ρ, h, ho => by
    obtain ⟨ρ1, h1, h2, h3⟩ := hS x ρ (ho x List.mem_cons_self) h
    rw [List.map_cons, compD, h1]
    simp only [Option.bind_some, if_true, h3]
    rw [compD_map ea eb g R ok hS r ρ1 h2 fun y hy => ho y (List.mem_cons_of_mem _ hy)]
    rfl
structure Fr1 (p : Int × Int) : Prop where
  pos : 0 < p.2
  co : Int.gcd p.1 p.2 = 1
theorem natAbs_ediv_le (a : Int) {g : Int} (h : 0 < g) : (a / g).natAbs ≤ a.natAbs := by
  have h1 : g * (a / g) ≤ a := Int.mul_ediv_self_le (by omega)
  have h2 : a < g * (a / g) + g := Int.lt_mul_ediv_self_add h
  rcases Int.lt_or_le (a / g) 0 with hn | hn
  · have : g * (a / g) ≤ 1 * (a / g) := Int.mul_le_mul_of_nonpos_right (by omega) (by omega)
    have h3 : a < 0 := by
      have : g * (a / g) ≤ g * (-1) := Int.mul_le_mul_of_nonneg_left (by omega) (by omega)
      omega
    have h4 : a ≤ a / g := by
      have : a / g ≥ a := by
        have := Int.le_ediv_of_mul_le h (show a * g ≤ a by
          have : a * g ≤ a * 1 := Int.mul_le_mul_of_nonpos_left (by omega) (by omega)
          omega)
        omega
      omega
    omega
  · have : 1 * (a / g) ≤ g * (a / g) := Int.mul_le_mul_of_nonneg_right (by omega) hn
    omega
theorem gcd_step {a b : Int} (h : 0 < b) : Int.gcd b (a % b) = Int.gcd a b := by
  rw [Int.gcd_comm a b]
  conv => rhs; rw [← Int.mul_ediv_add_emod a b, Int.add_comm]
  rw [Int.gcd_add_mul_left_right]
end L2
namespace L2
open PySem PySem.Spec PyProof.Rows
end L2
namespace L2
open PySem PySem.Spec PyProof.Rows
variable [Reg]
section
variable {P : Program} {w : World} {K : PySem.W.Frag} {h : Heap} {mg : Str → Option Value} {base : Heap} {x : Str} {st : Stmt} {k : Nat} {ps : List Str} {T : Ty}
end
variable {K : PySem.W.Frag} {h : Heap} {mg : Str → Option Value} {exs : List Str} {x T : Str}
inductive ExcAt (K : PySem.W.Frag) (x : Str) : Prop
  | mk (C : Addr) (ns : PySem.W.nsIn K mainGlobals x = some (some (.ref C))) (e : XNo K C) : ExcAt K x
end L2
namespace L2
open PySem PySem.Spec PyProof.Rows
variable [Reg]
noncomputable def Itc (lo : Int) (n : Nat) : It := ⟨fun i _ => i < n, fun i H x H' => H' = H ∧ x = .int (lo + (i : Nat) * 2), fun i _ => n ≤ i⟩
theorem turn_two {P : Program} {w : World} {K : PySem.W.Frag} {tg : Expr} (it : Addr) (lo : Int) (n : Nat) : Turn P w K tg (Itc lo n) [it] it (fun i h => IsRangeIter h it (lo + (i : Nat) * 2) ((n : Int) - (i : Nat)) 2) where
  mem := by simp
  obj := fun i h st b hb => by
    obtain rfl : b = it := by simpa using hb
    exact ⟨_, st, fun v z => by cases (show Data.fields _ = Data.cell v from z)⟩
  keep := fun i h h' st k => k it (by simp) _ st
  item := by
    intro X hP hw hK hc i pins s σ H E I hf st hg
    subst hP hw hK
    refine L2.o_AAAAA (hf it (by simp)) fun f0 f1 f2 f3 f4 f5 => ?_
    refine (Walks.range (prog := X.prog) (w := X.w) (I.ok.hd hc) it lo 2 n).item i s _ _ hg st fun v h' tk hv st' kk => ?_
    revert hv
    refine fun zqq => L2.o_E zqq fun t zq1 => ?_
    clear zqq
    subst zq1
    have I1 : Inv X pins σ H { s with heap := h', toks := tk } := I.turned (fun b o hb e => kk b o (by simpa using hb) e) f0 f1 f3 f4 f5
    exact ⟨_, rfl, go_of (s := { s with heap := h', toks := tk }) (n := "range_iterator") st' rfl rfl (by decide) ⟨.int (lo + (i : Nat) * 2), H, I1, ⟨t, rfl⟩, ⟨rfl, rfl⟩, st', fun b hb => (hf b hb).1⟩⟩
  done := by
    intro X hP hw hK hc i pins s σ H E I hf st hg
    subst hP hw hK
    refine L2.o_AAAAA (hf it (by simp)) fun f0 f1 f2 f3 f4 f5 => ?_
    exact wpAny_pyNext_range_end (I.ok.hd hc) st (by have : n ≤ i := hg; omega) fun h' eb => ⟨rfl, I.turned (t' := s.toks) (fun b o hb e => eb b o hb e) f0 f1 f3 f4 f5⟩
  self := fun _ _ _ _ _ st h => wpAny_pyIter_rangeiter st h
theorem size_two (a b : Int) : Builtin.Range.rangeSize a b 2 = (((b - a + 1) / 2).toNat : Int) := by
  unfold Builtin.Range.rangeSize
  rw [if_pos (by decide)]
  split <;> omega
theorem small_two {a b : Int} (ha : -(2 ^ 61) ≤ a) (ha' : a < 2 ^ 61) (hb : -(2 ^ 61) ≤ b) (hb' : b < 2 ^ 61) : Builtin.Range.small a b 2 = true := by
  unfold Builtin.Range.small
  rw [size_two]
  simp only [Builtin.Range.rangeFitsLong, Bool.and_eq_true, Bool.or_eq_true, decide_eq_true_eq, beq_iff_eq, show (2 : Int) > 0 by decide, if_true]
  omega
section
variable {X : Cx} {tg : Expr}
noncomputable def iRng3 (ta : TA) : TI := fun σ H R => ta σ H fun vs H1 => ∃ i j : Int, vs = [.int i, .int j, .int 2] ∧ (-(2 ^ 61) ≤ i ∧ i < 2 ^ 61 ∧ -(2 ^ 61) ≤ j ∧ j < 2 ^ 61) ∧ R (Itc i ((j - i + 1) / 2).toNat) H1
theorem range_two {pins : List (Addr × Obj)} {σ : St} {H : Hp} {s : Shared} {R : It → Hp → Prop} {E : Value → Shared → Prop} {lo hi : Int} {t u v : Tok} {tk : Nat} (I : Inv X pins σ H s) (h1 : -(2 ^ 61) ≤ lo) (h2 : lo < 2 ^ 61) (h3 : -(2 ^ 61) ≤ hi) (h4 : hi < 2 ^ 61)
    (q : R (Itc lo ((hi - lo + 1) / 2).toNat) H) : wpAny (model X.prog X.w) X.A (pyIter (.ref s.heap.objs.size)) (PIE X pins σ tg R) E { s with heap := s.heap.push { cls := .type "range", data := .fields #[.int lo t, .int hi u, .int 2 v] }, toks := tk } := by
  refine wpAny_pyIter_range (IsRange.new ..) (small_two h1 h2 h3 h4) ?_
  have I1 : Inv X pins σ H { s with heap := s.heap.push { cls := .type "range", data := .fields #[.int lo t, .int hi u, .int 2 v] }, toks := tk } := I.kept fun b o e => Heap.get?_push_of_some _ e
  refine L2.i_EEEEEAAAAA (_) ([(s.heap.push { cls := .type "range", data := .fields #[.int lo t, .int hi u, .int 2 v] }).objs.size]) (_) (_) (H) (rfl) (I1.kept (t' := tk) fun b o e => Heap.get?_push_of_some _ e) (turn_two _ lo ((hi - lo + 1) / 2).toNat) ?_ (fun b hb => ?_) (q)
  · show IsRangeIter _ _ (lo + ((0 : Nat) : Int) * 2) (((((hi - lo + 1) / 2).toNat : Nat) : Int) - ((0 : Nat) : Int)) 2
    rw [show lo + ((0 : Nat) : Int) * 2 = lo by simp, show (((((hi - lo + 1) / 2).toNat : Nat) : Int) - ((0 : Nat) : Int)) = Builtin.Range.rangeSize lo hi 2 by rw [size_two]; omega]
    exact Heap.get?_push_size _ rfl
  · obtain rfl : b = (s.heap.push { cls := .type "range", data := .fields #[.int lo t, .int hi u, .int 2 v] }).objs.size := by simpa using hb
    exact I1.fpOk (Nat.le_refl _) (I1.hok.fresh (Nat.le_refl _))
theorem pi_range3 {a b c : Expr} {ta : TA} {p pos : Pos} (hg : Gl X "range") (hm : X.mg "range" = none) (ha : PA X [a, b, c] ta) (hs : starEach [a, b, c] X.env = [(false, eval a X.env), (false, eval b X.env), (false, eval c X.env)] := by rfl) (hs2 : starEach [b, c] X.env = [(false, eval b X.env), (false, eval c X.env)] := by rfl) :
    PI X tg (.Call (.Name "range" p) [a, b, c] [] pos) (iRng3 ta) := by
  intro pins s σ H R I h
  refine Call_ (ld_blt I hg hm boot_range (PyProof.Rows.callWith_type1 (thn (ha pos pins s σ H _ I h) fun us s1 ⟨vs, H1, I1, r1, q1⟩ => ?_) (by rw [hs, hs2]) (by rw [hs2]; rfl)))
  obtain ⟨i, j, e, ⟨q1, q2, q3, q4⟩, q⟩ := q1
  subst e
  cases r1 with
  | cons r rr =>
    cases rr with
    | cons r' rr =>
      cases rr with
      | cons r'' rr =>
        cases rr
        revert r
        refine fun zqq => L2.o_E zqq fun t zq1 => ?_
        clear zqq
        subst zq1
        revert r'
        refine fun zqq => L2.o_E zqq fun t' zq1 => ?_
        clear zqq
        subst zq1
        revert r''
        refine fun zqq => L2.o_E zqq fun t'' zq1 => ?_
        clear zqq
        subst zq1
        exact call_range_3 (by decide) (range_two I1 q1 q2 q3 q4 q) (.inl (PyProof.noPylong_small (by decide)))
noncomputable def rngL2 (lo : Int) (n : Nat) : List PyData := (List.range n).map fun i => .int (lo + (i : Nat) * 2)
noncomputable def rng3D : List PyData → Option (List PyData)
  | [.int i, .int j, .int k] => if (decide (i.natAbs < 2 ^ 60) && (decide (j.natAbs < 2 ^ 60) && decide (k = 2))) = true then some (rngL2 i ((j - i + 1) / 2).toNat) else none
  | _ => none
theorem rng3D_some {ds es : List PyData} (h : rng3D ds = some es) : ∃ i j, ds = [.int i, .int j, .int 2] ∧ (-(2 ^ 61) ≤ i ∧ i < 2 ^ 61 ∧ -(2 ^ 61) ≤ j ∧ j < 2 ^ 61) ∧ es = rngL2 i ((j - i + 1) / 2).toNat := by
  unfold rng3D at h
  split at h
  · rename_i i j k
    split at h
    · rename_i hc
      simp only [Bool.and_eq_true, decide_eq_true_eq] at hc
      revert hc
      refine fun zqq => L2.o_AA zqq fun h1 h2 zq2 => ?_
      clear zqq
      subst zq2
      cases h
      exact L2.i_EEAA (i) (j) (rfl) (by omega) (rfl)
    · cases h
  · cases h
theorem good_two {K : PySem.W.Frag} {G : Hp} (lo : Int) (n : Nat) : GoodIt K (Itc lo n) G (rngL2 lo n) where
  go := fun H2 i s h => by
    have : i < n := by simpa [rngL2] using h
    exact this
  yld := fun H2 i x H3 d s h y => by
    revert y
    refine fun zqq => L2.o_A zqq fun zq0 zq1 => ?_
    clear zqq
    subst zq0
    subst zq1
    unfold rngL2 at h
    rw [List.getElem?_map] at h
    refine L2.o_EA (Option.map_eq_some_iff.mp h) fun j hj zq2 => ?_
    subst zq2
    refine L2.o_E (List.getElem?_eq_some_iff.mp hj) fun h1 h2 => ?_
    rw [List.getElem_range] at h2
    subst h2
    exact .inl ⟨rfl, .int _⟩
  stop := fun H2 s => by
    show n ≤ (rngL2 lo n).length
    simp [rngL2]
variable {O : Ow} {a b c : Expr} {p pos : Pos} {fs : Rho → Option (List PyData)}
theorem iv_rng3 (hg : Gl X "range") (hm : X.mg "range" = none) (ha : PAr X O [a, b, c] fs) (hs : starEach [a, b, c] X.env = [(false, eval a X.env), (false, eval b X.env), (false, eval c X.env)] := by rfl) (hs2 : starEach [b, c] X.env = [(false, eval b X.env), (false, eval c X.env)] := by rfl) :
    PIv X O tg (.Call (.Name "range" p) [a, b, c] [] pos) (fun ρ => (fs ρ).bind rng3D) :=
  (pi_range3 hg hm ha hs hs2).imp fun σ H R zpat => by
    obtain ⟨hid, H0, ρ, ow, ds, E, hf, k⟩ := zpat
    obtain ⟨es, h1, h2⟩ := bind_some hf
    refine L2.o_EEAA (rng3D_some h2) fun i j zq2 h3 zq4 => ?_
    subst zq2
    subst zq4
    refine ⟨hid, H0, ρ, ow, _, E, h1, fun vs H' s D => ?_⟩
    refine L2.o_EEAA (denl_cons D) fun v ws zq2 D1 D' => ?_
    subst zq2
    refine L2.o_EEAA (denl_cons D') fun v2 ws2 zq2 D2 D'' => ?_
    subst zq2
    refine L2.o_EEAA (denl_cons D'') fun v3 ws3 zq2 D3 D4 => ?_
    subst zq2
    exact L2.i_EEAA (i) (j) (by rw [den_int D1, den_int D2, den_int D3, denl_nil D4]) (h3) (k _ H' s (good_two i _))
end
end L2
namespace L2
open PySem PySem.Spec PyProof.Rows
theorem rev_no_len : typeLookup (.type "list_reverseiterator") "__len__" = pure none := by rw [typeLookup_type, builtinLookup_eq_fast]; kernel_rfl
theorem rev_hint : typeLookup (.type "list_reverseiterator") "__length_hint__" = pure (some (.builtin "list_reverseiterator.__length_hint__")) := by rw [typeLookup_type, builtinLookup_eq_fast]; kernel_rfl
theorem rev_self : isSubtype (.type "list_reverseiterator") (.type "list_reverseiterator") = pure true := by rw [isSubtype_type]; kernel_rfl
section
variable {P : Program} {w : World} {A : Around} {E : Value → Shared → Prop} {s : Shared}
theorem hint_R {J : Addr} {Q : Bool → Shared → Prop} (ty : s.TypeIs (.ref J) "list_reverseiterator") (h : Q false s) : wpAny (model P w) A (Builtin.List.listLengthHint (.ref J)) Q E s := by
  unfold Builtin.List.listLengthHint
  refine wpAny_bind (wpAny_specialOf ty rev_no_len ?_)
  refine wpAny_bind (wpAny_specialOf ty rev_hint ?_)
  generalize e0 : ("list_reverseiterator.__length_hint__" : String) = nm
  wp_delta
  rw [show splitId nm = some ("list_reverseiterator", "__length_hint__") from by subst e0; decide +kernel]
  subst e0
  refine wpAny_bind (wpAny_isInstance (T := "list_reverseiterator") (b := true) ty rev_self (wpAny_ite_split (fun z => absurd z (by decide)) fun _ => wpAny_ite_split (fun _ => ?_) fun z => absurd (by decide +kernel) z))
  exact wpAny_ite_split (fun z => absurd z (by decide +kernel)) fun _ => wpAny_pure h
theorem items_rev {items acc : Array Value} (h : ItemsOf (fun i v => items[items.size - 1 - i]? = some v) acc items.size) : acc = items.toList.reverse.toArray := by
  refine L2.o_A (h) fun h1 h2 => ?_
  apply Array.ext
  · rw [h1]; simp
  · intro i h3 h4
    have h5 : items[items.size - 1 - i]? = some acc[i] := h2 i acc[i] (Array.getElem?_eq_getElem h3)
    have h6 : i < items.size := by omega
    rw [Array.getElem?_eq_getElem (by omega)] at h5
    rw [← Option.some.inj h5]
    simp
theorem call_list_rev {Q : Value → Shared → Prop} (hh : A.handled = none) {J l : Addr} {items : Array Value} (hJ : s.heap.IsRevIter J l ((items.size : Int) - 1)) (hl : s.heap.IsList l items) (hne : l ≠ J) (hz : items.size ≤ sizeLine)
    (hQ : ∀ h' tk c', (∀ b o, b ≠ J → s.heap.get? b = some o → h'.get? b = some o) → h'.get? s.heap.objs.size = some { cls := .type "list", dict := none, data := .seq items.toList.reverse.toArray c', slots := #[] } → Q (.ref s.heap.objs.size) { s with heap := h', toks := tk }) :
    wpAny (model P w) A (call (.type "list") [.ref J]) Q E s := by
  have hJl : J < s.heap.objs.size := Heap.lt_size hJ.choose_spec.1
  have hll : l < s.heap.objs.size := Heap.lt_size hl.choose_spec.1
  refine callType_codes (Q₁ := fun obj s₁ => obj = .ref s.heap.objs.size ∧ s₁ = { s with heap := s.heap.push { cls := .type "list", data := .seq #[] } }) F.called_list (F.typeCall_list_1 _) F.entry_list_init
    (code_list_new _ ⟨rfl, rfl⟩) fun obj s₁ h₁ => ?_
  revert h₁
  refine fun zqq => L2.o_A zqq fun zq0 zq1 => ?_
  clear zqq
  subst zq0
  subst zq1
  have hSJ : s.heap.objs.size ≠ J := Nat.ne_of_gt hJl
  have hSl : s.heap.objs.size ≠ l := Nat.ne_of_gt hll
  generalize hS0 : s.heap.objs.size = S at hSJ hSl hQ ⊢
  have hS : (s.heap.push { cls := .type "list", data := .seq #[] }).get? S = some { cls := .type "list", data := .seq #[] } := by rw [← hS0]; exact Heap.get?_push_size _ rfl
  refine ⟨⟨_, hS, rfl⟩, F.args_list_init_2 _ _, ?_⟩
  show wpAny _ A.in1.in1 (do let old ← Builtin.List.listItems (.ref S); Builtin.List.listUpdate (.ref S) (fun _ => #[]); letGo old.toList.reverse; Builtin.List.listExtendWith (.ref S) (.ref J) .none) _ _ _
  refine wpAny_bind ?_
  unfold Builtin.List.listItems
  refine wpAny_bind (wpAny_seqItems hS rfl (wpAny_pure ?_))
  show wpAny _ _ (updateSeq S (fun _ => #[]) >>= fun _ => letGo (#[] : Array Value).toList.reverse >>= fun _ => Builtin.List.listExtendWith (.ref S) (.ref J) .none) _ _ _
  refine wpAny_bind (wpAny_updateSeq hS rfl ?_)
  have hS2 := Heap.get?_update_self (Obj.mapSeq (fun _ => (#[] : Array Value))) hS rfl
  have oth1 : ∀ b o, b ≠ S → s.heap.get? b = some o → ((s.heap.push { cls := .type "list", data := .seq #[] }).update S (Obj.mapSeq (fun _ => (#[] : Array Value)))).get? b = some o := fun b o hb e => (Heap.get?_update_other _ _ (Ne.symm hb)).trans (Heap.get?_push_of_some _ e)
  refine wpAny_bind (wpAny_letGo ?_)
  generalize (s.heap.push { cls := .type "list", data := .seq #[] }).update S (Obj.mapSeq (fun _ => (#[] : Array Value))) = h1 at hS2 oth1
  have hJ1 : h1.IsRevIter J l ((items.size : Int) - 1) := hJ.at fun o e => oth1 J o (Ne.symm hSJ) e
  have hl1 : h1.IsList l items := hl.at fun o e => oth1 l o (Ne.symm hSl) e
  have W := (Walks.listRev (prog := P) (w := w) (A := A.in1.in1) hh J l hne items).toS
  have key : ∀ (h : Heap) (c1 tk : Nat), (items.size : Nat) = items.size → h.IsRevIter J l ((items.size : Int) - 1) → h.IsList l items → (∀ b o, b ≠ S → s.heap.get? b = some o → h.get? b = some o) → h.get? S = some { cls := .type "list", data := .seq #[] c1 } →
      codeAny (model P w) A.in1 (.builtin "list.extend.loop" ⟨[.ref S, .ref J, .none], []⟩) (wants (fun r s₂ => r = .none ∧ Q (.ref S) s₂) E) { s with heap := h, toks := tk } := by
    intro h c1 tk _ hj hlh hk hSh
    refine codeAny_extend_loopS W hz S (by simp [hSJ, hSl]) .none items.size 0 _ #[] c1 rfl (Nat.zero_le _) ⟨Nat.zero_le _, by simpa using hj, hlh⟩ hSh (ItemsOf.nil _) fun s' acc' c' hm hS' hacc => ?_
    rw [Moved.eq_with hm]
    refine ⟨rfl, ?_⟩
    rw [items_rev hacc] at hS'
    refine hQ s'.heap s'.toks c' (fun b o hb e => hm.heap b o (fun hmem => ?_) (hk b o (fun z => ?_) e)) hS'
    · rcases List.mem_cons.mp hmem with e' | hmem
      · rw [e', ← hS0] at e; exact absurd (Heap.lt_size e) (Nat.lt_irrefl _)
      · exact hb (List.mem_singleton.mp hmem)
    · rw [z, ← hS0] at e; exact absurd (Heap.lt_size e) (Nat.lt_irrefl _)
  unfold Builtin.List.listExtendWith
  refine wpAny_bind (wpAny_typeOf (s := { s with heap := h1 }) hJ1.typeIs ?_)
  have n1 : Builtin.List.listSameRef (.ref S) (.ref J) = false := by simp [Builtin.List.listSameRef, hSJ]
  simp only [n1, show (Value.type "list_reverseiterator" == Value.type "list") = false by decide, show (Value.type "list_reverseiterator" == Value.type "tuple") = false by decide, Bool.or_false, Bool.false_eq_true, if_false]
  refine wpAny_bind (wpAny_pyIter_revIter hJ1 ?_)
  refine wpAny_bind (wpAny_holding (hint_R (s := { s with heap := h1 }) hJ1.typeIs ?_))
  refine wpAny_ite_split (fun _ => ?_) (fun _ => wpAny_pure ⟨plainId_quiet F.plain_extend_loop _, key _ _ _ rfl hJ1 hl1 oth1 hS2⟩)
  refine wpAny_bind (wpAny_rule ?_)
  refine wpAny_bind ?_
  show wpAny _ _ (updateSeq S (·.push .none) >>= fun _ => updateSeq S (·.pop)) _ _ _
  refine wpAny_bind (wpAny_updateSeq hS2 rfl ?_)
  have u1 := Heap.get?_update_self (Obj.mapSeq (·.push Value.none)) hS2 rfl
  refine wpAny_updateSeq (hz := by seq_fits) u1 rfl ?_
  have u2 := Heap.get?_update_self (Obj.mapSeq (·.pop)) u1 rfl
  have oth : ∀ b o, b ≠ S → h1.get? b = some o → ((h1.update S (Obj.mapSeq (·.push Value.none))).update S (Obj.mapSeq (·.pop))).get? b = some o := fun b o hb e => (Heap.get?_update_other _ _ (Ne.symm hb)).trans ((Heap.get?_update_other _ _ (Ne.symm hb)).trans e)
  exact wpAny_pure ⟨plainId_quiet F.plain_extend_loop _, key _ _ _ rfl (hJ1.at fun o e => oth J o (Ne.symm hSJ) e) (hl1.at fun o e => oth l o (Ne.symm hSl) e) (fun b o hb e => oth b o hb (oth1 b o hb e)) u2⟩
end
theorem bt_listR : bootBuiltins "list" = some (.type "list") := by decide +kernel
theorem bt_revR : bootBuiltins "reversed" = some (.type "reversed") := by decide +kernel
section
variable [Reg] {X : Cx} {O : Ow} {a : Expr} {fa : Rho → Option PyData} {p p2 pos pos2 : Pos}
theorem fr_listrev (hc : X.calm = true) (hg : Gl X "list") (hm : X.mg "list" = none) (hg2 : Gl X "reversed") (hm2 : X.mg "reversed" = none) (ha : PR X O a fa)
    (he : starEach [.Call (.Name "reversed" p2) [a] [] pos2] X.env = (false, eval (.Call (.Name "reversed" p2) [a] [] pos2) X.env) :: starEach [] X.env := by rfl) (hpl : (backTo pos (starEach [] X.env)).any (·.1) = false := by rfl)
    (he2 : starEach [a] X.env = (false, eval a X.env) :: starEach [] X.env := by rfl) (hpl2 : (backTo pos2 (starEach [] X.env)).any (·.1) = false := by rfl) (hn : (backTo pos (starEach [] X.env)) = [] := by rfl) :
    PFr X O (.Call (.Name "list" p) [.Call (.Name "reversed" p2) [a] [] pos2] [] pos) (fun ρ => (fa ρ).bind revD) := by
  intro pins s σ H Q I h
  obtain ⟨hid, H0, ρ, ow, out, E, hf, k⟩ := h
  obtain ⟨d, g1, g2⟩ := bind_some hf
  unfold revD at g2
  split at g2
  case h_2 => cases g2
  rename_i ds
  cases g2
  refine wpAny_Call_Name_kw (ld_blt I hg hm bt_listR ?_)
  refine PyProof.Rows.callWith_type1 ?_ he hpl
  rw [he]
  show wpAny _ _ (spliced ((false, eval (.Call (.Name "reversed" p2) [a] [] pos2) X.env) :: backTo pos (starEach [] X.env))) _ _ s
  rw [hn]
  refine Calls.spliced_cons ?_
  refine wpAny_Call_Name_kw (ld_blt I hg2 hm2 bt_revR ?_)
  refine PyProof.Rows.callWith_type1 (thn (pa_cons ha pa_nil he2 pos2 pins s σ H (fun vs H' => ∃ v, vs = [v] ∧ Same H H' ∧ Den X.K (del H' hid) v (.list ds)) I ⟨hid, H0, ρ, ow, _, E, g1, fun v H' s' D => ⟨v, rfl, s', D⟩⟩) fun us s1 zpat => ?_) he2 hpl2
  obtain ⟨vs, H1, I1, r1, v, rfl, s01, D1⟩ := zpat
  refine L2.o_EA (vals1 r1) fun u zq1 rx => ?_
  subst zq1
  obtain ⟨q, xs, rfl, q1, r3⟩ := den_lst D1
  cases rx
  refine L2.o_EAA (I1.list ((del_same _ _).seq q1)) fun its r pl hz => ?_
  have hlen := r.length
  have hL := pl.isList
  refine call_reversed_list hL ?_
  have hql : q < s1.heap.objs.size := Heap.lt_size hL.choose_spec.1
  refine Calls.spliced_nil ?_
  have hrev : Heap.IsRevIter (s1.heap.push (revObj q ((its.toArray.size : Int) - 1))) s1.heap.objs.size q ((its.toArray.size : Int) - 1) := ⟨_, Heap.get?_push_size _ rfl, rfl, rfl⟩
  refine call_list_rev (I.ok.hd hc) (s := { s1 with heap := s1.heap.push (revObj q ((its.toArray.size : Int) - 1)) }) hrev (hL.at fun o e => Heap.get?_push_of_some _ e) (Nat.ne_of_lt hql) (by simp only [List.size_toArray]; omega) fun h' tk c' hk hnew => ?_
  have szp : (s1.heap.push (revObj q ((its.toArray.size : Int) - 1))).objs.size = s1.heap.objs.size + 1 := Heap.size_push _ _
  have hkeep : ∀ b o, s1.heap.get? b = some o → h'.get? b = some o := fun b o e => hk b o (fun z => by rw [z] at e; exact absurd (Heap.lt_size e) (Nat.lt_irrefl _)) (Heap.get?_push_of_some _ e)
  have hfr := I1.hok.fresh (a := s1.heap.objs.size + 1) (Nat.le_succ _)
  have hnew' : h'.get? (s1.heap.objs.size + 1) = some { cls := .type "list", dict := none, data := .seq its.reverse.toArray c', slots := #[] } := by
    have := hnew
    rw [show (Shared.heap { s1 with heap := s1.heap.push (revObj q ((its.toArray.size : Int) - 1)) }).objs.size = s1.heap.objs.size + 1 from szp] at this
    exact this
  rw [show (Shared.heap { s1 with heap := s1.heap.push (revObj q ((its.toArray.size : Int) - 1)) }).objs.size = s1.heap.objs.size + 1 from szp]
  refine ⟨.ref (s1.heap.objs.size + 1), _, I1.laid (a := s1.heap.objs.size + 1) (t' := tk) (o := .lst xs.reverse) hkeep (Nat.le_succ _) ⟨by rw [List.length_reverse]; exact hz, its.reverse, c', vals_rev r, hnew'⟩, rfl, ?_⟩
  exact k _ _ _ (s01.trans (same_new hfr)) (s01.free hfr) upd_same ((r3.rev).mono (del_new (same_new hfr) hfr fun b z => by rcases z with z | z; exact .inl z; exact .inr (by simpa using z)))
end
end L2
namespace L2
open PySem PySem.Spec PyProof.Rows
section
variable {P : Program} {w : World} {A : Around} {E : Value → Shared → Prop} {s : Shared}
end
variable [Reg]
end L2
namespace L2
open PySem PySem.Spec PyProof.Rows
variable [Reg]
theorem EnvOk.lend {K : PySem.W.Frag} {O : Ow} {hid : Addr → Prop} {H0 H : Hp} {σ : St} {ρ : Rho} {ow : List Addr} (E : EnvOk K O hid H0 σ H ρ ow) {i : Nat} {es0 : List PyData} (hi : O.s.lookup i = some (.lst .cl)) (hρ : ρ[i]? = some (some (.list es0))) :
    ∃ l, σ[i]? = some (some (.ref l)) ∧ ∀ (j : Nat) (us : List V) (ds : List PyData) (T : Ty) (F : List PyData → Option (PyData × List PyData)) (r : PyData × List PyData) (Q : VK), us[j]? = some (.ref l) → ds.length = us.length → ds[j]? = some (.list es0) →
      (∀ (m : Nat) (v : V) (d : PyData), m ≠ j → us[m]? = some v → ds[m]? = some d → Den K (del H (uni hid ow)) v d) → F ds = some r →
      (∀ v H', EnvOk K O hid H0 σ H' (ρ.set i (some (.list r.2))) ow → Same (del H (uni hid ow)) (del H' (uni hid ow)) → Den K (del H' (uni hid ow)) v r.1 → Q v H') → SpIO K j T F us H Q := by
  refine L2.o_EEAAAA (E.at0 hi hρ) fun l vs h1 h2 h3 h4 h5 => ?_
  refine ⟨l, h1, fun j us ds T F r Q g1 g2 g3 g4 g5 k => ?_⟩
  have hlo : uni hid ow l := .inr h4
  have hu : uni (fun b => uni hid ow b ∧ b ≠ l) [l] = uni hid ow := by
    funext b
    apply propext
    constructor
    · rintro (z | z)
      · exact z.1
      · rw [List.mem_singleton.mp z]; exact hlo
    · intro z
      by_cases e : b = l
      · exact .inr (List.mem_singleton.mpr e)
      · exact .inl ⟨z, e⟩
  have big : ∀ (as : List Addr) (b : Addr), uni hid ow b → uni (fun b => uni hid ow b ∧ b ≠ l) (l :: as) b := fun as b z => by
    by_cases e : b = l
    · exact .inr (by rw [e]; exact List.mem_cons_self)
    · exact .inl ⟨z, e⟩
  refine ⟨fun b => uni hid ow b ∧ b ≠ l, l, vs, es0, ds, r, fun b z => E.uniL b z.1, fun z => z.2 rfl, g1, h2, by rw [hu]; exact h3, g2, g3, fun m v d hm a b => by rw [hu]; exact g4 m v d hm a b, g5, fun v as H' ws' s' hl' hD n Dv => ?_⟩
  have s2 : Same H (upd H' l (.lst vs)) := fun b o e => by
    by_cases hb : b = l
    · rw [hb, upd_same]; rw [hb] at e; rw [h2] at e; exact e
    · rw [upd_ne hb]; exact s' b o (by rw [del_neq hb]; exact e)
  have e2 : upd (upd H' l (.lst vs)) l (.lst ws') = H' := by
    funext b
    by_cases hb : b = l
    · rw [hb, upd_same]; exact hl'.symm
    · rw [upd_ne hb, upd_ne hb]
  have q := h5 _ s2 ws' r.2 (by rw [del_upd hlo]; exact hD.mono (del_sub (big as)))
  rw [e2] at q
  refine k v H' q (fun b o z => ?_) (Dv.raw (del_sub (big as)) fun p hp o z => ?_)
  · by_cases hb : uni hid ow b
    · rw [del_in hb] at z; cases z
    · rw [del_out hb] at z ⊢
      exact s' b o (by rw [del_neq fun e => hb (by rw [e]; exact hlo)]; exact z)
  · rw [del_out (E.fresh (n p hp))]
    exact z
section
variable {X : Cx} {O : Ow} {a b e : Expr} {es : List Expr} {pos p : Pos} {k : Nat} {ps : List Str} {x : Str} {T : Ty}
variable {ga : Rho → Option (Bool × Rho)} {gb : Rho → Option Bool} {rest : List Expr}
end
end L2
namespace L2
open PySem PySem.Spec PyProof.Rows
section
variable {X : Cx}
end
variable [Reg]
section
variable {X : Cx} {O : Ow} {a b e : Expr} {pos : Pos} {f : Rho → Option PyData}
end
end L2
namespace L2
open PySem PySem.Spec PyProof.Rows
variable [Reg]
section
variable {X : Cx} {O : Ow} {e : Expr} {pos : Pos} {f : Rho → Option PyData} {T : Ty}
end
end L2
namespace L2
open PySem PySem.Spec PyProof.Rows
variable [Reg]
end L2
namespace L2
open PySem PySem.Spec PyProof.Rows
structure ZAp (z TI TO i1 i2 : Addr) (f1 f2 : List Addr) : Prop where
  nd : [z, TI, TO, i1, i2].Nodup
  a1 : z ∉ f1 ∧ TO ∉ f1 ∧ i2 ∉ f1
  a2 : z ∉ f2 ∧ TO ∉ f2 ∧ i1 ∉ f2
section
variable {P : Program} {w : World} {A : Around} {E : Value → Shared → Prop} {s : Shared} {z TI TO i1 i2 : Addr} {f1 f2 : List Addr} {n1 n2 k1 k2 : Nat} {P1 P2 : Nat → Value → Prop} {S1 S2 : Nat → Heap → Prop} {a b : Value}
theorem stay {it c : Addr} {f : List Addr} {n k : Nat} {Pv : Nat → Value → Prop} {S : Nat → Heap → Prop} (D : Draws P w A it f n Pv S) {h h' : Heap} (st : S k h) (x : Heap.ExtBut c h h') (hc : c ∉ f) : S k h' := D.frame k h h' st fun b hb o e => x b o (fun y => hc (y ▸ hb)) e
end
noncomputable abbrev zh0 (h : Heap) (l1 l2 : Addr) : Heap := h.push { cls := .type "list_iterator", data := .fields #[.ref l1, .int 0 0] }
noncomputable abbrev zh1 (h : Heap) (l1 l2 : Addr) : Heap := (zh0 h l1 l2).push { cls := .type "tuple_iterator", data := .fields #[.ref l2, .int 0 0] }
noncomputable abbrev zh2 (h : Heap) (l1 l2 : Addr) : Heap := (zh1 h l1 l2).push { cls := .type "tuple", data := .seq #[.ref h.objs.size, .ref (zh0 h l1 l2).objs.size] }
noncomputable abbrev zh3 (h : Heap) (l1 l2 : Addr) : Heap := (zh2 h l1 l2).push { cls := .type "tuple", data := .seq #[.none, .none] }
noncomputable abbrev zh4 (h : Heap) (l1 l2 : Addr) : Heap := (zh3 h l1 l2).push { cls := .type "zip", data := .fields #[.none, .bool false, .bool false, .ref (zh1 h l1 l2).objs.size, .ref (zh2 h l1 l2).objs.size] }
section
variable {P : Program} {w : World} {A : Around} {E : Value → Shared → Prop} {s : Shared}
end
variable [Reg]
end L2
namespace L2
open PySem PySem.Spec PyProof.Rows
structure CompScC (sc : Scope) (XN : List Str) (scope : Scope) (k : Nat) (N : List Str) (ix : List Nat) (x0 : Str) : Prop where
  kind : scope.kind = .function
  okind : sc.kind = .function
  onec : (scope.names.filter fun y => y.2 == .cell) = [(x0, .cell)]
  x0c : scope.names.lookup x0 = some .cell
  loc : ∀ y ∈ scope.names, y.2 = .local → scope.names.lookup y.1 = some .local
  fr : ∀ y ∈ scope.names, y.2 = .free → sc.names.lookup y.1 = some .cell
  sl : ix.map (fun i => XN[i]?) = (N.drop k).map some
  frl : ∀ x ∈ N.drop k, scope.names.lookup x = some .free
  len : N.length = k + ix.length
section
variable {X : Cx} {pins : List (Addr × Obj)} {σ : St} {H : Hp} {s : Shared} {scope : Scope} {k : Nat} {N : List Str} {ix : List Nat} {sc : Scope} {fp : List Addr} {x0 : Str}
end
variable [Reg]
end L2
namespace L2
open PySem PySem.Spec PyProof.Rows
variable [Reg]
section
variable {P : Program} {w : World} {K : PySem.W.Frag} {h : Heap} {mg : Str → Option Value} {base : Heap} {x : Str} {st : Stmt} {k j : Nat} {ps : List Str} {T : Ty}
theorem FnAt.okI {F : List PyData → Option (PyData × List PyData)} (d : FnAt K x st) (X : K.In h) (G : h.Ns mainGlobals mg)
    (hb : ∀ (kV doc pm : Value) (an : Option Addr) (cdv ct : Value) (us : List Value), us.length = ps.length → bindArgs (PySem.W.fnOf x x (defArgs st) (defBody st) (defScope st) .none kV doc pm an cdv ct) ⟨us, []⟩ = pure (ps.zip us))
    (ok : ∀ f fd, PySem.W.nsIn K mainGlobals x = some (some (.ref f)) → Fun K x x st f fd → FnOk P w K mg base CX0 k f fd ps (spIO K j T F)) : DefI P w K mg base k x ps j T F := by
  cases d with
  | mk f fd a D => exact ⟨f, fd, ok f fd a D, PySem.W.mg_of X G a, D.kp, D.binds hb, a⟩
end
end L2
namespace L2
open PySem PySem.Spec PyProof.Rows
variable [Reg]
section
variable {X : Cx} {O : Ow} {b : Expr} {es : List Expr} {pos p : Pos} {k : Nat} {ps : List Str} {x : Str} {T : Ty}
noncomputable def callIr (i : Nat) (F : List PyData → Option (PyData × List PyData)) (fs : Rho → Option (List PyData)) (ρ : Rho) : Option (PyData × Rho) := (fs ρ).bind fun ds => ((ρ[i]?).join.bind listD).bind fun xs => (F (.list xs :: ds)).map fun z => (z.1, ρ.set i (some (.list z.2)))
theorem x_callIr {i : Nat} {fs : Rho → Option (List PyData)} {F : List PyData → Option (PyData × List PyData)} (G : DefI X.prog X.w X.K X.mg X.base k x ps 0 T F) (hr : Room k X.A) (hg : Gl X x) (hb : PE X b (tVar i)) (hes : PAv X O es fs) (hO : O.s.lookup i = some (.lst .cl) := by rfl) (hdb : (x == ("__debug__" : Str)) = false := by decide) (he : starEach (b :: es) X.env = (false, eval b X.env) :: starEach es X.env := by rfl) (hpl : (backTo pos (starEach es X.env)).any (·.1) = false := by rfl) :
    PX X O (.Call (.Name x p) (b :: es) [] pos) (callIr i F fs) := by
  obtain ⟨f, fd, g1, g2, g3, g4, _⟩ := G
  exact (pe_call g1 hr hg g2 g3 g4 .nil pass0 (pa_cons hb hes he) hdb he hpl).imp fun σ H Q zpat => by
    obtain ⟨hid, H0, ρ, ow, r, E, hf, k⟩ := zpat
    obtain ⟨ds, e1, hf⟩ := bind_some hf
    obtain ⟨xs, e2, hf⟩ := bind_some hf
    obtain ⟨z, e3, rfl⟩ := map_some hf
    obtain ⟨dl, e4, e5⟩ := bind_some e2
    rw [listD_some e5] at e4
    obtain ⟨l, h1, _⟩ := E.lend hO (join_some e4)
    refine ⟨.ref l, h1, hid, H0, ρ, ow, ds, E, e1, fun us H1 s1 D1 => ?_⟩
    obtain ⟨l', h1', h2⟩ := (E.mono s1).lend hO (join_some e4)
    rw [h1] at h1'
    cases h1'
    rw [List.append_nil]
    refine h2 0 _ (.list xs :: ds) T F z Q rfl (by rw [List.length_cons, List.length_cons, D1.length]) rfl (fun m w dd hm hv hd => ?_) e3 fun v' H' E' s' D' => k v' H' E' ((del_mono s1 _).trans s') D'
    cases m with
    | zero => exact absurd rfl hm
    | succ m =>
      obtain ⟨w', q1, q2⟩ := D1.get (by simpa using hd)
      rw [List.getElem?_cons_succ] at hv
      rw [q1] at hv
      cases hv
      exact q2
end
end L2
namespace L2
open PySem PySem.Spec PyProof.Rows
variable [Reg]
noncomputable def tAX (K : PySem.W.Frag) (O : Ow) (f : Rho → Option (List PyData × Rho)) : TA := fun σ H Q => At5 K O f σ H fun hid H0 ρ ow r => ∀ vs H', EnvOk K O hid H0 σ H' r.2 ow → Same (del H (uni hid ow)) (del H' (uni hid ow)) → DenL K (del H' (uni hid ow)) vs r.1 → Q vs H'
noncomputable abbrev PAX (X : Cx) (O : Ow) (es : List Expr) (f : Rho → Option (List PyData × Rho)) : Prop := PA X es (tAX X.K O f)
noncomputable def consX (fa : Rho → Option (PyData × Rho)) (fs : Rho → Option (List PyData × Rho)) (ρ : Rho) : Option (List PyData × Rho) := (fa ρ).bind fun r => (fs r.2).map fun q => (r.1 :: q.1, q.2)
section
variable {X : Cx} {O : Ow} {a b e : Expr} {es : List Expr} {fa fb : Rho → Option PyData} {pos p pos' : Pos}
theorem ax_nil : PAX X O [] (fun ρ => some ([], ρ)) := pa_nil.imp fun σ H Q zpat => by
  obtain ⟨hid, H0, ρ, ow, r, E, hf, k⟩ := zpat
  cases hf
  exact k [] H E (Same.refl _) .nil
theorem ax_cons {fa : Rho → Option (PyData × Rho)} {fs : Rho → Option (List PyData × Rho)} (ha : PX X O a fa) (hr : PAX X O es fs) (hs : starEach (a :: es) X.env = (false, eval a X.env) :: starEach es X.env := by rfl) : PAX X O (a :: es) (consX fa fs) := (pa_cons ha hr hs).imp fun σ H Q zpat => by
  obtain ⟨hid, H0, ρ, ow, r, E, hf, k⟩ := zpat
  obtain ⟨r1, h1, h2⟩ := bind_some hf
  obtain ⟨q1, h3, rfl⟩ := map_some h2
  exact ⟨hid, H0, ρ, ow, r1, E, h1, fun x H1 E1 s1 D1 => ⟨hid, H0, r1.2, ow, q1, E1, h3, fun vs H2 E2 s2 D2 => k _ H2 E2 (s1.trans s2) (.cons (D1.mono s2) D2)⟩⟩
noncomputable def lstX (fs : Rho → Option (List PyData × Rho)) (ρ : Rho) : Option (PyData × Rho) := (fs ρ).bind fun r => if decide (r.1.length ≤ 1000) = true then some (.list r.1, r.2) else none
noncomputable def tupX (fs : Rho → Option (List PyData × Rho)) (ρ : Rho) : Option (PyData × Rho) := (fs ρ).bind fun r => if decide (r.1.length ≤ 1000) = true then some (.tuple r.1, r.2) else none
theorem x_lst {fs : Rho → Option (List PyData × Rho)} (h : PAX X O es fs) : PX X O (.List es pos) (lstX fs) := (pe_lst h).imp fun σ H Q zpat => by
  obtain ⟨hid, H0, ρ, ow, r, E, hf, k⟩ := zpat
  obtain ⟨r1, h1, h2⟩ := bind_some hf
  split at h2
  case isFalse => cases h2
  rename_i hc
  cases h2
  refine ⟨hid, H0, ρ, ow, r1, E, h1, fun vs H1 E1 s1 D1 => ⟨?_, fun q hq => ?_⟩⟩
  · rw [D1.length]
    exact Nat.le_of_lt (small1000 (of_decide_eq_true hc))
  · exact k _ _ (E1.mono (same_new hq)) (s1.trans (del_mono (same_new hq) _)) (.lst (SqL.of (E1.newAt hq)) (D1.mono (del_mono (same_new hq) _)))
theorem x_tup {x1} {fs : Rho → Option (List PyData × Rho)} (h : PAX X O es fs) : PX X O (.Tuple es x1 pos) (tupX fs) := (pe_tup h).imp fun σ H Q zpat => by
  obtain ⟨hid, H0, ρ, ow, r, E, hf, k⟩ := zpat
  obtain ⟨r1, h1, h2⟩ := bind_some hf
  split at h2
  case isFalse => cases h2
  rename_i hc
  cases h2
  refine ⟨hid, H0, ρ, ow, r1, E, h1, fun vs H1 E1 s1 D1 => ⟨?_, fun q hq => ?_⟩⟩
  · rw [D1.length]
    exact Nat.le_of_lt (small1000 (of_decide_eq_true hc))
  · exact k _ _ (E1.mono (same_new hq)) (s1.trans (del_mono (same_new hq) _)) (.tup (SqT.of (E1.newAt hq)) (D1.mono (del_mono (same_new hq) _)))
theorem x_ixL {fa : Rho → Option (PyData × Rho)} (ha : PX X O a fa) (hb : PV X O b fb) (hs : PlainIx b := by intro _ _; rfl) : PX X O (.Subscript a b pos) (opL ixD fa fb) :=
  (pe_ix (ix_list.or ix_tup) ha hb hs).imp fun σ H Q zpat => by
    obtain ⟨hid, H0, ρ, ow, r, E, hf, k⟩ := zpat
    obtain ⟨r1, h1, h2⟩ := bind_some hf
    obtain ⟨d, h3, h4⟩ := bind_some h2
    obtain ⟨d2, h5, rfl⟩ := map_some h4
    exact ⟨hid, H0, ρ, ow, r1, E, h1, fun x H1 E1 s1 D1 => ⟨hid, H0, r1.2, ow, d, E1, h3, fun y H2 s2 D2 => sp_ix x y H2 (del H2 (uni hid ow)) _ _ _ Q (del_same _ _) (D1.mono (del_mono s2 _)) D2 h5 fun v S => k v H2 (E1.mono s2) (s1.trans (del_mono s2 _)) S⟩⟩
noncomputable def putEff (i : Nat) (fk : Rho → Option PyData) (x : Option (PyData × Rho)) : Option Out := x.bind fun r => putO i r.2 (some r.1) (fk r.2)
theorem s_putX {i : Nat} {x : Str} {p tpos : Pos} {kx : Expr} {fk : Rho → Option PyData} {f : Rho → Option (PyData × Rho)} (hx : PE X (.Name x p) (tVar i)) (hk : PR X O kx fk) (he : PX X O e f) (hO : O.s.lookup i = some (.lst .cl) := by rfl)
    (ha : ∀ v, assign (.Subscript (.Name x p) kx tpos) X.env v = (do
      let ov ← holding [v] (eval (.Name x p) X.env)
      let iv ← holding [v, ov] (eval kx X.env)
      standAt tpos
      holding [v, ov, iv] (setItem ov iv v)
      release [v, ov, iv] []) := by intro _; rfl)
    (hs : swapsWithSole [.Subscript (.Name x p) kx tpos] e pos.line X.env = pure false := by rfl) (hw : swappedStores [.Subscript (.Name x p) kx tpos] e X.env = pure none := by rfl) (h1 : (assignEach [.Subscript (.Name x p) kx tpos] X.env).map (·.2) = [assign (.Subscript (.Name x p) kx tpos) X.env] := by rfl) :
    PSv X O (.Assign [.Subscript (.Name x p) kx tpos] e pos) (fun ρ => putEff i fk (f ρ)) :=
  (ps_asg he (pg_sub hx hk set_list ha) hs hw h1).imp fun D σ H zpat => by
    obtain ⟨hid, H0, ρ, ow, o, E, hf, k⟩ := zpat
    obtain ⟨r, g1, g2⟩ := bind_some hf
    obtain ⟨d', g1', g2⟩ := bind_some g2
    cases g1'
    obtain ⟨kd, g3, g4⟩ := bind_some g2
    unfold putD at g4
    split at g4
    case h_2 => cases g4
    rename_i kk
    obtain ⟨ds, g5, g6⟩ := bind_some g4
    obtain ⟨dl, g7, g8⟩ := bind_some g5
    rw [listD_some g8] at g7
    obtain ⟨j, g9, rfl⟩ := map_some g6
    have hρ := join_some g7
    refine ⟨hid, H0, ρ, ow, r, E, g1, fun v H1 E1 s1 Dv => ?_⟩
    obtain ⟨l, vs, hσ, hH, hD, hl, hE⟩ := E1.at0 hO hρ
    refine ⟨.ref l, hσ, hid, H0, r.2, ow, _, E1, g3, fun kv H2 s2 Dk => ?_⟩
    have hD2 := hD.mono (del_mono s2 (uni hid ow))
    refine ⟨l, vs, kk, j, rfl, den_int Dk, s2 _ _ hH, by rw [hD.length]; exact g9, k _ _ ow ?_ (hE H2 s2 _ _ (hD2.set (Dv.mono (del_mono s2 _)) j))⟩
    rw [del_upd (uni_in hl)]
    exact s1.trans (del_mono s2 _)
noncomputable def forEff (S : PyData → Rho → Option Rho) (F : Rho → Option Out) (x : Option (PyData × Rho)) : Option Out := x.bind fun r => (rng1D [r.1]).bind fun ds => forD S F ds r.2
theorem s_forX {tg : Expr} {body : List Stmt} {fx : Rho → Option (PyData × Rho)} {S : PyData → Rho → Option Rho} {F : Rho → Option Out} (hc : X.calm = true) (hg1 : Gl X "range") (hm : X.mg "range" = none) (ha : PX X O a fx) (hg : PGv X O tg S) (hb : PSsv X O body F) (hp : PassesOwn (model X.prog X.w) X.A X.env X.xe)
    (he : starEach [a] X.env = [(false, eval a X.env)] := by rfl) (hs : ∀ x, foldedSetIterable (.Call (.Name "range" p) [a] [] pos') X.env x = pure x := by intro _; rfl) : PSv X O (.For tg (.Call (.Name "range" p) [a] [] pos') body [] pos) (fun ρ => forEff S F (fx ρ)) := (ps_for hp hc (pi_range1 hg1 hm (pa_cons ha pa_nil he) he) hg hb hs).imp fun D σ H zpat => by
  obtain ⟨hid, H0, ρ, ow, out, E, hf, k⟩ := zpat
  obtain ⟨r, g0, hf⟩ := bind_some hf
  obtain ⟨ds, g1, g2⟩ := bind_some hf
  obtain ⟨j, e1, h3, h4, rfl⟩ := rng1D_some g1
  refine ⟨hid, H0, ρ, ow, r, E, g0, fun v H1 E1 s1 D1 => ⟨j, ?_, h3, h4, ?_⟩⟩
  · have e2 : r.1 = .int j := (List.cons.inj e1).1
    rw [e2] at D1
    rw [den_int D1]
  have Gd : GoodIt X.K (Itr 0 j.toNat) (del H1 (uni hid ow)) _ := good_rng 0 j.toNat
  generalize rngL 0 j.toNat = ds at Gd g2
  have k1 := k.weak s1
  refine ⟨fun i m τ H2 => m = ds.length - i ∧ i ≤ ds.length ∧ ∃ ρ2 ow2, EnvOk X.K O hid H0 τ H2 ρ2 ow2 ∧ Same (del H1 (uni hid ow)) (del H2 (uni hid ow2)) ∧ forD S F (ds.drop i) ρ2 = some out, ⟨ds.length, by simp, Nat.zero_le _, r.2, ow, E1, Same.refl _, by simpa using g2⟩, ?_⟩
  rintro i m τ H2 ⟨rfl, hi', ρ2, ow2, E2, s2, hr⟩
  have keep : Same (del H1 (uni hid ow)) H2 := s2.trans (del_same _ _)
  by_cases hlt : i < ds.length
  · have hdr : ds.drop i = ds[i] :: ds.drop (i + 1) := List.drop_eq_getElem_cons hlt
    rw [hdr, forD] at hr
    obtain ⟨ρ3, g3, hr⟩ := bind_some hr
    obtain ⟨o3, g4, hr⟩ := bind_some hr
    refine .inr ⟨Gd.go H2 i keep hlt, fun τ' H' => ∃ ρ2 ow2, EnvOk X.K O hid H0 τ' H' ρ2 ow2 ∧ Same (del H1 (uni hid ow)) (del H' (uni hid ow2)) ∧ forD S F (ds.drop (i + 1)) ρ2 = some out, fun τ' H' z => ⟨ds.length - (i + 1), by omega, rfl, hlt, z⟩, fun x H3 y => ?_⟩
    have step : ∃ s23 : Same H2 H3, Den X.K (del H3 (uni hid ow2)) x ds[i] := by
      rcases Gd.yld H2 i x H3 ds[i] keep (by simp [hlt]) y with ⟨rfl, Dx⟩ | ⟨p, vs, es, hp, rfl, rfl, hde, De⟩
      · exact ⟨Same.refl _, Dx.mono s2⟩
      · refine ⟨same_new hp, ?_⟩
        rw [hde]
        exact .tup (SqT.of (E2.newAt hp)) ((De.mono s2).mono (del_mono (same_new hp) _))
    obtain ⟨s23, Dx⟩ := step
    refine ⟨hid, H0, ρ2, ow2, ds[i], ρ3, E2.mono s23, Dx, g3, fun τ3 E3 => ⟨hid, H0, ρ3, ow2, o3, E3, g4, ?_⟩⟩
    have s13 : Same (del H1 (uni hid ow)) (del H3 (uni hid ow2)) := s2.trans (del_mono s23 _)
    cases o3 with
    | nx ρ4 => exact fun σ' H' ow' s' E' => ⟨ρ4, ow', E', s13.trans s', hr⟩
    | ct ρ4 => exact fun σ' H' ow' s' E' => ⟨ρ4, ow', E', s13.trans s', hr⟩
    | bk ρ4 =>
      cases hr
      exact fun σ' H' ow' s' E' => k1 σ' H' ow' (s13.trans s') E'
    | rt d =>
      cases hr
      exact k1
  · have e : i = ds.length := by omega
    subst e
    rw [List.drop_length, forD] at hr
    cases hr
    exact .inl ⟨Gd.stop H2 keep, k1 τ H2 ow2 s2 E2⟩
end
end L2
namespace L2
open PySem PySem.Spec PyProof.Rows
variable [Reg]
structure AsIo (O : Ow) (i : Nat) (O' : Addr → Ow) : Prop where
  at_ : O.s.lookup i = some (.lst .cl)
  io : ∀ l, (O' l).s.lookup i = some (.io l)
  ot : ∀ l j, j ≠ i → (O' l).s.lookup j = O.s.lookup j
  r : ∀ l, (O' l).r = O.r
  ne : ∀ l, (O' l).s ≠ []
section
variable {K : PySem.W.Frag} {O : Ow} {O' : Addr → Ow} {i : Nat} {hid : Addr → Prop} {H0 H : Hp} {σ : St} {ρ : Rho} {ow : List Addr}
theorem EnvOk.asIo (a : AsIo O i O') (e : EnvOk K O hid H0 σ H ρ ow) {ds : List PyData} (hρ : ρ[i]? = some (some (.list ds))) : ∃ l, EnvOk K (O' l) hid H0 σ H ρ ow ∧ σ[i]? = some (some (.ref l)) := by
  obtain ⟨A, a1, a2, a3⟩ := e.own
  obtain ⟨v, hv, D⟩ := a1 i _ _ a.at_ hρ
  generalize hA : A i = Ai at D
  cases D with
  | @lst _ l vs _ as q r n =>
    obtain ⟨dl, rfl⟩ := r.dl
    refine ⟨l, ⟨e.len, e.base, fun j d hj hd => ?_, ⟨A, fun j t d hj hd => ?_, a2, a3⟩, e.isl, e.ishL, fun z => absurd z (a.ne l)⟩, hv⟩
    · by_cases ji : j = i
      · rw [ji, a.io l] at hj; cases hj
      · exact e.val j d (by rw [← a.ot l j ji]; exact hj) hd
    · by_cases ji : j = i
      · subst ji
        rw [a.io l] at hj
        cases hj
        rw [hρ] at hd
        cases hd
        exact ⟨.ref l, hv, by rw [hA]; exact .io q dl⟩
      · exact a1 j t d (by rw [← a.ot l j ji]; exact hj) hd
theorem EnvOk.ofIo (a : AsIo O i O') {l : Addr} (e : EnvOk K (O' l) hid H0 σ H ρ ow) : EnvOk K O hid H0 σ H ρ ow := by
  obtain ⟨A, a1, a2, a3⟩ := e.own
  refine ⟨e.len, e.base, fun j d hj hd => ?_, ⟨A, fun j t d hj hd => ?_, a2, a3⟩, e.isl, e.ishL, fun z => ?_⟩
  · have ji : j ≠ i := fun z => by rw [z, a.at_] at hj; cases hj
    exact e.val j d (by rw [a.ot l j ji]; exact hj) hd
  · by_cases ji : j = i
    · subst ji
      rw [a.at_] at hj
      cases hj
      obtain ⟨v, hv, D⟩ := a1 j _ d (a.io l) hd
      refine ⟨v, hv, ?_⟩
      generalize A j = Aj at D
      cases D with
      | io q dl => exact .lst q dl.os (by simp)
      | non => exact .non
    · exact a1 j t d (by rw [a.ot l j ji]; exact hj) hd
  · have := a.at_
    rw [z] at this
    cases this
theorem EnvOk.atIo (a : AsIo O i O') {l : Addr} (e : EnvOk K (O' l) hid H0 σ H ρ ow) {ds : List PyData} (hρ : ρ[i]? = some (some (.list ds))) : ∃ vs, H l = some (.lst vs) ∧ DenL K (del H (uni hid ow)) vs ds := by
  obtain ⟨A, a1, a2, a3⟩ := e.own
  obtain ⟨v, hv, D⟩ := a1 i _ _ (a.io l) hρ
  generalize A i = Ai at D
  cases D with
  | io q dl => exact ⟨_, q, dl⟩
end
noncomputable def forL (i : Nat) (S : PyData → Rho → Option Rho) (F : Rho → Option Out) : Nat → Nat → Rho → Option Out
  | 0, _, _ => none
  | n + 1, k, ρ => ((ρ[i]?).join.bind listD).bind fun ds => (ds[k]?).elim (some (.nx ρ)) fun d => (S d ρ).bind fun ρ1 => (F ρ1).bind fun o => match o with
    | .nx ρ2 => forL i S F n (k + 1) ρ2
    | .ct ρ2 => forL i S F n (k + 1) ρ2
    | .bk ρ2 => some (.nx ρ2)
    | .rt v => some (.rt v)
section
variable {X : Cx} {O : Ow} {O' : Addr → Ow} {i : Nat} {x : Str} {p pos : Pos} {tg : Expr} {body : List Stmt} {S : PyData → Rho → Option Rho} {F : Rho → Option Out}
theorem Then.io (a : AsIo O i O') {l : Addr} {hid : Addr → Prop} {H0 G : Hp} {D : Ends} {o : Out} (h : Then X.K O hid H0 G D o) : Then X.K (O' l) hid H0 G D o := by
  cases o with
  | nx ρ => exact fun σ' H' ow' s E => h σ' H' ow' s (E.ofIo a)
  | bk ρ => exact fun σ' H' ow' s E => h σ' H' ow' s (E.ofIo a)
  | ct ρ => exact fun σ' H' ow' s E => h σ' H' ow' s (E.ofIo a)
  | rt d => exact fun v as H' s n Dv => h v as H' s n (by rw [a.r l] at Dv; exact Dv)
theorem s_forL (n : Nat) (a : AsIo O i O') (hc : X.calm = true) (hx : PE X (.Name x p) (tVar i)) (hg : ∀ l, PGv X (O' l) tg S) (hb : ∀ l, PSsv X (O' l) body F) (hp : PassesOwn (model X.prog X.w) X.A X.env X.xe)
    (hs : ∀ y, foldedSetIterable (.Name x p) X.env y = pure y := by intro _; rfl) : PSv X O (.For tg (.Name x p) body [] pos) (fun ρ => forL i S F n 0 ρ) := by
  intro pins s σ H D I zpat
  obtain ⟨hid, H0, ρ, ow, out, E, hf, k⟩ := zpat
  have hρ : ∃ ds, ρ[i]? = some (some (.list ds)) := by
    cases n with
    | zero => cases hf
    | succ n =>
      have hf' : ((ρ[i]?).join.bind listD).bind _ = some out := hf
      obtain ⟨ds, g1, _⟩ := bind_some hf'
      obtain ⟨d, g2, g3⟩ := bind_some g1
      rw [listD_some g3] at g2
      exact ⟨ds, join_some g2⟩
  obtain ⟨ds0, hρ⟩ := hρ
  obtain ⟨l, E1, hσ⟩ := E.asIo a hρ
  obtain ⟨vs0, hH0, _⟩ := E1.atIo a hρ
  have k1 : Then X.K (O' l) hid H0 (del H (uni hid ow)) D out := k.io a
  refine ps_for hp hc (pi_list hx) (hg l) (hb l) hs pins s σ H D I ⟨.ref l, hσ, l, rfl, ⟨vs0, SqL.of hH0⟩, fun j m τ H2 => ∃ ρ2 ow2, EnvOk X.K (O' l) hid H0 τ H2 ρ2 ow2 ∧ Same (del H (uni hid ow)) (del H2 (uni hid ow2)) ∧ forL i S F m j ρ2 = some out, ⟨n, ρ, ow, E1, Same.refl _, hf⟩, ?_⟩
  rintro j m τ H2 ⟨ρ2, ow2, E2, s2, hr⟩
  cases m with
  | zero => cases hr
  | succ m =>
    have hr' : ((ρ2[i]?).join.bind listD).bind _ = some out := hr
    obtain ⟨ds, g1, hr'⟩ := bind_some hr'
    obtain ⟨d, g2, g3⟩ := bind_some g1
    rw [listD_some g3] at g2
    obtain ⟨vs, hH, hD⟩ := E2.atIo a (join_some g2)
    cases hk : ds[j]? with
    | none =>
      rw [hk] at hr'
      cases hr'
      exact .inl ⟨⟨vs, SqL.of hH, by rw [hD.length]; exact List.getElem?_eq_none_iff.mp hk⟩, k1 τ H2 ow2 s2 E2⟩
    | some d =>
      rw [hk] at hr'
      obtain ⟨ρ3, g3, hr'⟩ := bind_some hr'
      obtain ⟨o3, g4, hr'⟩ := bind_some hr'
      obtain ⟨y, hy, Dy⟩ := hD.get hk
      refine .inr ⟨⟨vs, y, SqL.of hH, hy⟩, fun τ' H' => ∃ ρ2 ow2, EnvOk X.K (O' l) hid H0 τ' H' ρ2 ow2 ∧ Same (del H (uni hid ow)) (del H' (uni hid ow2)) ∧ forL i S F m (j + 1) ρ2 = some out, fun τ' H' z => ⟨m, Nat.lt_succ_self m, z⟩, fun x H3 yy => ?_⟩
      obtain ⟨rfl, hx'⟩ := yy
      have exy : x = y := by
        have := hx' vs (SqL.of hH)
        rw [hy] at this
        exact (Option.some.inj this).symm
      subst exy
      refine ⟨hid, H0, ρ2, ow2, d, ρ3, E2, Dy, g3, fun τ3 E3 => ⟨hid, H0, ρ3, ow2, o3, E3, g4, ?_⟩⟩
      cases o3 with
      | nx ρ4 => exact fun σ' H' ow' s' E' => ⟨ρ4, ow', E', s2.trans s', hr'⟩
      | ct ρ4 => exact fun σ' H' ow' s' E' => ⟨ρ4, ow', E', s2.trans s', hr'⟩
      | bk ρ4 =>
        cases hr'
        exact fun σ' H' ow' s' E' => k1 σ' H' ow' (s2.trans s') E'
      | rt d =>
        cases hr'
        exact k1
end
theorem asIo_one {i : Nat} {r : Ty} : AsIo ⟨[(i, .lst .cl)], r⟩ i (fun l => ⟨[(i, .io l)], r⟩) := by
  refine ⟨by simp [List.lookup_cons], fun l => by simp [List.lookup_cons], fun l j hj => ?_, fun _ => rfl, fun l z => by cases z⟩
  rw [List.lookup_cons, List.lookup_cons, show (j == i) = false from beq_eq_false_iff_ne.mpr hj]
end L2
namespace L2
open PySem PySem.Spec PyProof.Rows
section
variable {P : Program} {w : World} {A : Around} {E : Value → Shared → Prop} {h : Heap} {g : Array GenState} {d : Drawn} {t : Nat} {os : OsState}
variable {C N : Addr} {nm q : Str} {bs bm bmB : List Value} {hdct : Bool} {sn : List Str} {sub : List Value} {ab : Bool} {col : Option Bool} {dd : Option Addr} {k0 k1 k2 k3 k5 : Option Value} {B Bn newId nid initId inN : String} {bmN : List Value}
end
section
variable {P : Program} {w : World} {A : Around} {E : Value → Shared → Prop} {s : Shared}
variable {nm q : Str} {C N e : Addr} {bs bm bmB : List Value} {hdct : Bool} {sn : List Str} {sub : List Value} {ab : Bool} {col : Option Bool} {dd : Option Addr} {k0 k1 k2 k3 k5 : Option Value} {B newId nid initId : String}
end
end L2
namespace L2
open PySem PySem.Spec PyProof.Rows
section
variable {P : Program} {w : World} {A : Around} {E : Value → Shared → Prop} {s : Shared} {K : PySem.W.Frag} {e C : Addr} {oe : Obj} {vs : Array Value} {name : Str} {v : Value}
end
end L2
namespace L2
open PySem PySem.Spec PyProof.Rows
section
variable {X : Cx} {a b c : Expr} {pos : Pos} {ta tb tc : TE}
noncomputable def tFmt (t : TE) : TE := fun σ H Q => t σ H fun x H1 => ∃ i : Int, x = .int i ∧ i.natAbs.log2 < 1920 ∧ Q (.str (toString i)) H1
theorem pe_fmt (ha : PE X a ta) : PE X (.FormattedValue a (-1) none pos) (tFmt ta) := by
  intro pins s σ H Q I h
  refine FormattedValue_plain (thn (ha pins s σ H _ I h) fun v s1 zpat => ?_)
  obtain ⟨x, H1, I1, r1, i, rfl, hd, q⟩ := zpat
  revert r1
  refine fun zqq => L2.o_E zqq fun t zq1 => ?_
  clear zqq
  subst zq1
  exact formatField_int_small hd ⟨.str _, H1, I1.tok _, ⟨_, rfl⟩, q⟩
noncomputable def tJoin3 (ta tb tc : TE) : TE := fun σ H Q => ta σ H fun x H1 => ∃ i : Str, x = .str i ∧ i.length ≤ 10000 ∧ tb σ H1 fun y H2 => ∃ j : Str, y = .str j ∧ j.length ≤ 10000 ∧ tc σ H2 fun z H3 => ∃ k : Str, z = .str k ∧ k.length ≤ 10000 ∧ Q (.str (i ++ j ++ k)) H3
theorem empty_cat (i : Str) : Str.empty ++ i = i := by
  obtain ⟨c⟩ := i
  show (⟨#[] ++ c⟩ : Str) = ⟨c⟩
  rw [Array.empty_append]
theorem len2z {i j : Str} (hi : i.length ≤ 10000) (hj : j.length ≤ 10000) : (i ++ j).length ≤ 20000 := by rw [strLen_append]; omega
theorem pe_join3 (ha : PE X a ta) (hb : PE X b tb) (hc : PE X c tc) : PE X (.JoinedStr [a, b, c] pos) (tJoin3 ta tb tc) := by
  intro pins s σ H Q I h
  have hz : 100000 < sizeLine := by decide
  refine JoinedStr_many ?_
  rw [show evalEach [c] X.env = [eval c X.env] from rfl]
  refine joinParts_cons (thn (ha pins s σ H _ I h) fun v s1 zpat => ?_)
  obtain ⟨x, H1, I1, r1, i, rfl, hi, q⟩ := zpat
  revert r1
  refine fun zqq => L2.o_E zqq fun t zq1 => ?_
  clear zqq
  subst zq1
  refine ⟨by rw [empty_cat]; omega, joinParts_cons (thn (hb pins s1 σ H1 _ I1 q) fun v s2 zpat => ?_)⟩
  obtain ⟨y, H2, I2, r2, j, rfl, hj, q⟩ := zpat
  revert r2
  refine fun zqq => L2.o_E zqq fun t2 zq1 => ?_
  clear zqq
  subst zq1
  have hl := len2z hi hj
  dsimp only
  rw [empty_cat]
  refine ⟨by omega, joinParts_cons (thn (hc pins s2 σ H2 _ I2 q) fun v s3 zpat => ?_)⟩
  obtain ⟨z, H3, I3, r3, k, rfl, hk, q⟩ := zpat
  revert r3
  refine fun zqq => L2.o_E zqq fun t3 zq1 => ?_
  clear zqq
  subst zq1
  have hl3 : (i ++ j ++ k).length ≤ 30000 := by rw [strLen_append]; omega
  exact ⟨by omega, joinParts_nil ⟨.str _, H3, I3.tok _, ⟨_, rfl⟩, q⟩ (by omega)⟩
end
end L2
namespace L2
open PySem PySem.Spec PyProof.Rows
variable [Reg]
noncomputable def fitS (x : Str) : Bool := decide (x.length ≤ 10000)
noncomputable def txt2 (h : Str → Str → Option PyData) : PyData → PyData → Option PyData
  | .str x, .str y => h x y
  | _, _ => none
theorem txt2_some {h : Str → Str → Option PyData} {d e r : PyData} (q : txt2 h d e = some r) : ∃ x y, d = .str x ∧ e = .str y ∧ h x y = some r := by
  cases d with
  | str x =>
    cases e with
    | str y => exact ⟨x, y, rfl, rfl, q⟩
    | _ => cases q
  | _ => cases q
noncomputable def addSD := txt2 fun x y => if (fitS x && fitS y) = true then some (.str (x ++ y)) else none
noncomputable def inSD := txt2 fun x y => some (.bool (!(Builtin.Str.occurrences y x 0 y.length 1).isEmpty))
section
variable {X : Cx} {O : Ow} {a b c : Expr} {es : List Expr} {pos apos cpos : Pos} {fa fb fc : Rho → Option PyData}
theorem sp_addS {K : PySem.W.Frag} : SpecOp K (fun x y H Q => ∃ i j, x = .str i ∧ y = .str j ∧ i.length + j.length ≤ sizeLine ∧ Q (.str (i ++ j)) H) addSD := fun x y H d e r Q D1 D2 q k => by
  obtain ⟨i, j, rfl, rfl, q'⟩ := txt2_some q
  split at q'
  · rename_i h
    rw [Bool.and_eq_true] at h
    have h1 := of_decide_eq_true h.1
    have h2 := of_decide_eq_true h.2
    have hz : 100000 < sizeLine := by decide
    cases q'
    exact ⟨i, j, den_str D1, den_str D2, by omega, k _ (.str _)⟩
  · cases q'
theorem v_addS (ha : PR X O a fa) (hb : PR X O b fb) : PV X O (.BinOp a .Add b pos) (fun ρ => bind2 (fa ρ) (fb ρ) addSD) := (pe_op op_add_str ha hb).imp (tOp_imp sp_addS)
theorem sp_inS {K : PySem.W.Frag} : SpecOp K (fun x y H Q => ∃ i j, x = .str i ∧ y = .str j ∧ Q (.bl (!(Builtin.Str.occurrences j i 0 j.length 1).isEmpty)) H) inSD := fun x y H d e r Q D1 D2 q k => by
  obtain ⟨i, j, rfl, rfl, q'⟩ := txt2_some q
  cases q'
  exact ⟨i, j, den_str D1, den_str D2, k _ (.bl _)⟩
noncomputable def strD : List PyData → Option PyData
  | [.int i] => if i.natAbs.log2 < 1920 then some (.str (toString i)) else none
  | _ => none
theorem b_str : CallD X (.type "str") strD := ⟨_, call_str_int, fun xs H ds d Q D h k => by
  unfold strD at h
  split at h
  · obtain ⟨v, rfl, D1⟩ := one_den D
    split at h
    · rename_i hi
      cases h
      exact ⟨_, by rw [den_int D1], hi, k _ (.str _)⟩
    · cases h
  · cases h⟩
noncomputable def lenSD : List PyData → Option PyData
  | [.str x] => if fitS x = true then some (.int x.length) else none
  | _ => none
theorem b_lenS : CallD X (.builtin "len") lenSD := ⟨_, call_len_str, fun xs H ds d Q D h k => by
  unfold lenSD at h
  split at h
  · obtain ⟨v, rfl, D1⟩ := one_den D
    split at h
    · rename_i hi
      cases h
      have := of_decide_eq_true hi
      have hz : 100000 < sizeLine := by decide
      exact ⟨_, by rw [den_str D1], by omega, k _ (.int _)⟩
    · cases h
  · cases h⟩
theorem call_int_text : CallR X (.type "int") (fun xs H Q => ∃ x n, xs = [.str x] ∧ intText? x = some n ∧ x.length ≤ 640 ∧ Q (.int n) H) := by
  intro pins s σ H xs us Q I r h
  obtain ⟨x, n, rfl, hn, hl, q⟩ := h
  obtain ⟨u, rfl, t, rfl⟩ := vals1 r
  exact PySem.W.KIN.call_text hn hl ⟨.int n, H, I.tok _, ⟨_, rfl⟩, q⟩
noncomputable def intSD : List PyData → Option PyData
  | [.str x] => if x.length ≤ 640 then (intText? x).map .int else none
  | _ => none
theorem b_intS : CallD X (.type "int") intSD := ⟨_, call_int_text, fun xs H ds d Q D h k => by
  unfold intSD at h
  split at h
  · obtain ⟨v, rfl, D1⟩ := one_den D
    split at h
    · rename_i hi
      obtain ⟨n, hn, rfl⟩ := map_some h
      exact ⟨_, n, by rw [den_str D1], hn, hi, k _ (.int _)⟩
    · cases h
  · cases h⟩
theorem v_globS {x : Str} {v : Str} {t : Tok} (hg : Gl X x) (hm : X.mg x = some (.str v t)) (hd : (x == ("__debug__" : Str)) = false := by decide) : PV X O (.Name x pos) (fun _ => some (.str v)) := (pe_glob (v := .str v) hg hm ⟨t, rfl⟩ hd).imp fun σ H Q zpat => by
  obtain ⟨hid, H0, ρ, ow, d, E, hf, k⟩ := zpat
  cases hf
  exact k _ H (Same.refl H) (.str v)
noncomputable def fmtD : PyData → Option PyData
  | .int i => if i.natAbs.log2 < 1920 then some (.str (toString i)) else none
  | _ => none
theorem fmtD_some {d r : PyData} (h : fmtD d = some r) : ∃ i : Int, d = .int i ∧ i.natAbs.log2 < 1920 ∧ r = .str (toString i) := by
  cases d with
  | int i =>
    have h' : (if i.natAbs.log2 < 1920 then some (PyData.str (toString i)) else none) = some r := h
    by_cases q : i.natAbs.log2 < 1920
    · rw [if_pos q] at h'; cases h'; exact ⟨i, rfl, q, rfl⟩
    · rw [if_neg q] at h'; cases h'
  | _ => cases h
theorem v_fmt (ha : PR X O a fa) : PV X O (.FormattedValue a (-1) none pos) (fun ρ => (fa ρ).bind fmtD) := (pe_fmt ha).imp fun σ H Q zpat => by
  obtain ⟨hid, H0, ρ, ow, d, E, hf, k⟩ := zpat
  obtain ⟨e, h1, h2⟩ := bind_some hf
  obtain ⟨i, rfl, hi, rfl⟩ := fmtD_some h2
  exact ⟨hid, H0, ρ, ow, _, E, h1, fun x H1 s1 D1 => ⟨i, den_int D1, hi, k _ H1 s1 (.str _)⟩⟩
noncomputable def cat3 : PyData → PyData → PyData → Option PyData
  | .str i, .str j, .str k => if (fitS i && fitS j && fitS k) = true then some (.str (i ++ j ++ k)) else none
  | _, _, _ => none
theorem cat3_some {x y z r : PyData} (h : cat3 x y z = some r) : ∃ i j k, x = .str i ∧ y = .str j ∧ z = .str k ∧ i.length ≤ 10000 ∧ j.length ≤ 10000 ∧ k.length ≤ 10000 ∧ r = .str (i ++ j ++ k) := by
  cases x with
  | str i =>
    cases y with
    | str j =>
      cases z with
      | str k =>
        have h' : (if (fitS i && fitS j && fitS k) = true then some (PyData.str (i ++ j ++ k)) else none) = some r := h
        by_cases q : (fitS i && fitS j && fitS k) = true
        · rw [if_pos q] at h'
          rw [Bool.and_eq_true, Bool.and_eq_true] at q
          cases h'
          exact ⟨i, j, k, rfl, rfl, rfl, of_decide_eq_true q.1.1, of_decide_eq_true q.1.2, of_decide_eq_true q.2, rfl⟩
        · rw [if_neg q] at h'; cases h'
      | _ => cases h
    | _ => cases h
  | _ => cases h
noncomputable def join3D (a b c : Option PyData) : Option PyData := a.bind fun x => b.bind fun y => c.bind fun z => cat3 x y z
theorem v_join3 (ha : PV X O a fa) (hb : PV X O b fb) (hc : PV X O c fc) : PV X O (.JoinedStr [a, b, c] pos) (fun ρ => join3D (fa ρ) (fb ρ) (fc ρ)) := (pe_join3 ha hb hc).imp fun σ H Q zpat => by
  obtain ⟨hid, H0, ρ, ow, d, E, hf, k⟩ := zpat
  obtain ⟨x, h1, hf⟩ := bind_some hf
  obtain ⟨y, h2, hf⟩ := bind_some hf
  obtain ⟨z, h3, hf⟩ := bind_some hf
  obtain ⟨i, j, l, rfl, rfl, rfl, q1, q2, q3, rfl⟩ := cat3_some hf
  exact ⟨hid, H0, ρ, ow, _, E, h1, fun x H1 s1 D1 => ⟨i, den_str D1, q1, hid, H0, ρ, ow, _, E.mono s1, h2, fun y H2 s2 D2 => ⟨j, den_str D2, q2, hid, H0, ρ, ow, _, (E.mono s1).mono s2, h3, fun z H3 s3 D3 => ⟨l, den_str D3, q3, k _ H3 ((s1.trans s2).trans s3) (.str _)⟩⟩⟩⟩
noncomputable def rSW : V → List V → Hp → VK → Prop := fun x vs H Q => ∃ i j, x = .str i ∧ vs = [.str j] ∧ Q (.bl (0 + j.length ≤ i.length && Builtin.Str.subAt i j 0)) H
theorem mt_starts : MtR X "str.startswith" rSW := by
  intro pins s σ H x vs v us Q I rx rv h
  obtain ⟨i, j, rfl, rfl, q⟩ := h
  obtain ⟨t, rfl⟩ := rx
  obtain ⟨u, rfl, t', rfl⟩ := vals1 rv
  exact call_meets PySem.F.slot_str_startswith (typeIs_str _ _ _) PySem.F.entry_str_startswith (PySem.F.args_str_startswith_2 _ _) (PySem.gives_str_startswith i j t t').meets ⟨.bl _, H, I, rfl, q⟩
noncomputable def startsD := txt2 fun x y => some (.bool (0 + y.length ≤ x.length && Builtin.Str.subAt x y 0))
theorem v_starts (ha : PR X O a fa) (hb : PR X O b fb) (hbase : attributeBase a "startswith" X.env (eval a X.env) = eval a X.env := by rfl)
    (hfew : ((backTo cpos (starEach [b] X.env)).all (fun x => !x.1) && (backToKw cpos (keywordEach [] X.env)).all (fun x => x.1.isSome) && decide ([b].length + ([] : List Keyword).length + (if ([] : List Keyword).isEmpty then 0 else 1) < 30)) = true := by rfl)
    (hline : (apos.endLine == cpos.line) = true := by rfl) (hst : starEach [b] X.env = (false, eval b X.env) :: starEach [] X.env := by rfl) (hplain : (backTo cpos (starEach [] X.env)).any (·.1) = false := by rfl) :
    PV X O (.Call (.Attribute a "startswith" apos) [b] [] cpos) (fun ρ => bind2 (fa ρ) (fb ρ) startsD) :=
  (pe_bm PySem.F.plainAttrs_str PySem.F.slot_str_startswith PySem.F.type_str_startswith mt_starts ha (pa_cons hb pa_nil hst) hbase hfew hline hst hplain).imp fun σ H Q zpat => by
    obtain ⟨hid, H0, ρ, ow, r, E, hf, k⟩ := zpat
    obtain ⟨d, e, h1, h2, h3⟩ := bind2_some hf
    obtain ⟨i, j, rfl, rfl, h4⟩ := txt2_some h3
    cases h4
    refine ⟨hid, H0, ρ, ow, _, E, h1, fun x H1 s1 D1 => ?_⟩
    rw [den_str D1]
    exact ⟨rfl, hid, H0, ρ, ow, _, E.mono s1, h2, fun y H2 s2 D2 => ⟨i, j, rfl, by rw [den_str D2], k _ H2 (s1.trans s2) (.bl _)⟩⟩
theorem strs_of {ss : List Str} : ∀ {its : List Value}, Vals (ss.map V.str) its → ∃ l : List (Str × Tok), its = strValues l ∧ l.map (·.1) = ss := by
  induction ss with
  | nil => intro its h; cases h; exact ⟨[], rfl, rfl⟩
  | cons x r ih =>
    intro its h
    cases h with
    | cons h1 h2 =>
      obtain ⟨t, rfl⟩ := h1
      obtain ⟨l, rfl, h4⟩ := ih h2
      exact ⟨(x, t) :: l, rfl, by rw [List.map_cons, h4]⟩
noncomputable def rJoin (K : PySem.W.Frag) : V → List V → Hp → VK → Prop := fun x vs H Q => ∃ sep l ss, x = .str sep ∧ vs = [.ref l] ∧ SqL K H l (ss.map .str) ∧ Builtin.Str.tooLong (ss.toArray.foldl (· + ·.length + sep.length) 0) = false ∧ (Builtin.Str.glued sep ss).length ≤ 100000 ∧ Q (.str (Builtin.Str.glued sep ss)) H
theorem mt_join : MtR X "str.join" (rJoin X.K) := by
  intro pins s σ H x vs v us Q I rx rv h
  obtain ⟨sep, l, ss, rfl, rfl, hq, hl, hg, q⟩ := h
  obtain ⟨t, rfl⟩ := rx
  obtain ⟨u, rfl, ru⟩ := vals1 rv
  obtain rfl : u = Value.ref l := ru
  obtain ⟨its, r, pl, hz⟩ := I.list hq
  obtain ⟨l', rfl, e2⟩ := strs_of r
  refine call_meets PySem.F.slot_str_join (typeIs_str _ _ _) PySem.F.entry_str_join (PySem.F.args_str_join_2 _ _) (meets_str_join_list sep t l l' (by rw [e2]; exact hl)) ⟨pl.isList, ?_⟩
  have hz2 : 100000 < sizeLine := by decide
  have fin : ∀ (tk : Tok) (s' : Shared), Inv X pins σ H s' → EP X pins σ Q (.str (Builtin.Str.glued sep ss) tk) s' := fun tk s' J => ⟨.str _, H, J, ⟨tk, rfl⟩, q⟩
  rcases l' with _ | ⟨p, _ | ⟨p2, l'⟩⟩
  · refine ⟨by rw [e2]; omega, ?_⟩
    show EP X pins σ Q (.str (Builtin.Str.glued sep (([] : List (Str × Tok)).map (·.1))) s.toks) _
    rw [e2]; exact fin _ _ (I.tok _)
  · show EP X pins σ Q (.str p.1 p.2) s
    have e : Builtin.Str.glued sep ss = p.1 := by rw [← e2]; rfl
    have := fin p.2 s I
    rwa [e] at this
  · refine ⟨by rw [e2]; omega, ?_⟩
    show EP X pins σ Q (.str (Builtin.Str.glued sep ((p :: p2 :: l').map (·.1))) s.toks) _
    rw [e2]; exact fin _ _ (I.tok _)
noncomputable def strO : PyData → Option Str
  | .str x => some x
  | _ => none
noncomputable def strsO : List PyData → Option (List Str)
  | [] => some []
  | d :: r => (strO d).bind fun x => (strsO r).map fun xs => x :: xs
theorem strO_some {d : PyData} {x : Str} (h : strO d = some x) : d = .str x := by
  cases d with
  | str y => cases h; rfl
  | _ => cases h
theorem strsO_den {K : PySem.W.Frag} {H : Hp} : ∀ {ds : List PyData} {ss : List Str} {vs : List V}, strsO ds = some ss → DenL K H vs ds → vs = ss.map V.str := by
  intro ds
  induction ds with
  | nil => intro ss vs h D; cases h; cases D; rfl
  | cons d r ih =>
    intro ss vs h D
    obtain ⟨x, h1, h2⟩ := bind_some h
    obtain ⟨xs, h3, rfl⟩ := map_some h2
    cases D with
    | cons D1 D2 =>
      rw [strO_some h1] at D1
      rw [den_str D1, ih h3 D2]
      rfl
noncomputable def joinD (d e : PyData) : Option PyData := (strO d).bind fun sep => ((listD e).bind strsO).bind fun ss => if (!(Builtin.Str.tooLong (ss.toArray.foldl (· + ·.length + sep.length) 0)) && decide ((Builtin.Str.glued sep ss).length ≤ 100000)) = true then some (.str (Builtin.Str.glued sep ss)) else none
theorem v_join (ha : PR X O a fa) (hb : PR X O b fb) (hbase : attributeBase a "join" X.env (eval a X.env) = eval a X.env := by rfl)
    (hfew : ((backTo cpos (starEach [b] X.env)).all (fun x => !x.1) && (backToKw cpos (keywordEach [] X.env)).all (fun x => x.1.isSome) && decide ([b].length + ([] : List Keyword).length + (if ([] : List Keyword).isEmpty then 0 else 1) < 30)) = true := by rfl)
    (hline : (apos.endLine == cpos.line) = true := by rfl) (hst : starEach [b] X.env = (false, eval b X.env) :: starEach [] X.env := by rfl) (hplain : (backTo cpos (starEach [] X.env)).any (·.1) = false := by rfl) :
    PV X O (.Call (.Attribute a "join" apos) [b] [] cpos) (fun ρ => bind2 (fa ρ) (fb ρ) joinD) :=
  (pe_bm PySem.F.plainAttrs_str PySem.F.slot_str_join PySem.F.type_str_join mt_join ha (pa_cons hb pa_nil hst) hbase hfew hline hst hplain).imp fun σ H Q zpat => by
    obtain ⟨hid, H0, ρ, ow, r, E, hf, k⟩ := zpat
    obtain ⟨d, e, h1, h2, h3⟩ := bind2_some hf
    obtain ⟨sep, h4, h5⟩ := bind_some h3
    obtain ⟨ss, h6, h7⟩ := bind_some h5
    obtain ⟨ds, h8, h9⟩ := bind_some h6
    split at h7
    case isFalse => cases h7
    rename_i hc
    rw [Bool.and_eq_true, Bool.not_eq_true'] at hc
    cases h7
    rw [strO_some h4] at h1
    rw [listD_some h8] at h2
    refine ⟨hid, H0, ρ, ow, _, E, h1, fun x H1 s1 D1 => ?_⟩
    rw [den_str D1]
    refine ⟨rfl, hid, H0, ρ, ow, _, E.mono s1, h2, fun y H2 s2 D2 => ?_⟩
    obtain ⟨l, vs, rfl, q1, r1⟩ := den_lst D2
    rw [strsO_den h9 r1] at q1
    exact ⟨sep, l, ss, rfl, rfl, (del_same _ _).seq q1, hc.1, of_decide_eq_true hc.2, k _ H2 (s1.trans s2) (.str _)⟩
theorem vals_strs : ∀ (tk : Nat) (xs : List Str), Vals (xs.map V.str) (strsFrom tk xs) := by
  intro tk xs
  induction xs generalizing tk with
  | nil => exact .nil
  | cons x r ih => exact .cons ⟨tk, rfl⟩ (ih (tk + 1))
noncomputable def rSplit : V → List V → Hp → VK → Prop := fun x vs H Q => ∃ i j, x = .str i ∧ vs = [.str j] ∧ (j.length == 0) = false ∧ i.length ≤ 10000 ∧ ∀ l, H l = none → Q (.ref l) (upd H l (.lst ((Txt.split i j).map .str)))
theorem mt_split : MtR X "str.split" rSplit := by
  intro pins s σ H x vs v us Q I rx rv h
  obtain ⟨i, j, rfl, rfl, hj, hi, q⟩ := h
  obtain ⟨t, rfl⟩ := rx
  obtain ⟨u, rfl, t', rfl⟩ := vals1 rv
  have hz : 100000 < sizeLine := by decide
  have hlen := split_le i j
  have fin : ∀ (its : List Value) (tk : Nat), Vals ((Txt.split i j).map V.str) its → EP X pins σ Q (.ref s.heap.objs.size) { s with toks := tk, heap := s.heap.push { cls := .type "list", data := .seq its.toArray } } := fun its tk r =>
    ⟨.ref s.heap.objs.size, _, I.laid (t' := tk) (fun b o e => Heap.get?_push_of_some _ e) (Nat.le_refl _) (show ObjOk X.prog X.w _ _ _ (.lst ((Txt.split i j).map .str)) from ⟨by rw [List.length_map]; omega, its, _, r, Heap.get?_push_size _ rfl⟩), rfl, q _ (I.hok.fresh (Nat.le_refl _))⟩
  have one : Txt.split i j = [i] → EP X pins σ Q (.ref s.heap.objs.size) { s with heap := s.heap.push { cls := .type "list", data := .seq [Value.str i t].toArray } } := fun e => fin [.str i t] s.toks (by rw [e]; exact .cons ⟨t, rfl⟩ .nil)
  by_cases h1 : (decide (i.length < j.length) || decide (Builtin.Str.strKind i < Builtin.Str.strKind j)) = true
  · exact call_meets PySem.F.slot_str_split (typeIs_str _ _ _) PySem.F.entry_str_split (PySem.F.args_str_split_2 _ _) (meets_str_split_cannot_occur i j t t' h1) (one (by unfold Txt.split; rw [if_pos h1]))
  · by_cases h2 : (Builtin.Str.occurrences i j 0 i.length (i.length + 1)).isEmpty = true
    · exact call_meets PySem.F.slot_str_split (typeIs_str _ _ _) PySem.F.entry_str_split (PySem.F.args_str_split_2 _ _) (meets_str_split_not_found i j t t' (Bool.not_eq_true _ ▸ h1) hj h2) (one (by unfold Txt.split; rw [if_neg h1, if_pos h2]))
    · have e : Txt.split i j = Builtin.Str.partsBetween i (Builtin.Str.occurrences i j 0 i.length (i.length + 1)) j.length := by unfold Txt.split; rw [if_neg h1, if_neg h2]
      refine call_meets PySem.F.slot_str_split (typeIs_str _ _ _) PySem.F.entry_str_split (PySem.F.args_str_split_2 _ _) (meets_str_split_sep i j t t' (Bool.eq_false_iff.mpr h1) hj (Bool.eq_false_iff.mpr h2) (by omega) (by rw [← e]; omega)) ?_
      refine fin _ _ ?_
      rw [e]
      exact vals_strs _ _
noncomputable def splitD (d e : PyData) : Option (List PyData) := (strO d).bind fun i => (strO e).bind fun j => if (!(j.length == 0) && fitS i) = true then some ((Txt.split i j).map .str) else none
theorem den_strs {K : PySem.W.Frag} {H : Hp} (ss : List Str) : DenL K H (ss.map V.str) (ss.map .str) := by
  induction ss with
  | nil => exact .nil
  | cons x r ih => exact .cons (.str x) ih
theorem fr_split (ha : PR X O a fa) (hb : PR X O b fb) (hbase : attributeBase a "split" X.env (eval a X.env) = eval a X.env := by rfl)
    (hfew : ((backTo cpos (starEach [b] X.env)).all (fun x => !x.1) && (backToKw cpos (keywordEach [] X.env)).all (fun x => x.1.isSome) && decide ([b].length + ([] : List Keyword).length + (if ([] : List Keyword).isEmpty then 0 else 1) < 30)) = true := by rfl)
    (hline : (apos.endLine == cpos.line) = true := by rfl) (hst : starEach [b] X.env = (false, eval b X.env) :: starEach [] X.env := by rfl) (hplain : (backTo cpos (starEach [] X.env)).any (·.1) = false := by rfl) :
    PFr X O (.Call (.Attribute a "split" apos) [b] [] cpos) (fun ρ => (fa ρ).bind fun d => (fb ρ).bind fun e => splitD d e) :=
  (pe_bm PySem.F.plainAttrs_str PySem.F.slot_str_split PySem.F.type_str_split mt_split ha (pa_cons hb pa_nil hst) hbase hfew hline hst hplain).imp fun σ H Q zpat => by
    obtain ⟨hid, H0, ρ, ow, r, E, hf, k⟩ := zpat
    obtain ⟨d, h1, hf⟩ := bind_some hf
    obtain ⟨e, h2, hf⟩ := bind_some hf
    obtain ⟨i, h4, hf⟩ := bind_some hf
    obtain ⟨j, h5, h7⟩ := bind_some hf
    split at h7
    case isFalse => cases h7
    rename_i hc
    rw [Bool.and_eq_true, Bool.not_eq_true'] at hc
    cases h7
    rw [strO_some h4] at h1
    rw [strO_some h5] at h2
    refine ⟨hid, H0, ρ, ow, _, E, h1, fun x H1 s1 D1 => ?_⟩
    rw [den_str D1]
    refine ⟨rfl, hid, H0, ρ, ow, _, E.mono s1, h2, fun y H2 s2 D2 => ⟨i, j, rfl, by rw [den_str D2], hc.1, of_decide_eq_true hc.2, fun l hl => ?_⟩⟩
    exact k l _ _ ((s1.trans s2).trans (same_new hl)) ((s1.trans s2).free hl) upd_same (den_strs _)
end
end L2
namespace L2
open PySem PySem.Spec PyProof.Rows
variable [Reg]
section
variable {X : Cx} {O : Ow} {a b c : Expr} {es : List Expr} {pos apos cpos p2 : Pos} {fa fb fc : Rho → Option PyData}
noncomputable def rSlS : V → Option Int → Option Int → Hp → VK → Prop := fun x lo hi H Q => ∃ i, x = .str i ∧ i.length ≤ 10000 ∧ Q (.str (Txt.slice i lo hi)) H
theorem part_of {v : Value} {o : Option Int} (h : IsPart v o) : ∃ p : Option (Int × Tok), v = partValue p ∧ p.map (·.1) = o := by
  cases h with
  | none => exact ⟨none, rfl, rfl⟩
  | int i t => exact ⟨some (i, t), rfl, rfl⟩
theorem sl_str : SlR X rSlS := by
  intro pins s σ H x v vl vu lo hi sl Q I rx hs pl pu h
  obtain ⟨i, rfl, hi', q⟩ := h
  obtain ⟨t, rfl⟩ := rx
  obtain ⟨l, rfl, rfl⟩ := part_of pl
  obtain ⟨u, rfl, rfl⟩ := part_of pu
  have hz : 100000 < sizeLine := by decide
  refine ⟨"str", _, PySem.F.slot_str_getitem.lookup, typeIs_str _ _ _, wpAny_getItem_str_slice (l := l) (u := u) (st := none) hs rfl ?_⟩
  have hle := PyProof.Txt.length_slice_le i (l.map (·.1)) (u.map (·.1))
  have fin : ∀ (tk : Tok) (s' : Shared), Inv X pins σ H s' → EP X pins σ Q (.str (Txt.slice i (l.map (·.1)) (u.map (·.1))) tk) s' := fun tk s' J => ⟨.str _, H, J, ⟨tk, rfl⟩, q⟩
  unfold Txt.slice at fin hle
  unfold sliceMade slicePicked
  rw [show (Option.map (fun x : Int × Tok => x.fst) none).getD 1 = (1 : Int) from rfl]
  by_cases e : ((1 : Int) == 1 && (Builtin.Str.strSliceIndices (l.map (·.1)) (u.map (·.1)) 1 i.length).length == i.length) = true
  · rw [if_pos e] at fin hle
    rw [if_pos e]
    exact fin t s I
  · rw [if_neg e] at fin hle
    rw [if_neg e]
    exact ⟨by have : (⟨((Builtin.Str.strSliceIndices (l.map (·.1)) (u.map (·.1)) 1 i.length).filterMap (i.cps[·]?)).toArray⟩ : Str).length ≤ sizeLine := by omega
              exact this, fin _ _ (I.tok _)⟩
noncomputable def cutSD (d : Option PyData) (lo hi : Option (Option Int)) : Option PyData := (d.bind strO).bind fun i => lo.bind fun l => hi.bind fun h => if fitS i = true then some (.str (Txt.slice i l h)) else none
theorem v_sliceS {lo hi : Option Expr} {fl fh : Rho → Option (Option Int)} (ha : PR X O a fa) (hl : POv X O lo fl) (hh : POv X O hi fh) : PV X O (.Subscript a (.Slice lo hi none p2) pos) (fun ρ => cutSD (fa ρ) (fl ρ) (fh ρ)) := (pe_slice sl_str ha hl hh).imp fun σ H Q zpat => by
  obtain ⟨hid, H0, ρ, ow, ds, E, hf, k⟩ := zpat
  obtain ⟨i, g1, g2⟩ := bind_some hf
  obtain ⟨d, g3, g4⟩ := bind_some g1
  rw [strO_some g4] at g3
  obtain ⟨l, g5, g6⟩ := bind_some g2
  obtain ⟨h, g7, g8⟩ := bind_some g6
  split at g8
  case isFalse => cases g8
  rename_i hc
  cases g8
  exact ⟨hid, H0, ρ, ow, _, E, g3, fun x H1 s1 D1 => ⟨hid, H0, ρ, ow, l, E.mono s1, g5, fun H2 s2 => ⟨hid, H0, ρ, ow, h, (E.mono s1).mono s2, g7, fun H3 s3 => ⟨i, den_str D1, of_decide_eq_true hc, k _ H3 (s1.trans (s2.trans s3)) (.str _)⟩⟩⟩⟩
theorem c_inS : CmpD X .In inSD := ⟨_, op_in_str, sp_inS⟩
theorem bools_of {bs : List Bool} : ∀ {its : List Value}, Vals (bs.map V.bl) its → its = bs.map Value.bool := by
  induction bs with
  | nil => intro its h; cases h; rfl
  | cons x r ih =>
    intro its h
    cases h with
    | cons h1 h2 =>
      rw [ih h2]
      cases h1
      rfl
theorem call_all (hc : X.calm = true) : CallR X (.builtin "all") (fun xs H Q => ∃ (p : Addr) (bs : List Bool), xs = [.ref p] ∧ SqL X.K H p (bs.map V.bl) ∧ Q (.bl (bs.all id)) H) := by
  intro pins s σ H xs us Q I r h
  obtain ⟨p, bs, rfl, hq, k⟩ := h
  obtain ⟨u, rfl, rx⟩ := vals1 r
  obtain rfl : u = Value.ref p := rx
  obtain ⟨its, r', pl, hz⟩ := I.list hq
  obtain rfl := bools_of r'
  have hl := pl.isList
  have hlt : p < s.heap.objs.size := Heap.lt_size hl.choose_spec.1
  refine call_all_walk (wpAny_pyIter_list hl ?_)
  refine ⟨_, _, _, _, _, _, fun i => bs.getD i true, rfl, Walks.list (A := X.A.in1) (I.ok.hd hc) _ p (Nat.ne_of_lt hlt) (bs.map Value.bool).toArray, ⟨⟨_, Heap.get?_push_size _ rfl, rfl, rfl⟩, hl.push _⟩, fun i v s' Q' E' hv hQ => ?_, fun h' tk hk => ?_⟩
  · have hv' : (bs.map Value.bool)[i]? = some v := by simpa using hv
    rw [List.getElem?_map] at hv'
    obtain ⟨b, hb, rfl⟩ := Option.map_eq_some_iff.mp hv'
    refine wpAny_truthy_bool ?_
    have : bs.getD i true = b := by rw [List.getD_eq_getElem?_getD, hb]; rfl
    exact this ▸ (show Q' (bs.getD i true) s' from hQ)
  · have hall : (List.range (bs.map Value.bool).toArray.size).all (fun i => bs.getD i true) = bs.all id := by
      rw [List.size_toArray, List.length_map, Bool.eq_iff_iff, List.all_eq_true, List.all_eq_true]
      constructor
      · intro h x hx
        obtain ⟨i, hi, rfl⟩ := List.getElem_of_mem hx
        have := h i (List.mem_range.mpr hi)
        rwa [List.getD_eq_getElem?_getD, List.getElem?_eq_getElem hi] at this
      · intro h i hi
        have hi := List.mem_range.mp hi
        rw [List.getD_eq_getElem?_getD, List.getElem?_eq_getElem hi]
        exact h _ (List.getElem_mem hi)
    rw [hall]
    exact ⟨.bl _, H, I.kept (t' := tk) (old_kept hk), rfl, k⟩
noncomputable def boolO : PyData → Option Bool
  | .bool b => some b
  | _ => none
noncomputable def boolsO : List PyData → Option (List Bool)
  | [] => some []
  | d :: r => (boolO d).bind fun x => (boolsO r).map fun xs => x :: xs
theorem boolO_some {d : PyData} {x : Bool} (h : boolO d = some x) : d = .bool x := by
  cases d with
  | bool y => cases h; rfl
  | _ => cases h
theorem boolsO_den {K : PySem.W.Frag} {H : Hp} : ∀ {ds : List PyData} {ss : List Bool} {vs : List V}, boolsO ds = some ss → DenL K H vs ds → vs = ss.map V.bl := by
  intro ds
  induction ds with
  | nil => intro ss vs h D; cases h; cases D; rfl
  | cons d r ih =>
    intro ss vs h D
    obtain ⟨x, h1, h2⟩ := bind_some h
    obtain ⟨xs, h3, rfl⟩ := map_some h2
    cases D with
    | cons D1 D2 =>
      rw [boolO_some h1] at D1
      rw [den_bl D1, ih h3 D2]
      rfl
noncomputable def allD (d : PyData) : Option PyData := ((listD d).bind boolsO).map fun bs => .bool (bs.all id)
theorem v_all {p : Pos} (hc : X.calm = true) (hg : Gl X "all") (hm : X.mg "all" = none) (ha : PR X O a fa) (he : starEach [a] X.env = (false, eval a X.env) :: starEach [] X.env := by rfl) (hpl : (backTo pos (starEach [] X.env)).any (·.1) = false := by rfl)
    (hv : bootBuiltins "all" = some (.builtin "all") := by decide +kernel) : PV X O (.Call (.Name "all" p) [a] [] pos) (fun ρ => (fa ρ).bind allD) :=
  (pe_callB (call_all hc) hg hm hv (pa_cons ha pa_nil he) (by decide) (by decide) he hpl).imp fun σ H Q zpat => by
    obtain ⟨hid, H0, ρ, ow, r, E, hf, k⟩ := zpat
    obtain ⟨d, h1, h2⟩ := bind_some hf
    obtain ⟨bs, h3, rfl⟩ := map_some h2
    obtain ⟨ds, h4, h5⟩ := bind_some h3
    rw [listD_some h4] at h1
    refine ⟨hid, H0, ρ, ow, _, E, h1, fun x H1 s1 D1 => ?_⟩
    obtain ⟨q, vs, rfl, q1, r1⟩ := den_lst D1
    rw [boolsO_den h5 r1] at q1
    exact ⟨q, bs, rfl, (del_same _ _).seq q1, k _ H1 s1 (.bl _)⟩
end
end L2
namespace L2
open PySem PySem.Spec PyProof.Rows
theorem entry_asciter : entryFor table "str_ascii_iterator.__iter__" = some Builtin.«dict_keyiterator.__iter__» :=
  entryFor_alias (id' := "dict_keyiterator.__iter__") (by kernel_rfl) (by first | rfl | decide +kernel) (by decide +kernel) (by kernel_rfl)
noncomputable def Its (x : Str) : It := ⟨fun i _ => ∃ c, x.cps[i]? = some c, fun i H v H' => H' = H ∧ ∃ c, x.cps[i]? = some c ∧ v = .str ⟨#[c]⟩, fun i _ => x.cps[i]? = none⟩
theorem turn_str {P : Program} {w : World} {K : PySem.W.Frag} {tg : Expr} (x : Str) (t : Tok) (it : Addr) : Turn P w K tg (Its x) [it] it (fun i h => h.IsStrIter it "str_ascii_iterator" x t i) where
  mem := by simp
  obj := fun i h st b hb => by
    have e : b = it := by simpa using hb
    subst e
    obtain ⟨o, e, c, d⟩ := st
    exact ⟨o, e, fun v z => by rw [d] at z; cases z⟩
  keep := fun i h h' st k => by
    obtain ⟨o, e, c, d⟩ := st
    exact ⟨o, k it (by simp) o e, c, d⟩
  item := by
    intro X hP hw hK hc i pins s σ H E I hf st hg
    subst hP hw hK
    obtain ⟨c, hx⟩ := hg
    obtain ⟨f0, f1, f2, f3, f4, f5⟩ := hf it (by simp)
    refine wpAny_pyNext_ascii_item st hx fun h' st' sb => ?_
    have I1 : Inv X pins σ H { s with heap := h', toks := s.toks + 1 } := I.turned (t' := s.toks + 1) (fun b o hb e => (sb.2 b hb).trans e) f0 f1 f3 f4 f5
    obtain ⟨o, e, c', d⟩ := id st'
    exact ⟨_, rfl, go_of (s := { s with heap := h', toks := s.toks + 1 }) e c' d (by decide) ⟨.str ⟨#[c]⟩, H, I1, ⟨_, rfl⟩, ⟨rfl, c, hx, rfl⟩, st', fun b hb => (hf b hb).1⟩⟩
  done := by
    intro X hP hw hK hc i pins s σ H E I hf st hg
    subst hP hw hK
    obtain ⟨f0, f1, f2, f3, f4, f5⟩ := hf it (by simp)
    exact wpAny_pyNext_ascii_end (I.ok.hd hc) st hg fun h' eb => ⟨rfl, I.turned (t' := s.toks) (fun b o hb e => eb b o hb e) f0 f1 f3 f4 f5⟩
  self := fun _ _ s Q E st h => by
    have hT : s.TypeIs (.ref it) "str_ascii_iterator" := st.typeIs
    refine wpAny_pyIter_slot hT PySem.F.slot_str_ascii_iterator_iter (wpAny_call_entry PySem.F.slot_str_ascii_iterator_iter hT entry_asciter ?_ (PySem.F.args_str_ascii_iterator_iter_1 _))
    show wpAny _ _ (ret (.ref it)) _ _ s
    exact wpAny_pure ⟨_, rfl, "str_ascii_iterator", _, hT, PySem.F.slot_str_ascii_iterator_next.lookup, h⟩
section
variable [Reg] {X : Cx} {O : Ow} {tg e : Expr} {f : Rho → Option PyData}
noncomputable def iStr (tl : TE) : TI := fun σ H R => tl σ H fun x H1 => ∃ z, x = .str z ∧ z.cps.all (· < 128) = true ∧ R (Its z) H1
theorem pi_str {l : Expr} {tl : TE} (hl : PE X l tl) : PI X tg l (iStr tl) := by
  intro pins s σ H R I h
  refine thn (hl pins s σ H _ I h) fun v s1 zpat => ?_
  obtain ⟨x, H1, I1, r1, z, rfl, ha, q⟩ := zpat
  obtain ⟨t, rfl⟩ := r1
  refine wpAny_pyIter_ascii ha ?_
  refine ⟨s1.heap.objs.size, [s1.heap.objs.size], _, _, H1, rfl, I1.kept (t' := s1.toks) (fun b o e => Heap.get?_push_of_some _ e), turn_str z t _, ⟨_, Heap.get?_push_size _ rfl, rfl, rfl⟩, fun b hb => ?_, q⟩
  have e : b = s1.heap.objs.size := by simpa using hb
  subst e
  exact I1.fpOk (Nat.le_refl _) (I1.hok.fresh (Nat.le_refl _))
noncomputable def charsD (d : PyData) : Option (List PyData) := (strO d).bind fun z => if z.cps.all (· < 128) = true then some (z.cps.toList.map fun c => .str ⟨#[c]⟩) else none
theorem good_str {K : PySem.W.Frag} {G : Hp} (z : Str) : GoodIt K (Its z) G (z.cps.toList.map fun c => .str ⟨#[c]⟩) where
  go := fun H2 i s h => by
    rw [List.length_map, Array.length_toList] at h
    exact ⟨z.cps[i], Array.getElem?_eq_getElem h⟩
  yld := fun H2 i x H3 d s h y => by
    obtain ⟨rfl, c, hc, rfl⟩ := y
    rw [List.getElem?_map, Array.getElem?_toList, hc] at h
    cases h
    exact .inl ⟨rfl, .str _⟩
  stop := fun H2 s => by
    show z.cps[(z.cps.toList.map fun c => PyData.str ⟨#[c]⟩).length]? = none
    rw [List.length_map, Array.length_toList]
    exact Array.getElem?_eq_none (Nat.le_refl _)
theorem ir_str (h : PR X O e f) : PIr X O tg e (fun ρ => (f ρ).bind charsD) := (pi_str h).imp fun σ H R zpat => by
  obtain ⟨hid, H0, ρ, ow, ds, E, hf, k⟩ := zpat
  obtain ⟨d, h1, h2⟩ := bind_some hf
  obtain ⟨z, h3, h4⟩ := bind_some h2
  rw [strO_some h3] at h1
  split at h4
  case isFalse => cases h4
  rename_i ha
  cases h4
  exact ⟨hid, H0, ρ, ow, _, E, h1, fun v H' s D => ⟨z, den_str D, ha, k _ H' s (good_str z)⟩⟩
noncomputable def isN : Value → Bool
  | .none => true
  | _ => false
noncomputable def isNV : V → Bool
  | .non => true
  | _ => false
noncomputable def rInN (K : PySem.W.Frag) : R2 := fun x y H Q => x = .non ∧ ∃ p xs, y = .ref p ∧ SqL K H p xs ∧ (∀ v ∈ xs, v = .non ∨ ∃ a ys, v = .ref a ∧ SqT K H a ys) ∧ Q (.bl (xs.any isNV)) H
theorem any_isN {xs : List V} {its : List Value} (h : Vals xs its) (hx : ∀ v ∈ xs, v = .non ∨ ∃ a : Addr, v = .ref a) : its.any isN = xs.any isNV := by
  induction h with
  | nil => rfl
  | cons r t ih =>
    rw [List.any_cons, List.any_cons, ih fun v hv => hx v (List.mem_cons_of_mem _ hv)]
    congr 1
    rcases hx _ (List.mem_cons_self ..) with rfl | ⟨a, rfl⟩
    · cases r; rfl
    · cases r; rfl
theorem vals_mem {xs : List V} {its : List Value} (h : Vals xs its) {u : Value} (hu : u ∈ its) : ∃ v ∈ xs, RelV v u := by
  induction h with
  | nil => cases hu
  | cons r t ih =>
    rcases List.mem_cons.mp hu with rfl | hu
    · exact ⟨_, List.mem_cons_self .., r⟩
    · obtain ⟨v, h1, h2⟩ := ih hu
      exact ⟨v, List.mem_cons_of_mem _ h1, h2⟩
theorem op_inN (hu : X.A.units + 1 < cLine) : OpR X (compareOp .In) (rInN X.K) := by
  intro pins s σ H x y v u Q I rx ry h
  obtain ⟨rfl, p, xs, rfl, hq, hx, q⟩ := h
  cases ry
  cases rx
  obtain ⟨its, r, pl, hz⟩ := I.list hq
  refine SeqAt.in_listAt isN pl.isList (fun w hw => ?_) ⟨.bl _, H, I, rfl, ?_⟩
  · obtain ⟨v, hv, rv⟩ := vals_mem r (by simpa using hw)
    rcases hx v hv with rfl | ⟨a, ys, rfl, ha⟩
    · cases rv
      exact SeqAt.EqAt.same .none
    · cases rv
      obtain ⟨its', r', pl', _⟩ := I.tuple ha
      exact SeqAt.EqAt.tuple_none pl' hu
  · rw [show its.toArray.any isN = its.any isN by simp, any_isN r fun v hv => (hx v hv).imp id fun ⟨a, _, e, _⟩ => ⟨a, e⟩]
    exact q
noncomputable def tupN : PyData → Bool
  | .none => true
  | .tuple _ => true
  | _ => false
noncomputable def isND : PyData → Bool
  | .none => true
  | _ => false
noncomputable def inND (d e : PyData) : Option PyData := if isND d = true then (listD e).bind fun ds => if ds.all tupN = true then some (.bool (ds.any isND)) else none else none
theorem sp_inN {K : PySem.W.Frag} : SpecOp K (rInN K) inND := fun x y H d e r Q D1 D2 q k => by
  unfold inND at q
  split at q
  case isFalse => cases q
  rename_i hd
  obtain ⟨ds, h1, h2⟩ := bind_some q
  split at h2
  case isFalse => cases h2
  rename_i ha
  cases h2
  have hx : x = .non := by
    cases D1 with
    | non => rfl
    | _ => cases hd
  rw [listD_some h1] at D2
  obtain ⟨p, vs, rfl, q1, r1⟩ := den_lst D2
  have key : (∀ v ∈ vs, v = .non ∨ ∃ a ys, v = .ref a ∧ SqT K H a ys) ∧ vs.any isNV = ds.any isND := by
    clear q h1 D2 k q1
    refine r1.ind (M := fun vs ds => ds.all tupN = true → (∀ v ∈ vs, v = .non ∨ ∃ a ys, v = .ref a ∧ SqT K H a ys) ∧ vs.any isNV = ds.any isND) (fun _ => ⟨(fun v hv => by cases hv), rfl⟩) ?_ ha
    intro v d vs ds h _ ih ha
    rw [List.all_cons, Bool.and_eq_true] at ha
    obtain ⟨i1, i2⟩ := ih ha.2
    rw [List.any_cons, List.any_cons, i2]
    cases h with
    | non => exact ⟨fun w hw => (List.mem_cons.mp hw).elim (fun e => .inl e) (i1 w), rfl⟩
    | tup h _ => exact ⟨fun w hw => (List.mem_cons.mp hw).elim (fun e => .inr ⟨_, _, e, h⟩) (i1 w), rfl⟩
    | _ => cases ha.1
  exact ⟨hx, p, vs, rfl, q1, key.1, by rw [key.2]; exact k _ (.bl _)⟩
theorem c_inN (hu : X.A.units + 64 < cLine) : CmpD X .In inND := ⟨_, op_inN (Nat.lt_of_le_of_lt (Nat.add_le_add_left (by decide : 1 ≤ 64) _) hu), sp_inN⟩
end
section
variable {X : Cx} {O : Ow} {a b : Expr} {pos : Pos} {fa fb : Rho → Option PyData}
theorem v_cmpM [Reg] {op : CmpOp} {g : PyData → PyData → Option PyData} (C : CmpD X op g) (ha : PR X O a fa) (hb : PR X O b fb) (hm : behindInMarks op b = false := by rfl) : PV X O (.Compare a [op] [b] pos) (fun ρ => bind2 (fa ρ) (fb ρ) g) := by
  obtain ⟨rd, ho, hs⟩ := C.ex
  exact (pe_cmpR ho ha hb hm).imp (tOp_imp hs)
theorem t_cmpM [Reg] {op : CmpOp} {g : PyData → PyData → Option PyData} (C : CmpD X op g) (ha : PR X O a fa) (hb : PR X O b fb) (hm : behindInMarks op b = false := by rfl) : PTv X O (.Compare a [op] [b] pos) (fun ρ => testD (bind2 (fa ρ) (fb ρ) g)) := by
  obtain ⟨rd, ho, hs⟩ := C.ex
  refine (pt_cmpR ho ha hb hm).imp fun σ H Q zpat => ?_
  obtain ⟨hid, H0, ρ, ow, k, E, hf, q⟩ := zpat
  obtain ⟨d, h3, h4⟩ := bind_some hf
  refine tOp_imp hs σ H _ ⟨hid, H0, ρ, ow, d, E, h3, fun v H' s D => ?_⟩
  rw [boolD_some h4] at D
  exact ⟨k, den_bl D, q H' s⟩
end
inductive TxtAt (K : PySem.W.Frag) (x v : Str) : Prop
  | mk (t : Tok) (e : PySem.W.nsIn K mainGlobals x = some (some (.str v t))) : TxtAt K x v
theorem TxtAt.of {K : PySem.W.Frag} {x v : Str} {t : Tok} (e : PySem.W.nsIn K mainGlobals x = some (some (.str v t))) : TxtAt K x v := ⟨t, e⟩
end L2
namespace L2
open PySem PySem.Spec PyProof.Rows
theorem cps_app (x y : Str) : (x ++ y).cps.toList = x.cps.toList ++ y.cps.toList := by
  obtain ⟨a⟩ := x
  obtain ⟨b⟩ := y
  show (a ++ b).toList = _
  rw [Array.toList_append]
theorem str_eq {x y : Str} (h : x.cps.toList = y.cps.toList) : x = y := Str.ext' (Array.toList_inj.mp h)
theorem cut_at {c : Nat} : ∀ {p q r t : List Nat}, c ∉ p → c ∉ q → p ++ c :: r = q ++ c :: t → p = q ∧ r = t := by
  intro p
  induction p with
  | nil =>
    intro q r t _ hq h
    cases q with
    | nil => exact ⟨rfl, (List.cons.inj h).2⟩
    | cons a q => exact absurd (List.mem_cons.mpr (.inl (List.cons.inj h).1)) hq
  | cons a p ih =>
    intro q r t hp hq h
    cases q with
    | nil => exact absurd (List.mem_cons.mpr (.inl (List.cons.inj h).1.symm)) hp
    | cons b q =>
      obtain ⟨h1, h2⟩ := List.cons.inj h
      obtain ⟨h3, h4⟩ := ih (fun z => hp (List.mem_cons_of_mem _ z)) (fun z => hq (List.mem_cons_of_mem _ z)) h2
      exact ⟨by rw [h1, h3], h4⟩
theorem join_uniq {c : Nat} : ∀ {ps qs : List Str}, ps ≠ [] → qs ≠ [] → (∀ p ∈ ps, c ∉ p.cps.toList) → (∀ q ∈ qs, c ∉ q.cps.toList) → Str.join ⟨#[c]⟩ ps = Str.join ⟨#[c]⟩ qs → ps = qs := by
  intro ps
  induction ps with
  | nil => intro qs h; exact absurd rfl h
  | cons p ps ih =>
    intro qs _ hq fp fq h
    cases qs with
    | nil => exact absurd rfl hq
    | cons q qs =>
      have hp1 := fp p (List.mem_cons_self ..)
      have hq1 := fq q (List.mem_cons_self ..)
      have e : ∀ (x y : Str) (r : List Str), (Str.join ⟨#[c]⟩ (x :: y :: r)).cps.toList = x.cps.toList ++ c :: (Str.join ⟨#[c]⟩ (y :: r)).cps.toList := fun x y r => by
        show (x ++ ⟨#[c]⟩ ++ Str.join ⟨#[c]⟩ (y :: r)).cps.toList = _
        rw [cps_app, cps_app, List.append_assoc]
        rfl
      cases ps with
      | nil =>
        cases qs with
        | nil => rw [show p = q from h]
        | cons q2 qs =>
          have h' := congrArg (fun z : Str => z.cps.toList) h
          rw [e] at h'
          exact absurd (show c ∈ p.cps.toList from by rw [show p.cps.toList = _ from h']; simp) hp1
      | cons p2 ps =>
        cases qs with
        | nil =>
          have h' := congrArg (fun z : Str => z.cps.toList) h
          rw [e] at h'
          exact absurd (show c ∈ q.cps.toList from by rw [show q.cps.toList = _ from h'.symm]; simp) hq1
        | cons q2 qs =>
          have h' := congrArg (fun z : Str => z.cps.toList) h
          rw [e, e] at h'
          obtain ⟨h1, h2⟩ := cut_at hp1 hq1 h'
          rw [str_eq h1, ih (by simp) (by simp) (fun z hz => fp z (List.mem_cons_of_mem _ hz)) (fun z hz => fq z (List.mem_cons_of_mem _ hz)) (str_eq h2)]
theorem split_glued {c : Nat} {ts : List Str} (hne : ts ≠ []) (hc : ∀ t ∈ ts, c ∉ t.cps.toList) : Txt.split (Builtin.Str.glued ⟨#[c]⟩ ts) ⟨#[c]⟩ = ts := by
  refine join_uniq (fun z => ?_) hne (StrLaws.split_free _ c) hc ?_
  · have := split_pos (Builtin.Str.glued ⟨#[c]⟩ ts) ⟨#[c]⟩
    rw [z] at this
    exact absurd this (by decide)
  · rw [StrLaws.join_split, StrLaws.glued_eq_join]
theorem split_two {c : Nat} {x y : Str} (hx : c ∉ x.cps.toList) (hy : c ∉ y.cps.toList) : Txt.split (x ++ ⟨#[c]⟩ ++ y) ⟨#[c]⟩ = [x, y] := by
  have := split_glued (c := c) (ts := [x, y]) (by simp) (fun t ht => by
    rcases List.mem_cons.mp ht with rfl | ht
    · exact hx
    · rw [List.mem_singleton.mp ht]; exact hy)
  rw [StrLaws.glued_eq_join] at this
  exact this
open PySem.NumText in
theorem num_pos (m : Nat) : (Str.ofString (toString ((m : Nat) : Int))).cps.toList = (Nat.toDigits 10 m).map Char.toNat := PySem.W.KIN.signs_num m
theorem num_neg (m : Nat) : (Str.ofString (toString (Int.negSucc m))).cps.toList = 45 :: (Nat.toDigits 10 (m + 1)).map Char.toNat := by
  have e : toString (Int.negSucc m) = "-" ++ Nat.repr (m + 1) := rfl
  rw [e, signs_ofString, String.toList_append, List.map_append, Nat.toList_repr]
  rfl
open PySem.NumText in
theorem digs_all (m : Nat) : AllDigits ((Nat.toDigits 10 m).map Char.toNat) := by
  intro c hc
  obtain ⟨ch, hch, e⟩ := List.mem_map.mp hc
  rw [← e]
  exact digit_range (Nat.isDigit_of_mem_toDigits (by decide) (by decide) hch)
theorem digs_ne (m : Nat) : (Nat.toDigits 10 m).map Char.toNat ≠ [] := by
  intro e
  have h := toDigits_len_ge 10 m
  rw [List.map_eq_nil_iff.mp e] at h
  exact absurd h (by decide)
noncomputable def nT (n : Int) : Str := Str.ofString (toString n)
theorem nT_len {n : Int} (h : n.natAbs < 10 ^ 60) : (nT n).length ≤ 61 := by
  have e := int_text_length_le10 (k := 60) (by decide) h
  unfold nT
  rw [PySem.ofString_length]
  exact e
open PySem.NumText in
theorem nT_read {n : Int} (h : n.natAbs < 10 ^ 60) : intText? (nT n) = some n := by
  have hl := nT_len h
  cases n with
  | ofNat m =>
    have e := intText_digits (x := nT (m : Int)) (by unfold nT; rw [num_pos]; exact digs_all m) (by unfold nT; rw [num_pos]; exact digs_ne m) (Nat.le_trans hl (by decide))
    unfold nT at e ⊢
    rw [num_pos, PySem.W.KIN.val_back] at e
    exact e
  | negSucc m =>
    have e := intText_neg (x := nT (Int.negSucc m)) (num_neg m) (digs_all _) (digs_ne _) (Nat.le_trans hl (by decide))
    rw [PySem.W.KIN.val_back] at e
    rw [e]
    rfl
theorem nT_signs (n : Int) : ∀ c ∈ (nT n).cps.toList, c = 45 ∨ (48 ≤ c ∧ c ≤ 57) := by
  intro c hc
  unfold nT at hc
  cases n with
  | ofNat m =>
    have hc' : c ∈ (Nat.toDigits 10 m).map Char.toNat := by rw [← num_pos]; exact hc
    exact .inr (digs_all m c hc')
  | negSucc m =>
    rw [num_neg] at hc
    rcases List.mem_cons.mp hc with z | z
    · exact .inl z
    · exact .inr (digs_all _ c z)
theorem nT_no {c : Nat} (h1 : c ≠ 45) (h2 : ¬ (48 ≤ c ∧ c ≤ 57)) (n : Int) : c ∉ (nT n).cps.toList := fun z => (nT_signs n c z).elim h1 h2
end L2
namespace NW
open PySem PySem.Spec PyProof.Rows L2
noncomputable def top (i : Nat) : Stmt := PySem.Challenge.pw_nearposts_k55_folk_written_and_read.main.body.getD i (.Pass ⟨0, 0, 0, 0⟩)
noncomputable abbrev s_l_digits : Stmt := top 14
noncomputable abbrev s_l_folk : Stmt := top 15
noncomputable abbrev s_l_divisor : Stmt := top 17
noncomputable abbrev s_l_fraction : Stmt := top 18
noncomputable abbrev s_p_fraction_text : Stmt := top 6
noncomputable abbrev s_p_folk_text : Stmt := top 5
noncomputable abbrev s_p_are_figures : Stmt := top 7
noncomputable abbrev s_p_number_in : Stmt := top 8
noncomputable abbrev s_p_numbers_in : Stmt := top 9
noncomputable abbrev s_p_one_in : Stmt := top 10
noncomputable abbrev s_p_read_folk : Stmt := top 11
noncomputable abbrev s_l_text : Stmt := top 16
noncomputable abbrev s_l_whole : Stmt := top 13
noncomputable abbrev s_l_folk_so : Stmt := top 19
noncomputable abbrev s_law : Stmt := top 20
noncomputable def lamTab : List (Str × Lam) := []
noncomputable instance : Reg := ⟨fun t => lamTab.lookup t⟩
noncomputable def E_l_digits_0 : Rho → Option PyData := fun ρ => bind2 ((ρ[1]?).join) ((ρ[0]?).join) ixD
noncomputable def L_l_digits_1 : Rho → Option Out := seqF (fun ρ => setO 5 ρ (bind2 (bind2 (bind2 (bind2 ((ρ[5]?).join) ((ρ[5]?).join) mulD) ((ρ[3]?).join) addD) (bind2 (some (.int 7919)) ((ρ[7]?).join) mulD) addD) (some (.int 2147483629)) modD)) (seqF (fun ρ => condO (testD (bind2 ((ρ[6]?).join) (some (.int 0)) gtD)) ((bind2 ((ρ[6]?).join) (some (.int 1000003)) modD).bind (appD 4 ρ)) ((bind2 (bind2 (bind2 ((ρ[5]?).join) ((ρ[5]?).join) mulD) (some (.int 2147483587)) modD) (some (.int 1000003)) modD).bind (appD 4 ρ))) (fun ρ => setO 6 ρ (bind2 ((ρ[6]?).join) (some (.int 1000003)) fdivD)))
noncomputable def B_l_digits : Rho → Option Out := seqF (fun ρ => setO 3 ρ (((compO (setS 0) (fun _ => some true) E_l_digits_0 ((consD ((ρ[1]?).join) (consD ((consD ((consD ((ρ[0]?).join) (some [])).bind lenD) (consD (some (.int 63)) (some []))).bind minD) (consD ((ρ[2]?).join) (some [])))).bind rng3D) (frees 1 [0] ρ)).map .list).bind sumD)) (seqF (fun ρ => setLO 4 ρ (shortL (some []))) (seqF (fun ρ => setO 5 ρ (bind2 (bind2 (bind2 ((ρ[3]?).join) (some (.int 48271)) mulD) (some (.int 40503)) addD) (some (.int 2147483629)) modD)) (seqF (fun ρ => setO 6 ρ (bind2 ((ρ[3]?).join) ((consD (bind2 ((ρ[3]?).join) (bind2 (some (.int 10)) (some (.int 18)) powD) geD) (some [])).bind intD) mulD)) (seqF (fun ρ => forO (setS 7) L_l_digits_1 ((consD (some (.int 120)) (some [])).bind rng1D) ρ) (fun ρ => (((((ρ[4]?).join).bind revD).filter lf.go).map .list).map .rt)))))
noncomputable def F_l_digits : List PyData → Option PyData := runD 3 5 B_l_digits
noncomputable def L_l_folk_0 : Rho → Option Out := seqF (fun ρ => setEff 4 ((popD 0) ρ)) (seqF (fun ρ => setEff 5 ((popD 0) ρ)) (seqF (fun ρ => setO 6 ρ ((bind2 ((shortL (consD (bind2 (bind2 ((ρ[5]?).join) (some (.int 21)) modD) (some (.int 10)) subD) (consD (bind2 (bind2 ((ρ[5]?).join) (some (.int 2001)) modD) (some (.int 1000)) subD) (consD (bind2 (bind2 ((ρ[5]?).join) (bind2 (some (.int 10)) (some (.int 30)) powD) mulD) (bind2 (some (.int 5)) (bind2 (some (.int 10)) (some (.int 35)) powD) mulD) subD) (some []))))).map .list) (bind2 (bind2 ((ρ[4]?).join) (some (.int 8)) modD) (some (.int 3)) fdivD) ixD).filter lf)) (seqF (fun ρ => setO 7 ρ ((bind2 ((shortL (consD (some (.int 1)) (consD (bind2 (some (.int 1)) (bind2 (bind2 ((ρ[4]?).join) (some (.int 8)) fdivD) (some (.int 9)) modD) addD) (consD (bind2 (some (.int 1)) (bind2 (bind2 ((ρ[4]?).join) (some (.int 8)) fdivD) (some (.int 99)) modD) addD) (consD (bind2 (bind2 (some (.int 10)) (some (.int 30)) powD) ((ρ[4]?).join) addD) (some [])))))).map .list) (bind2 (bind2 (bind2 ((ρ[4]?).join) (some (.int 1024)) fdivD) (some (.int 16)) modD) (some (.int 4)) fdivD) ixD).filter lf)) (fun ρ => (shortD .tuple (consD ((ρ[6]?).join) (consD ((ρ[7]?).join) (some [])))).bind (appD 2 ρ)))))
noncomputable def B_l_folk : Rho → Option Out := seqI (fun ρ => setLO 2 ρ (shortL (some []))) (seqI (fun ρ => forEff (setS 3) L_l_folk_0 ((opL modD (popD 0) (fun ρ => bind2 ((ρ[1]?).join) (some (.int 1)) addD)) ρ)) (retI 0 (fun ρ => (ρ[2]?).join)))
noncomputable def FI_l_folk : List PyData → Option (PyData × List PyData) := runI 2 6 B_l_folk
noncomputable def W_l_divisor_0 : Rho → Option Bool := fun ρ => testD (bind2 ((ρ[1]?).join) (some (.int 0)) neD)
noncomputable def L_l_divisor_1 : Rho → Option Out := seqF (fun ρ => setO 2 ρ (bind2 ((ρ[0]?).join) ((ρ[1]?).join) modD)) (seqF (fun ρ => setO 0 ρ ((ρ[1]?).join)) (fun ρ => setO 1 ρ ((ρ[2]?).join)))
noncomputable def B_l_divisor : Rho → Option Out := seqF (fun ρ => whileD W_l_divisor_0 L_l_divisor_1 ((fun ρ => natAt ρ 1 + 1) ρ) ρ) (fun ρ => ((consD ((ρ[0]?).join) (some [])).bind absD).map .rt)
noncomputable def F_l_divisor : List PyData → Option PyData := runD 2 1 B_l_divisor
noncomputable def B_l_fraction : Rho → Option Out := seqI (fun ρ => setEff 1 ((popD 0) ρ)) (seqI (fun ρ => setEff 2 ((opL ixD (lstX (consX (fun ρ => (bind2 (bind2 (bind2 ((ρ[1]?).join) (some (.int 16)) fdivD) (some (.int 41)) modD) (some (.int 20)) subD).map fun d => (d, ρ)) (consX (opL subD (opL addD (opL mulD (popD 0) (fun ρ => bind2 (some (.int 10)) (some (.int 33)) powD)) (fun ρ => some (.int 1))) (fun ρ => bind2 (some (.int 5)) (bind2 (some (.int 10)) (some (.int 38)) powD) mulD)) (fun ρ => some ([], ρ))))) (fun ρ => bind2 ((ρ[1]?).join) (some (.int 2)) modD)) ρ)) (seqI (fun ρ => setEff 3 ((opL ixD (lstX (consX (fun ρ => (some (.int 1)).map fun d => (d, ρ)) (consX (fun ρ => (bind2 (some (.int 1)) (bind2 (bind2 ((ρ[1]?).join) (some (.int 16)) fdivD) (some (.int 12)) modD) addD).map fun d => (d, ρ)) (consX (opL addD (opL mulD (popD 0) (fun ρ => bind2 (some (.int 10)) (some (.int 30)) powD)) (fun ρ => some (.int 7))) (fun ρ => some ([], ρ)))))) (fun ρ => bind2 (bind2 ((ρ[1]?).join) (some (.int 2)) fdivD) (some (.int 3)) modD)) ρ)) (seqI (fun ρ => setO 4 ρ ((consD ((ρ[2]?).join) (consD ((ρ[3]?).join) (some []))).bind F_l_divisor)) (retI 0 (fun ρ => shortD .tuple (consD (bind2 ((ρ[2]?).join) ((ρ[4]?).join) fdivD) (consD (bind2 ((ρ[3]?).join) ((ρ[4]?).join) fdivD) (some []))))))))
noncomputable def FI_l_fraction : List PyData → Option (PyData × List PyData) := runI 1 4 B_l_fraction
noncomputable def B_p_fraction_text : Rho → Option Out := seqF (fun ρ => setO 1 ρ (bind2 ((ρ[0]?).join) (some (.int 0)) ixD)) (seqF (fun ρ => setO 2 ρ (bind2 ((ρ[0]?).join) (some (.int 1)) ixD)) (seqF (fun ρ => condO (testD (bind2 ((ρ[2]?).join) (some (.int 1)) eqD)) (((consD ((ρ[1]?).join) (some [])).bind strD).map .rt) (some (.nx ρ))) (fun ρ => (join3D (((ρ[1]?).join).bind fmtD) (some (.str (Str.ofString "/"))) (((ρ[2]?).join).bind fmtD)).map .rt)))
noncomputable def F_p_fraction_text : List PyData → Option PyData := runD 1 2 B_p_fraction_text
noncomputable def E_p_folk_text_0 : Rho → Option PyData := fun ρ => join3D (((ρ[0]?).join).bind fmtD) (some (.str (Str.ofString "*"))) (((ρ[1]?).join).bind fmtD)
noncomputable def B_p_folk_text : Rho → Option Out := seqF (fun ρ => condO (testD (bind2 ((consD ((ρ[0]?).join) (some [])).bind lenD) (some (.int 0)) eqD)) ((some (.str (Str.ofString "nobody"))).map .rt) (some (.nx ρ))) (fun ρ => (bind2 (some (.str (Str.ofString " "))) ((compO (tupS 2 (consS (setS 0) (consS (setS 1) (nilS)))) (fun _ => some true) E_p_folk_text_0 (((ρ[0]?).join).bind listD) (frees 2 [] ρ)).map .list) joinD).map .rt)
noncomputable def F_p_folk_text : List PyData → Option PyData := runD 1 0 B_p_folk_text
noncomputable def E_p_are_figures_0 : Rho → Option PyData := fun ρ => bind2 ((ρ[0]?).join) (some (.str (Str.ofString "0123456789"))) inSD
noncomputable def B_p_are_figures : Rho → Option Out := fun ρ => (andV (bind2 ((consD ((ρ[0]?).join) (some [])).bind lenSD) (some (.int 0)) gtD) (((compO (setS 0) (fun _ => some true) E_p_are_figures_0 (((ρ[0]?).join).bind charsD) (frees 1 [] ρ)).map .list).bind allD)).map .rt
noncomputable def F_p_are_figures : List PyData → Option PyData := runD 1 0 B_p_are_figures
noncomputable def B_p_number_in : Rho → Option Out := seqF (fun ρ => setO 1 ρ (condO (testD (bind2 ((ρ[0]?).join) (some (.str (Str.ofString "-"))) startsD)) (cutSD ((ρ[0]?).join) (((some (.int 1)).bind intO).map some) (some none)) ((ρ[0]?).join))) (seqF (fun ρ => condO ((testD ((consD ((ρ[1]?).join) (some [])).bind F_p_are_figures)).map not) ((some .none).map .rt) (some (.nx ρ))) (seqF (fun ρ => setO 2 ρ ((consD ((ρ[0]?).join) (some [])).bind intSD)) (fun ρ => (condO (testD (bind2 ((consD ((ρ[2]?).join) (some [])).bind strD) ((ρ[0]?).join) eqD)) ((ρ[2]?).join) (some .none)).map .rt)))
noncomputable def F_p_number_in : List PyData → Option PyData := runD 1 2 B_p_number_in
noncomputable def E_p_numbers_in_0 : Rho → Option PyData := fun ρ => (consD ((ρ[0]?).join) (some [])).bind F_p_number_in
noncomputable def B_p_numbers_in : Rho → Option Out := fun ρ => ((compO (setS 0) (fun _ => some true) E_p_numbers_in_0 (((((ρ[0]?).join).bind fun d => ((ρ[1]?).join).bind fun e => splitD d e).map .list).bind listD) (frees 1 [] ρ)).map .list).map .rt
noncomputable def F_p_numbers_in : List PyData → Option PyData := runD 2 0 B_p_numbers_in
noncomputable def B_p_one_in : Rho → Option Out := seqF (fun ρ => setO 1 ρ ((consD ((ρ[0]?).join) (consD (some (.str (Str.ofString "*"))) (some []))).bind F_p_numbers_in)) (seqF (fun ρ => condO (orB (testD (bind2 ((consD ((ρ[1]?).join) (some [])).bind lenD) (some (.int 2)) neD)) (testD (bind2 (some .none) ((ρ[1]?).join) inD))) ((some .none).map .rt) (some (.nx ρ))) (fun ρ => (shortD .tuple (consD (bind2 ((ρ[1]?).join) (some (.int 0)) ixD) (consD (bind2 ((ρ[1]?).join) (some (.int 1)) ixD) (some [])))).map .rt))
noncomputable def F_p_one_in : List PyData → Option PyData := runD 1 1 B_p_one_in
noncomputable def E_p_read_folk_0 : Rho → Option PyData := fun ρ => (consD ((ρ[0]?).join) (some [])).bind F_p_one_in
noncomputable def B_p_read_folk : Rho → Option Out := seqF (fun ρ => condO (testD (bind2 ((ρ[0]?).join) (some (.str (Str.ofString "nobody"))) eqD)) (((shortL (some [])).map .list).map .rt) (some (.nx ρ))) (seqF (fun ρ => setO 1 ρ (((compO (setS 0) (fun _ => some true) E_p_read_folk_0 (((((ρ[0]?).join).bind fun d => (some (.str (Str.ofString " "))).bind fun e => splitD d e).map .list).bind listD) (frees 1 [] ρ)).filter lf.go).map .list)) (seqF (fun ρ => condO (testD (bind2 (some .none) ((ρ[1]?).join) inND)) (none) (some (.nx ρ))) (fun ρ => ((ρ[1]?).join).map .rt)))
noncomputable def F_p_read_folk : List PyData → Option PyData := runD 1 1 B_p_read_folk
noncomputable def E_l_text_0 : Rho → Option PyData := fun ρ => bind2 (bind2 ((consD ((ρ[0]?).join) (some [])).bind strD) (some (.str (Str.ofString "*"))) addSD) ((consD ((ρ[1]?).join) (some [])).bind strD) addSD
noncomputable def B_l_text : Rho → Option Out := seqF (fun ρ => condO (testD (bind2 ((ρ[0]?).join) ((shortL (some [])).map .list) eqD)) ((some (.str (Str.ofString "nobody"))).map .rt) (some (.nx ρ))) (fun ρ => (bind2 (some (.str (Str.ofString " "))) ((compO (tupS 2 (consS (setS 0) (consS (setS 1) (nilS)))) (fun _ => some true) E_l_text_0 (((ρ[0]?).join).bind listD) (frees 2 [] ρ)).map .list) joinD).map .rt)
noncomputable def F_l_text : List PyData → Option PyData := runD 1 0 B_l_text
noncomputable def B_l_whole : Rho → Option Out := fun ρ => (andV (((ρ[0]?).join).bind (isD "int")) (notV (((ρ[0]?).join).bind (isD "bool")))).map .rt
noncomputable def F_l_whole : List PyData → Option PyData := runD 1 0 B_l_whole
noncomputable def L_l_folk_so_0 : Rho → Option Out := fun ρ => condO (orB ((testD (((ρ[5]?).join).bind (isD "tuple"))).map not) (orB ((testD ((consD (bind2 ((ρ[5]?).join) (some (.int 0)) ixD) (some [])).bind F_l_whole)).map not) ((testD ((consD (bind2 ((ρ[5]?).join) (some (.int 1)) ixD) (some [])).bind F_l_whole)).map not))) ((some (.bool false)).map .rt) (some (.nx ρ))
noncomputable def L_l_folk_so_1 : Rho → Option Out := seqF (fun ρ => setO 4 ρ ((consD ((ρ[2]?).join) (some [])).bind F_p_read_folk)) (seqF (fun ρ => condO (orB ((testD (((ρ[4]?).join).bind (isD "list"))).map not) (testD (bind2 ((ρ[4]?).join) ((ρ[0]?).join) neD))) ((some (.bool false)).map .rt) (some (.nx ρ))) (seqF (fun ρ => forL 4 (setS 5) L_l_folk_so_0 1001 0 ρ) (fun ρ => (shortD .tuple (consD (some (.int 0)) (consD (some (.int 1)) (some [])))).bind (appD 4 ρ))))
noncomputable def B_l_folk_so : Rho → Option Out := seqF (fun ρ => setO 1 ρ (((((ρ[0]?).join).bind seqD).filter lf.go).map .list)) (seqF (fun ρ => setO 2 ρ ((consD ((ρ[1]?).join) (some [])).bind F_p_folk_text)) (seqF (fun ρ => condO (orB (testD (bind2 ((ρ[1]?).join) ((ρ[0]?).join) neD)) (orB ((testD (((ρ[2]?).join).bind (isD "str"))).map not) (testD (bind2 ((ρ[2]?).join) ((consD ((ρ[0]?).join) (some [])).bind F_l_text) neD)))) ((some (.bool false)).map .rt) (some (.nx ρ))) (seqF (fun ρ => forO (setS 3) L_l_folk_so_1 ((consD (some (.int 2)) (some [])).bind rng1D) ρ) (fun ρ => (some (.bool true)).map .rt))))
noncomputable def F_l_folk_so : List PyData → Option PyData := runD 1 5 B_l_folk_so
noncomputable def B_law : Rho → Option Out := seqF (fun ρ => setO 1 ρ ((consD ((ρ[0]?).join) (consD (some (.int 0)) (consD (some (.int 2)) (some [])))).bind F_l_digits)) (seqF (fun ρ => setEff 2 ((callIr 1 FI_l_folk (fun ρ => consD (some (.int 5)) (some []))) ρ)) (seqF (fun ρ => setLO 3 ρ ((((ρ[2]?).join).bind seqD).filter lf.go)) (seqF (fun ρ => condO (testD (bind2 ((ρ[3]?).join) ((shortL (some [])).map .list) neD)) ((seqF (fun ρ => setEff 4 ((opL modD (popD 1) (fun ρ => (consD ((ρ[3]?).join) (some [])).bind lenD)) ρ)) (fun ρ => putEff 3 (fun ρ => (ρ[4]?).join) ((tupX (consX (fun ρ => ((bind2 (bind2 ((ρ[3]?).join) ((ρ[4]?).join) ixD) (some (.int 0)) ixD).filter lf).map fun d => (d, ρ)) (consX (opR ixD (fun ρ => (shortL (consD (some (.int 0)) (consD ((some (.int 1)).bind negD) (consD (bind2 (some (.int 0)) (bind2 (bind2 ((ρ[3]?).join) ((ρ[4]?).join) ixD) (some (.int 1)) ixD) subD) (some []))))).map .list) (opL modD (popD 1) (fun ρ => some (.int 3)))) (fun ρ => some ([], ρ))))) ρ))) ρ) (some (.nx ρ))) (seqF (fun ρ => setO 5 ρ (callN FI_l_fraction (((consD ((ρ[0]?).join) (consD (some (.int 1)) (consD (some (.int 2)) (some [])))).bind F_l_digits).bind listD) (some []))) (seqF (fun ρ => setO 6 ρ ((consD ((ρ[5]?).join) (some [])).bind F_p_fraction_text)) (seqF (fun ρ => condO (orB ((testD (((ρ[6]?).join).bind (isD "str"))).map not) (testD (bind2 ((ρ[6]?).join) (bind2 ((consD (bind2 ((ρ[5]?).join) (some (.int 0)) ixD) (some [])).bind strD) (bind2 ((shortL (consD (bind2 (some (.str (Str.ofString "/"))) ((consD (bind2 ((ρ[5]?).join) (some (.int 1)) ixD) (some [])).bind strD) addSD) (consD (some (.str (Str.ofString ""))) (some [])))).map .list) ((consD (bind2 (bind2 ((ρ[5]?).join) (some (.int 1)) ixD) (some (.int 1)) eqD) (some [])).bind intD) ixD) addSD) neD))) ((some (.bool false)).map .rt) (some (.nx ρ))) (fun ρ => (andV ((consD ((ρ[2]?).join) (some [])).bind F_l_folk_so) (andV ((consD ((ρ[3]?).join) (some [])).bind F_l_folk_so) ((consD ((shortL (some [])).map .list) (some [])).bind F_l_folk_so))).map .rt)))))))
noncomputable def F_law : List PyData → Option PyData := runD 1 6 B_law
end NW
namespace NW
open PySem PySem.Spec PyProof.Rows L2
theorem lf_zs : ∀ zs : List Int, lf.go (zs.map PyData.int) = true
  | [] => rfl
  | z :: r => by rw [List.map_cons, lf.go, lf_zs r]; rfl
theorem mulD_s2 {a b : Int} (hb : b.natAbs < 2 ^ 63) : mulD (.int a) (.int b) = some (.int (a * b)) := by
  have : isS b = true := decide_eq_true hb
  simp [mulD, int2C, this]
theorem mulD_s1 {a b : Int} (ha : a.natAbs < 2 ^ 63) : mulD (.int a) (.int b) = some (.int (a * b)) := by
  have : isS a = true := decide_eq_true ha
  simp [mulD, int2C, this]
theorem rng3_ok {i j : Int} (h1 : i.natAbs < 2 ^ 60) (h2 : j.natAbs < 2 ^ 60) : rng3D [.int i, .int j, .int 2] = some (rngL2 i ((j - i + 1) / 2).toNat) := by
  refine (show (if (decide (i.natAbs < 2 ^ 60) && (decide (j.natAbs < 2 ^ 60) && decide ((2 : Int) = 2))) = true then some (rngL2 i ((j - i + 1) / 2).toNat) else none) = _ from if_pos ?_)
  rw [decide_eq_true h1, decide_eq_true h2]
  rfl
noncomputable def dgOk (ds : List Int) : Prop := ∀ d ∈ ds, 0 ≤ d ∧ d < 1000003
theorem intsO_map' (ns : List Int) : intsO (ns.map .int) = some ns := intsO_map ns
theorem unit_eq (ns : List Int) (a : Nat) (hl : ns.length ≤ 63) (ha : a ≤ 1) :
    ∃ S : Int, ((compO (setS 0) (fun _ => some true) E_l_digits_0 ((rng3D [.int (a : Nat), .int (if (63 : Int) < (ns.length : Nat) then 63 else (ns.length : Nat)), .int 2])) [none, some (.list (ns.map .int))]).map .list).bind sumD = some (.int S) := by
  have hm : (if (63 : Int) < (ns.length : Nat) then 63 else ((ns.length : Nat) : Int)) = (ns.length : Nat) := if_neg (by omega)
  rw [hm, rng3_ok (by omega) (by omega)]
  generalize hn : ((((ns.length : Nat) : Int) - (a : Nat) + 1) / 2).toNat = n
  have hlt : ∀ i, i < n → a + 2 * i < ns.length := fun i hi => by omega
  have e := compD_map (S := setS 0) (fe := E_l_digits_0) (fun i : Nat => PyData.int ((a : Nat) + (i : Nat) * 2)) PyData.int (fun i : Nat => ns.getD (a + 2 * i) 0) (fun ρ => ∃ c, ρ = [c, some (.list (ns.map .int))]) (fun i => a + 2 * i < ns.length) (fun i ρ hi ⟨c, e⟩ => ⟨[some (.int ((a : Nat) + (i : Nat) * 2)), some (.list (ns.map .int))], by rw [e]; rfl, ⟨_, rfl⟩, by
    simp only [E_l_digits_0]
    try simp only [runD, seqF_def, thenO_nx, thenO_rt, List.length_cons, List.length_nil, Nat.reduceAdd, reduceIte, List.map_cons, List.map_nil, List.reduceReplicate, List.append_nil, List.nil_append, List.cons_append, List.getElem?_cons_zero, List.getElem?_cons_succ, List.set_cons_zero, List.set_cons_succ, Option.join_some, Option.bind_some, Option.map_some, Option.filter_some, consD_ss, testD_s, condO_t, condO_f, andB_t, andB_f, orB_t, orB_f, andV_t, andV_f, orV_t, orV_f, notV_s, setO_s, setLO_s, dropO_s, forO_s, asgO_s, bind2_ss, addD_ok, subD_ok, ltD_ok, leD_ok, gtD_ok, geD_ok, eqD_int, neD_int, ix_pair0, ix_pair1, setS, negD, lenD_l, lenD_t, listD_l, tupD_t, seqD_l, short2, shortL0, shortL1, shortL2, shortL3, shortL4, outD_rt, outD_nx, Bool.not_true, Bool.not_false]
    rw [show (((a : Nat) : Int) + (i : Nat) * 2) = ((a + 2 * i : Nat) : Int) by omega]
    rw [ixD]
    refine atI_nat ?_
    rw [List.getElem?_map, List.getElem?_eq_getElem hi, List.getD_eq_getElem?_getD, List.getElem?_eq_getElem hi]
    rfl⟩) (List.range n) [none, some (.list (ns.map .int))] ⟨_, rfl⟩ (fun i hi => hlt i (List.mem_range.mp hi))
  have hlen : (rngL2 (a : Nat) n).length ≤ 1000 := by unfold rngL2; rw [List.length_map, List.length_range]; omega
  refine ⟨((List.range n).map fun i => ns.getD (a + 2 * i) 0).sum, ?_⟩
  rw [compO_s hlen, show rngL2 (a : Nat) n = (List.range n).map (fun i : Nat => PyData.int ((a : Nat) + (i : Nat) * 2)) from rfl, e]
  show (intsO _).map _ = _
  rw [intsO_map']
  rfl
theorem dig_step (s a p : Option PyData) (S first rest : Int) (ds : List Int) (k : Nat) (hf : 0 ≤ first ∧ first < 2147483629) (hd : dgOk ds) (hl : ds.length < 900) (hk : k < 900) :
    ∃ first' rest' d, 0 ≤ first' ∧ first' < 2147483629 ∧ 0 ≤ d ∧ d < 1000003 ∧
      L_l_digits_1 [s, a, p, some (.int S), some (.list (ds.map .int)), some (.int first), some (.int rest), some (.int (k : Nat))] = some (.nx [s, a, p, some (.int S), some (.list ((ds ++ [d]).map .int)), some (.int first'), some (.int rest'), some (.int (k : Nat))]) := by
  have m1 : mulD (.int first) (.int first) = some (.int (first * first)) := mulD_s1 (by omega)
  have m2 : mulD (.int 7919) (.int (k : Nat)) = some (.int (7919 * (k : Nat))) := mulD_s1 (by decide)
  have fd : fdivD (.int rest) (.int 1000003) = some (.int (rest / 1000003)) := fdivD_ok (by decide) rfl
  have ap : ∀ (d : Int) (x5 x6 : Option PyData), appD 4 [s, a, p, some (.int S), some (.list (ds.map .int)), x5, x6, some (.int (k : Nat))] (.int d) = some (.nx [s, a, p, some (.int S), some (.list ((ds ++ [d]).map .int)), x5, x6, some (.int (k : Nat))]) := fun d x5 x6 => by
    show (if decide ((ds.map PyData.int).length < 1000) = true then some (Out.nx [s, a, p, some (.int S), some (.list (ds.map PyData.int ++ [.int d])), x5, x6, some (.int (k : Nat))]) else none) = _
    rw [if_pos (decide_eq_true (by rw [List.length_map]; omega)), List.map_append]
    rfl
  generalize hf' : (first * first + S + 7919 * (k : Nat)) % 2147483629 = first'
  have b' : 0 ≤ first' ∧ first' < 2147483629 := by omega
  have m3 : mulD (.int first') (.int first') = some (.int (first' * first')) := mulD_s1 (by omega)
  simp only [L_l_digits_1]
  try simp only [runD, seqF_def, thenO_nx, thenO_rt, List.length_cons, List.length_nil, Nat.reduceAdd, reduceIte, List.map_cons, List.map_nil, List.reduceReplicate, List.append_nil, List.nil_append, List.cons_append, List.getElem?_cons_zero, List.getElem?_cons_succ, List.set_cons_zero, List.set_cons_succ, Option.join_some, Option.bind_some, Option.map_some, Option.filter_some, consD_ss, testD_s, condO_t, condO_f, andB_t, andB_f, orB_t, orB_f, andV_t, andV_f, orV_t, orV_f, notV_s, setO_s, setLO_s, dropO_s, forO_s, asgO_s, bind2_ss, addD_ok, subD_ok, ltD_ok, leD_ok, gtD_ok, geD_ok, eqD_int, neD_int, ix_pair0, ix_pair1, setS, negD, lenD_l, lenD_t, listD_l, tupD_t, seqD_l, short2, shortL0, shortL1, shortL2, shortL3, shortL4, outD_rt, outD_nx, Bool.not_true, Bool.not_false]
  rw [m1, m2]
  try simp only [runD, seqF_def, thenO_nx, thenO_rt, List.length_cons, List.length_nil, Nat.reduceAdd, reduceIte, List.map_cons, List.map_nil, List.reduceReplicate, List.append_nil, List.nil_append, List.cons_append, List.getElem?_cons_zero, List.getElem?_cons_succ, List.set_cons_zero, List.set_cons_succ, Option.join_some, Option.bind_some, Option.map_some, Option.filter_some, consD_ss, testD_s, condO_t, condO_f, andB_t, andB_f, orB_t, orB_f, andV_t, andV_f, orV_t, orV_f, notV_s, setO_s, setLO_s, dropO_s, forO_s, asgO_s, bind2_ss, addD_ok, subD_ok, ltD_ok, leD_ok, gtD_ok, geD_ok, eqD_int, neD_int, ix_pair0, ix_pair1, setS, negD, lenD_l, lenD_t, listD_l, tupD_t, seqD_l, short2, shortL0, shortL1, shortL2, shortL3, shortL4, outD_rt, outD_nx, Bool.not_true, Bool.not_false]
  rw [modD_ok (by decide), hf']
  try simp only [runD, seqF_def, thenO_nx, thenO_rt, List.length_cons, List.length_nil, Nat.reduceAdd, reduceIte, List.map_cons, List.map_nil, List.reduceReplicate, List.append_nil, List.nil_append, List.cons_append, List.getElem?_cons_zero, List.getElem?_cons_succ, List.set_cons_zero, List.set_cons_succ, Option.join_some, Option.bind_some, Option.map_some, Option.filter_some, consD_ss, testD_s, condO_t, condO_f, andB_t, andB_f, orB_t, orB_f, andV_t, andV_f, orV_t, orV_f, notV_s, setO_s, setLO_s, dropO_s, forO_s, asgO_s, bind2_ss, addD_ok, subD_ok, ltD_ok, leD_ok, gtD_ok, geD_ok, eqD_int, neD_int, ix_pair0, ix_pair1, setS, negD, lenD_l, lenD_t, listD_l, tupD_t, seqD_l, short2, shortL0, shortL1, shortL2, shortL3, shortL4, outD_rt, outD_nx, Bool.not_true, Bool.not_false]
  by_cases h : 0 < rest
  · rw [decide_eq_true h]
    try simp only [runD, seqF_def, thenO_nx, thenO_rt, List.length_cons, List.length_nil, Nat.reduceAdd, reduceIte, List.map_cons, List.map_nil, List.reduceReplicate, List.append_nil, List.nil_append, List.cons_append, List.getElem?_cons_zero, List.getElem?_cons_succ, List.set_cons_zero, List.set_cons_succ, Option.join_some, Option.bind_some, Option.map_some, Option.filter_some, consD_ss, testD_s, condO_t, condO_f, andB_t, andB_f, orB_t, orB_f, andV_t, andV_f, orV_t, orV_f, notV_s, setO_s, setLO_s, dropO_s, forO_s, asgO_s, bind2_ss, addD_ok, subD_ok, ltD_ok, leD_ok, gtD_ok, geD_ok, eqD_int, neD_int, ix_pair0, ix_pair1, setS, negD, lenD_l, lenD_t, listD_l, tupD_t, seqD_l, short2, shortL0, shortL1, shortL2, shortL3, shortL4, outD_rt, outD_nx, Bool.not_true, Bool.not_false]
    rw [modD_ok (by decide)]
    try simp only [runD, seqF_def, thenO_nx, thenO_rt, List.length_cons, List.length_nil, Nat.reduceAdd, reduceIte, List.map_cons, List.map_nil, List.reduceReplicate, List.append_nil, List.nil_append, List.cons_append, List.getElem?_cons_zero, List.getElem?_cons_succ, List.set_cons_zero, List.set_cons_succ, Option.join_some, Option.bind_some, Option.map_some, Option.filter_some, consD_ss, testD_s, condO_t, condO_f, andB_t, andB_f, orB_t, orB_f, andV_t, andV_f, orV_t, orV_f, notV_s, setO_s, setLO_s, dropO_s, forO_s, asgO_s, bind2_ss, addD_ok, subD_ok, ltD_ok, leD_ok, gtD_ok, geD_ok, eqD_int, neD_int, ix_pair0, ix_pair1, setS, negD, lenD_l, lenD_t, listD_l, tupD_t, seqD_l, short2, shortL0, shortL1, shortL2, shortL3, shortL4, outD_rt, outD_nx, Bool.not_true, Bool.not_false]
    rw [ap]
    try simp only [runD, seqF_def, thenO_nx, thenO_rt, List.length_cons, List.length_nil, Nat.reduceAdd, reduceIte, List.map_cons, List.map_nil, List.reduceReplicate, List.append_nil, List.nil_append, List.cons_append, List.getElem?_cons_zero, List.getElem?_cons_succ, List.set_cons_zero, List.set_cons_succ, Option.join_some, Option.bind_some, Option.map_some, Option.filter_some, consD_ss, testD_s, condO_t, condO_f, andB_t, andB_f, orB_t, orB_f, andV_t, andV_f, orV_t, orV_f, notV_s, setO_s, setLO_s, dropO_s, forO_s, asgO_s, bind2_ss, addD_ok, subD_ok, ltD_ok, leD_ok, gtD_ok, geD_ok, eqD_int, neD_int, ix_pair0, ix_pair1, setS, negD, lenD_l, lenD_t, listD_l, tupD_t, seqD_l, short2, shortL0, shortL1, shortL2, shortL3, shortL4, outD_rt, outD_nx, Bool.not_true, Bool.not_false]
    rw [fd]
    try simp only [runD, seqF_def, thenO_nx, thenO_rt, List.length_cons, List.length_nil, Nat.reduceAdd, reduceIte, List.map_cons, List.map_nil, List.reduceReplicate, List.append_nil, List.nil_append, List.cons_append, List.getElem?_cons_zero, List.getElem?_cons_succ, List.set_cons_zero, List.set_cons_succ, Option.join_some, Option.bind_some, Option.map_some, Option.filter_some, consD_ss, testD_s, condO_t, condO_f, andB_t, andB_f, orB_t, orB_f, andV_t, andV_f, orV_t, orV_f, notV_s, setO_s, setLO_s, dropO_s, forO_s, asgO_s, bind2_ss, addD_ok, subD_ok, ltD_ok, leD_ok, gtD_ok, geD_ok, eqD_int, neD_int, ix_pair0, ix_pair1, setS, negD, lenD_l, lenD_t, listD_l, tupD_t, seqD_l, short2, shortL0, shortL1, shortL2, shortL3, shortL4, outD_rt, outD_nx, Bool.not_true, Bool.not_false]
    exact ⟨first', rest / 1000003, rest % 1000003, b'.1, b'.2, by omega, by omega, rfl⟩
  · rw [decide_eq_false h]
    try simp only [runD, seqF_def, thenO_nx, thenO_rt, List.length_cons, List.length_nil, Nat.reduceAdd, reduceIte, List.map_cons, List.map_nil, List.reduceReplicate, List.append_nil, List.nil_append, List.cons_append, List.getElem?_cons_zero, List.getElem?_cons_succ, List.set_cons_zero, List.set_cons_succ, Option.join_some, Option.bind_some, Option.map_some, Option.filter_some, consD_ss, testD_s, condO_t, condO_f, andB_t, andB_f, orB_t, orB_f, andV_t, andV_f, orV_t, orV_f, notV_s, setO_s, setLO_s, dropO_s, forO_s, asgO_s, bind2_ss, addD_ok, subD_ok, ltD_ok, leD_ok, gtD_ok, geD_ok, eqD_int, neD_int, ix_pair0, ix_pair1, setS, negD, lenD_l, lenD_t, listD_l, tupD_t, seqD_l, short2, shortL0, shortL1, shortL2, shortL3, shortL4, outD_rt, outD_nx, Bool.not_true, Bool.not_false]
    rw [m3]
    try simp only [runD, seqF_def, thenO_nx, thenO_rt, List.length_cons, List.length_nil, Nat.reduceAdd, reduceIte, List.map_cons, List.map_nil, List.reduceReplicate, List.append_nil, List.nil_append, List.cons_append, List.getElem?_cons_zero, List.getElem?_cons_succ, List.set_cons_zero, List.set_cons_succ, Option.join_some, Option.bind_some, Option.map_some, Option.filter_some, consD_ss, testD_s, condO_t, condO_f, andB_t, andB_f, orB_t, orB_f, andV_t, andV_f, orV_t, orV_f, notV_s, setO_s, setLO_s, dropO_s, forO_s, asgO_s, bind2_ss, addD_ok, subD_ok, ltD_ok, leD_ok, gtD_ok, geD_ok, eqD_int, neD_int, ix_pair0, ix_pair1, setS, negD, lenD_l, lenD_t, listD_l, tupD_t, seqD_l, short2, shortL0, shortL1, shortL2, shortL3, shortL4, outD_rt, outD_nx, Bool.not_true, Bool.not_false]
    rw [modD_ok (by decide)]
    try simp only [runD, seqF_def, thenO_nx, thenO_rt, List.length_cons, List.length_nil, Nat.reduceAdd, reduceIte, List.map_cons, List.map_nil, List.reduceReplicate, List.append_nil, List.nil_append, List.cons_append, List.getElem?_cons_zero, List.getElem?_cons_succ, List.set_cons_zero, List.set_cons_succ, Option.join_some, Option.bind_some, Option.map_some, Option.filter_some, consD_ss, testD_s, condO_t, condO_f, andB_t, andB_f, orB_t, orB_f, andV_t, andV_f, orV_t, orV_f, notV_s, setO_s, setLO_s, dropO_s, forO_s, asgO_s, bind2_ss, addD_ok, subD_ok, ltD_ok, leD_ok, gtD_ok, geD_ok, eqD_int, neD_int, ix_pair0, ix_pair1, setS, negD, lenD_l, lenD_t, listD_l, tupD_t, seqD_l, short2, shortL0, shortL1, shortL2, shortL3, shortL4, outD_rt, outD_nx, Bool.not_true, Bool.not_false]
    rw [modD_ok (by decide)]
    try simp only [runD, seqF_def, thenO_nx, thenO_rt, List.length_cons, List.length_nil, Nat.reduceAdd, reduceIte, List.map_cons, List.map_nil, List.reduceReplicate, List.append_nil, List.nil_append, List.cons_append, List.getElem?_cons_zero, List.getElem?_cons_succ, List.set_cons_zero, List.set_cons_succ, Option.join_some, Option.bind_some, Option.map_some, Option.filter_some, consD_ss, testD_s, condO_t, condO_f, andB_t, andB_f, orB_t, orB_f, andV_t, andV_f, orV_t, orV_f, notV_s, setO_s, setLO_s, dropO_s, forO_s, asgO_s, bind2_ss, addD_ok, subD_ok, ltD_ok, leD_ok, gtD_ok, geD_ok, eqD_int, neD_int, ix_pair0, ix_pair1, setS, negD, lenD_l, lenD_t, listD_l, tupD_t, seqD_l, short2, shortL0, shortL1, shortL2, shortL3, shortL4, outD_rt, outD_nx, Bool.not_true, Bool.not_false]
    rw [ap]
    try simp only [runD, seqF_def, thenO_nx, thenO_rt, List.length_cons, List.length_nil, Nat.reduceAdd, reduceIte, List.map_cons, List.map_nil, List.reduceReplicate, List.append_nil, List.nil_append, List.cons_append, List.getElem?_cons_zero, List.getElem?_cons_succ, List.set_cons_zero, List.set_cons_succ, Option.join_some, Option.bind_some, Option.map_some, Option.filter_some, consD_ss, testD_s, condO_t, condO_f, andB_t, andB_f, orB_t, orB_f, andV_t, andV_f, orV_t, orV_f, notV_s, setO_s, setLO_s, dropO_s, forO_s, asgO_s, bind2_ss, addD_ok, subD_ok, ltD_ok, leD_ok, gtD_ok, geD_ok, eqD_int, neD_int, ix_pair0, ix_pair1, setS, negD, lenD_l, lenD_t, listD_l, tupD_t, seqD_l, short2, shortL0, shortL1, shortL2, shortL3, shortL4, outD_rt, outD_nx, Bool.not_true, Bool.not_false]
    rw [fd]
    try simp only [runD, seqF_def, thenO_nx, thenO_rt, List.length_cons, List.length_nil, Nat.reduceAdd, reduceIte, List.map_cons, List.map_nil, List.reduceReplicate, List.append_nil, List.nil_append, List.cons_append, List.getElem?_cons_zero, List.getElem?_cons_succ, List.set_cons_zero, List.set_cons_succ, Option.join_some, Option.bind_some, Option.map_some, Option.filter_some, consD_ss, testD_s, condO_t, condO_f, andB_t, andB_f, orB_t, orB_f, andV_t, andV_f, orV_t, orV_f, notV_s, setO_s, setLO_s, dropO_s, forO_s, asgO_s, bind2_ss, addD_ok, subD_ok, ltD_ok, leD_ok, gtD_ok, geD_ok, eqD_int, neD_int, ix_pair0, ix_pair1, setS, negD, lenD_l, lenD_t, listD_l, tupD_t, seqD_l, short2, shortL0, shortL1, shortL2, shortL3, shortL4, outD_rt, outD_nx, Bool.not_true, Bool.not_false]
    exact ⟨first', rest / 1000003, first' * first' % 2147483587 % 1000003, b'.1, b'.2, by omega, by omega, rfl⟩
theorem digits_eq (ns : List Int) (a : Nat) (hl : ns.length ≤ 63) (ha : a ≤ 1) : ∃ ds : List Int, ds.length = 120 ∧ dgOk ds ∧ F_l_digits [.list (ns.map .int), .int (a : Nat), .int 2] = some (.list (ds.map .int)) := by
  obtain ⟨S, eS⟩ := unit_eq ns a hl ha
  have m1 : mulD (.int S) (.int 48271) = some (.int (S * 48271)) := mulD_s2 (by decide)
  obtain ⟨R, eR⟩ : ∃ R, mulD (.int S) (.int (if (10 ^ 18 : Int) ≤ S then 1 else 0)) = some (.int R) := ⟨_, mulD_s2 (by split <;> decide)⟩
  generalize hf0 : (S * 48271 + 40503) % 2147483629 = f0
  have b0 : 0 ≤ f0 ∧ f0 < 2147483629 := by omega
  obtain ⟨ρ', e, ds, f', r', c7, h1, h2, h3, rfl⟩ := forD_inv (S := setS 7) (F := L_l_digits_1) (fun i ρ => ∃ (ds : List Int) (f r : Int) (c7 : Option PyData), ds.length = i ∧ dgOk ds ∧ (0 ≤ f ∧ f < 2147483629) ∧ ρ = [some (.list (ns.map .int)), some (.int (a : Nat)), some (.int 2), some (.int S), some (.list (ds.map .int)), some (.int f), some (.int r), c7])
    (rngL 0 120) 0 [some (.list (ns.map .int)), some (.int (a : Nat)), some (.int 2), some (.int S), some (.list []), some (.int f0), some (.int R), none] ⟨[], f0, R, none, rfl, fun d hd => (by cases hd), b0, rfl⟩ (by
      rintro i d ρ hd ⟨ds, f, r, c7, h1, h2, h3, rfl⟩
      obtain ⟨hi, rfl⟩ := rngL_get hd
      obtain ⟨f', r', x, a1, a2, a3, a4, es⟩ := dig_step (some (.list (ns.map .int))) (some (.int (a : Nat))) (some (.int 2)) S f r ds i h3 h2 (by omega) (by omega)
      refine ⟨_, _, rfl, es, ds ++ [x], f', r', _, by rw [List.length_append, List.length_singleton]; omega, fun y hy => ?_, ⟨a1, a2⟩, rfl⟩
      rcases List.mem_append.mp hy with hy | hy
      · exact h2 y hy
      · rw [List.mem_singleton.mp hy]; exact ⟨a3, a4⟩)
  refine ⟨ds.reverse, ?_, fun d hd => h2 d (List.mem_reverse.mp hd), ?_⟩
  · rw [List.length_reverse, h1]
    unfold rngL
    rw [List.length_map, List.length_range]
  · have iD : L2.intD [.bool (decide ((10 ^ 18 : Int) ≤ S))] = some (.int (if (10 ^ 18 : Int) ≤ S then 1 else 0)) := by
      by_cases h : (10 ^ 18 : Int) ≤ S
      · rw [decide_eq_true h, if_pos h]; rfl
      · rw [decide_eq_false h, if_neg h]; rfl
    rw [F_l_digits]
    try simp only [runD, seqF_def, thenO_nx, thenO_rt, List.length_cons, List.length_nil, Nat.reduceAdd, reduceIte, List.map_cons, List.map_nil, List.reduceReplicate, List.append_nil, List.nil_append, List.cons_append, List.getElem?_cons_zero, List.getElem?_cons_succ, List.set_cons_zero, List.set_cons_succ, Option.join_some, Option.bind_some, Option.map_some, Option.filter_some, consD_ss, testD_s, condO_t, condO_f, andB_t, andB_f, orB_t, orB_f, andV_t, andV_f, orV_t, orV_f, notV_s, setO_s, setLO_s, dropO_s, forO_s, asgO_s, bind2_ss, addD_ok, subD_ok, ltD_ok, leD_ok, gtD_ok, geD_ok, eqD_int, neD_int, ix_pair0, ix_pair1, setS, negD, lenD_l, lenD_t, listD_l, tupD_t, seqD_l, short2, shortL0, shortL1, shortL2, shortL3, shortL4, outD_rt, outD_nx, Bool.not_true, Bool.not_false]
    simp only [B_l_digits]
    try simp only [runD, seqF_def, thenO_nx, thenO_rt, List.length_cons, List.length_nil, Nat.reduceAdd, reduceIte, List.map_cons, List.map_nil, List.reduceReplicate, List.append_nil, List.nil_append, List.cons_append, List.getElem?_cons_zero, List.getElem?_cons_succ, List.set_cons_zero, List.set_cons_succ, Option.join_some, Option.bind_some, Option.map_some, Option.filter_some, consD_ss, testD_s, condO_t, condO_f, andB_t, andB_f, orB_t, orB_f, andV_t, andV_f, orV_t, orV_f, notV_s, setO_s, setLO_s, dropO_s, forO_s, asgO_s, bind2_ss, addD_ok, subD_ok, ltD_ok, leD_ok, gtD_ok, geD_ok, eqD_int, neD_int, ix_pair0, ix_pair1, setS, negD, lenD_l, lenD_t, listD_l, tupD_t, seqD_l, short2, shortL0, shortL1, shortL2, shortL3, shortL4, outD_rt, outD_nx, Bool.not_true, Bool.not_false]
    rw [List.length_map, show minD [.int ((ns.length : Nat) : Int), .int 63] = some (.int (if (63 : Int) < (ns.length : Nat) then 63 else (ns.length : Nat))) from rfl]
    try simp only [runD, seqF_def, thenO_nx, thenO_rt, List.length_cons, List.length_nil, Nat.reduceAdd, reduceIte, List.map_cons, List.map_nil, List.reduceReplicate, List.append_nil, List.nil_append, List.cons_append, List.getElem?_cons_zero, List.getElem?_cons_succ, List.set_cons_zero, List.set_cons_succ, Option.join_some, Option.bind_some, Option.map_some, Option.filter_some, consD_ss, testD_s, condO_t, condO_f, andB_t, andB_f, orB_t, orB_f, andV_t, andV_f, orV_t, orV_f, notV_s, setO_s, setLO_s, dropO_s, forO_s, asgO_s, bind2_ss, addD_ok, subD_ok, ltD_ok, leD_ok, gtD_ok, geD_ok, eqD_int, neD_int, ix_pair0, ix_pair1, setS, negD, lenD_l, lenD_t, listD_l, tupD_t, seqD_l, short2, shortL0, shortL1, shortL2, shortL3, shortL4, outD_rt, outD_nx, Bool.not_true, Bool.not_false]
    rw [show frees 1 [0] [some (.list (ns.map .int)), some (.int (a : Nat)), some (.int 2), none, none, none, none, none] = [none, some (.list (ns.map .int))] from rfl, eS]
    try simp only [runD, seqF_def, thenO_nx, thenO_rt, List.length_cons, List.length_nil, Nat.reduceAdd, reduceIte, List.map_cons, List.map_nil, List.reduceReplicate, List.append_nil, List.nil_append, List.cons_append, List.getElem?_cons_zero, List.getElem?_cons_succ, List.set_cons_zero, List.set_cons_succ, Option.join_some, Option.bind_some, Option.map_some, Option.filter_some, consD_ss, testD_s, condO_t, condO_f, andB_t, andB_f, orB_t, orB_f, andV_t, andV_f, orV_t, orV_f, notV_s, setO_s, setLO_s, dropO_s, forO_s, asgO_s, bind2_ss, addD_ok, subD_ok, ltD_ok, leD_ok, gtD_ok, geD_ok, eqD_int, neD_int, ix_pair0, ix_pair1, setS, negD, lenD_l, lenD_t, listD_l, tupD_t, seqD_l, short2, shortL0, shortL1, shortL2, shortL3, shortL4, outD_rt, outD_nx, Bool.not_true, Bool.not_false]
    rw [m1]
    try simp only [runD, seqF_def, thenO_nx, thenO_rt, List.length_cons, List.length_nil, Nat.reduceAdd, reduceIte, List.map_cons, List.map_nil, List.reduceReplicate, List.append_nil, List.nil_append, List.cons_append, List.getElem?_cons_zero, List.getElem?_cons_succ, List.set_cons_zero, List.set_cons_succ, Option.join_some, Option.bind_some, Option.map_some, Option.filter_some, consD_ss, testD_s, condO_t, condO_f, andB_t, andB_f, orB_t, orB_f, andV_t, andV_f, orV_t, orV_f, notV_s, setO_s, setLO_s, dropO_s, forO_s, asgO_s, bind2_ss, addD_ok, subD_ok, ltD_ok, leD_ok, gtD_ok, geD_ok, eqD_int, neD_int, ix_pair0, ix_pair1, setS, negD, lenD_l, lenD_t, listD_l, tupD_t, seqD_l, short2, shortL0, shortL1, shortL2, shortL3, shortL4, outD_rt, outD_nx, Bool.not_true, Bool.not_false]
    rw [modD_ok (by decide), hf0]
    try simp only [runD, seqF_def, thenO_nx, thenO_rt, List.length_cons, List.length_nil, Nat.reduceAdd, reduceIte, List.map_cons, List.map_nil, List.reduceReplicate, List.append_nil, List.nil_append, List.cons_append, List.getElem?_cons_zero, List.getElem?_cons_succ, List.set_cons_zero, List.set_cons_succ, Option.join_some, Option.bind_some, Option.map_some, Option.filter_some, consD_ss, testD_s, condO_t, condO_f, andB_t, andB_f, orB_t, orB_f, andV_t, andV_f, orV_t, orV_f, notV_s, setO_s, setLO_s, dropO_s, forO_s, asgO_s, bind2_ss, addD_ok, subD_ok, ltD_ok, leD_ok, gtD_ok, geD_ok, eqD_int, neD_int, ix_pair0, ix_pair1, setS, negD, lenD_l, lenD_t, listD_l, tupD_t, seqD_l, short2, shortL0, shortL1, shortL2, shortL3, shortL4, outD_rt, outD_nx, Bool.not_true, Bool.not_false]
    rw [show powD (.int 10) (.int 18) = some (.int (10 ^ 18)) from rfl]
    try simp only [runD, seqF_def, thenO_nx, thenO_rt, List.length_cons, List.length_nil, Nat.reduceAdd, reduceIte, List.map_cons, List.map_nil, List.reduceReplicate, List.append_nil, List.nil_append, List.cons_append, List.getElem?_cons_zero, List.getElem?_cons_succ, List.set_cons_zero, List.set_cons_succ, Option.join_some, Option.bind_some, Option.map_some, Option.filter_some, consD_ss, testD_s, condO_t, condO_f, andB_t, andB_f, orB_t, orB_f, andV_t, andV_f, orV_t, orV_f, notV_s, setO_s, setLO_s, dropO_s, forO_s, asgO_s, bind2_ss, addD_ok, subD_ok, ltD_ok, leD_ok, gtD_ok, geD_ok, eqD_int, neD_int, ix_pair0, ix_pair1, setS, negD, lenD_l, lenD_t, listD_l, tupD_t, seqD_l, short2, shortL0, shortL1, shortL2, shortL3, shortL4, outD_rt, outD_nx, Bool.not_true, Bool.not_false]
    rw [iD]
    try simp only [runD, seqF_def, thenO_nx, thenO_rt, List.length_cons, List.length_nil, Nat.reduceAdd, reduceIte, List.map_cons, List.map_nil, List.reduceReplicate, List.append_nil, List.nil_append, List.cons_append, List.getElem?_cons_zero, List.getElem?_cons_succ, List.set_cons_zero, List.set_cons_succ, Option.join_some, Option.bind_some, Option.map_some, Option.filter_some, consD_ss, testD_s, condO_t, condO_f, andB_t, andB_f, orB_t, orB_f, andV_t, andV_f, orV_t, orV_f, notV_s, setO_s, setLO_s, dropO_s, forO_s, asgO_s, bind2_ss, addD_ok, subD_ok, ltD_ok, leD_ok, gtD_ok, geD_ok, eqD_int, neD_int, ix_pair0, ix_pair1, setS, negD, lenD_l, lenD_t, listD_l, tupD_t, seqD_l, short2, shortL0, shortL1, shortL2, shortL3, shortL4, outD_rt, outD_nx, Bool.not_true, Bool.not_false]
    rw [eR]
    try simp only [runD, seqF_def, thenO_nx, thenO_rt, List.length_cons, List.length_nil, Nat.reduceAdd, reduceIte, List.map_cons, List.map_nil, List.reduceReplicate, List.append_nil, List.nil_append, List.cons_append, List.getElem?_cons_zero, List.getElem?_cons_succ, List.set_cons_zero, List.set_cons_succ, Option.join_some, Option.bind_some, Option.map_some, Option.filter_some, consD_ss, testD_s, condO_t, condO_f, andB_t, andB_f, orB_t, orB_f, andV_t, andV_f, orV_t, orV_f, notV_s, setO_s, setLO_s, dropO_s, forO_s, asgO_s, bind2_ss, addD_ok, subD_ok, ltD_ok, leD_ok, gtD_ok, geD_ok, eqD_int, neD_int, ix_pair0, ix_pair1, setS, negD, lenD_l, lenD_t, listD_l, tupD_t, seqD_l, short2, shortL0, shortL1, shortL2, shortL3, shortL4, outD_rt, outD_nx, Bool.not_true, Bool.not_false]
    rw [show rng1D [.int 120] = some (rngL 0 120) from rfl]
    try simp only [runD, seqF_def, thenO_nx, thenO_rt, List.length_cons, List.length_nil, Nat.reduceAdd, reduceIte, List.map_cons, List.map_nil, List.reduceReplicate, List.append_nil, List.nil_append, List.cons_append, List.getElem?_cons_zero, List.getElem?_cons_succ, List.set_cons_zero, List.set_cons_succ, Option.join_some, Option.bind_some, Option.map_some, Option.filter_some, consD_ss, testD_s, condO_t, condO_f, andB_t, andB_f, orB_t, orB_f, andV_t, andV_f, orV_t, orV_f, notV_s, setO_s, setLO_s, dropO_s, forO_s, asgO_s, bind2_ss, addD_ok, subD_ok, ltD_ok, leD_ok, gtD_ok, geD_ok, eqD_int, neD_int, ix_pair0, ix_pair1, setS, negD, lenD_l, lenD_t, listD_l, tupD_t, seqD_l, short2, shortL0, shortL1, shortL2, shortL3, shortL4, outD_rt, outD_nx, Bool.not_true, Bool.not_false]
    rw [e]
    try simp only [runD, seqF_def, thenO_nx, thenO_rt, List.length_cons, List.length_nil, Nat.reduceAdd, reduceIte, List.map_cons, List.map_nil, List.reduceReplicate, List.append_nil, List.nil_append, List.cons_append, List.getElem?_cons_zero, List.getElem?_cons_succ, List.set_cons_zero, List.set_cons_succ, Option.join_some, Option.bind_some, Option.map_some, Option.filter_some, consD_ss, testD_s, condO_t, condO_f, andB_t, andB_f, orB_t, orB_f, andV_t, andV_f, orV_t, orV_f, notV_s, setO_s, setLO_s, dropO_s, forO_s, asgO_s, bind2_ss, addD_ok, subD_ok, ltD_ok, leD_ok, gtD_ok, geD_ok, eqD_int, neD_int, ix_pair0, ix_pair1, setS, negD, lenD_l, lenD_t, listD_l, tupD_t, seqD_l, short2, shortL0, shortL1, shortL2, shortL3, shortL4, outD_rt, outD_nx, Bool.not_true, Bool.not_false]
    rw [show revD (.list (ds.map .int)) = some (ds.map .int).reverse from rfl, ← List.map_reverse]
    rw [filt (lf_zs _)]
    try simp only [runD, seqF_def, thenO_nx, thenO_rt, List.length_cons, List.length_nil, Nat.reduceAdd, reduceIte, List.map_cons, List.map_nil, List.reduceReplicate, List.append_nil, List.nil_append, List.cons_append, List.getElem?_cons_zero, List.getElem?_cons_succ, List.set_cons_zero, List.set_cons_succ, Option.join_some, Option.bind_some, Option.map_some, Option.filter_some, consD_ss, testD_s, condO_t, condO_f, andB_t, andB_f, orB_t, orB_f, andV_t, andV_f, orV_t, orV_f, notV_s, setO_s, setLO_s, dropO_s, forO_s, asgO_s, bind2_ss, addD_ok, subD_ok, ltD_ok, leD_ok, gtD_ok, geD_ok, eqD_int, neD_int, ix_pair0, ix_pair1, setS, negD, lenD_l, lenD_t, listD_l, tupD_t, seqD_l, short2, shortL0, shortL1, shortL2, shortL3, shortL4, outD_rt, outD_nx, Bool.not_true, Bool.not_false]
theorem pop_eq {ps : List Int} (h : ps ≠ []) {ρ : Rho} (hρ : (ρ[0]?).join = some (.list (ps.map .int))) : ∃ x, x ∈ ps ∧ popD 0 ρ = some (.int x, ρ.set 0 (some (.list (ps.dropLast.map .int)))) := by
  refine ⟨ps.getLast h, List.getLast_mem h, ?_⟩
  unfold popD
  rw [hρ, Option.bind_some]
  show (some (ps.map PyData.int)).bind _ = _
  rw [Option.bind_some, List.getLast?_map, List.getLast?_eq_some_getLast h, Option.map_some, Option.map_some, List.map_dropLast]
theorem dg_drop {ps : List Int} (h : dgOk ps) : dgOk ps.dropLast := fun d hd => h d (List.dropLast_subset _ hd)
theorem seqI_nx {F G : Rho → Option Out} {ρ ρ' : Rho} (h : F ρ = some (.nx ρ')) : seqI F G ρ = G ρ' := by
  unfold seqI
  rw [h]
  rfl
theorem pop_mod {ps : List Int} (h : ps ≠ []) (hd : dgOk ps) {m : Int} (hm : 0 < m) {g : Rho → Option PyData} {r : Rho} (hg : g (some (.list (ps.dropLast.map .int)) :: r) = some (.int m)) :
    ∃ x, (0 ≤ x ∧ x < m) ∧ opL modD (popD 0) g (some (.list (ps.map .int)) :: r) = some (.int x, some (.list (ps.dropLast.map .int)) :: r) := by
  obtain ⟨x, hx, e⟩ := pop_eq h (ρ := some (.list (ps.map .int)) :: r) rfl
  refine ⟨x % m, ⟨Int.emod_nonneg _ (by omega), Int.emod_lt_of_pos _ hm⟩, ?_⟩
  unfold opL
  rw [e, Option.bind_some]
  show (g (some (.list (ps.dropLast.map .int)) :: r)).bind _ = _
  rw [hg, Option.bind_some, modD_ok hm]
  rfl
noncomputable def sm (n : Int) : Prop := n.natAbs < 10 ^ 60
theorem sm_log {n : Int} (h : sm n) : n.natAbs.log2 < 1920 := by
  by_cases z : n.natAbs = 0
  · rw [z]; decide
  · exact (Nat.log2_lt z).mpr (Nat.lt_of_lt_of_le h (by decide +kernel))
theorem strD_n {n : Int} (h : sm n) : strD [.int n] = some (.str (nT n)) := if_pos (sm_log h)
theorem fmtD_n {n : Int} (h : sm n) : fmtD (.int n) = some (.str (nT n)) := if_pos (sm_log h)
theorem fit_n {n : Int} (h : sm n) : fitS (nT n) = true := decide_eq_true (Nat.le_trans (nT_len h) (by decide))
theorem dig_in : ∀ d, d < 10 → (Builtin.Str.occurrences (Str.ofString "0123456789") ⟨#[48 + d]⟩ 0 10 1).isEmpty = false := by decide +kernel
theorem inS_dig {c : Nat} (h : 48 ≤ c ∧ c ≤ 57) : inSD (.str ⟨#[c]⟩) (.str (Str.ofString "0123456789")) = some (.bool true) := by
  have := dig_in (c - 48) (by omega)
  rw [show 48 + (c - 48) = c by omega] at this
  show some (PyData.bool (!(Builtin.Str.occurrences (Str.ofString "0123456789") ⟨#[c]⟩ 0 10 1).isEmpty)) = _
  rw [this]
  rfl
theorem boolsO_true : ∀ n : Nat, boolsO (List.replicate n (.bool true)) = some (List.replicate n true) := by
  intro n
  induction n with
  | zero => rfl
  | succ n ih => rw [List.replicate_succ, boolsO, ih]; rfl
theorem figures_eq {x : Str} (hd : ∀ c ∈ x.cps.toList, 48 ≤ c ∧ c ≤ 57) (hn : x.cps.toList ≠ []) (hl : x.length ≤ 100) : F_p_are_figures [.str x] = some (.bool true) := by
  have e1 : lenSD [.str x] = some (.int x.length) := if_pos (decide_eq_true (Nat.le_trans hl (by decide)))
  have hlen : x.cps.toList.length = x.length := Array.length_toList
  have e2 : charsD (.str x) = some (x.cps.toList.map fun c => .str ⟨#[c]⟩) := by
    show (if x.cps.all (· < 128) = true then some (x.cps.toList.map fun c => PyData.str ⟨#[c]⟩) else none) = _
    rw [if_pos]
    rw [← Array.all_toList, List.all_eq_true]
    intro c hc
    have := hd c hc
    exact decide_eq_true (by omega)
  have e3 : compO (setS 0) (fun _ => some true) E_p_are_figures_0 (some (x.cps.toList.map fun c => PyData.str ⟨#[c]⟩)) [none] = some ((x.cps.toList.map fun _ => true).map PyData.bool) := by
    rw [compO_s (by rw [List.length_map]; omega)]
    exact compD_map (S := setS 0) (fe := E_p_are_figures_0) (fun c : Nat => PyData.str ⟨#[c]⟩) PyData.bool (fun _ => true) (fun ρ => ∃ y, ρ = [y]) (fun c => 48 ≤ c ∧ c ≤ 57) (fun c ρ hc hρ => by
      obtain ⟨y, rfl⟩ := hρ
      exact ⟨[some (.str ⟨#[c]⟩)], rfl, ⟨_, rfl⟩, inS_dig hc⟩) _ _ ⟨_, rfl⟩ hd
  have e4 : allD (.list ((x.cps.toList.map fun _ => true).map PyData.bool)) = some (.bool true) := by
    have h0 : (x.cps.toList.map fun _ => true) = List.replicate x.cps.toList.length true := List.map_const'
    have h1 : ((x.cps.toList.map fun _ => true).map PyData.bool) = List.replicate x.cps.toList.length (.bool true) := by rw [h0, List.map_replicate]
    show ((boolsO ((x.cps.toList.map fun _ => true).map PyData.bool)).map fun bs => PyData.bool (bs.all id)) = _
    rw [h1, boolsO_true, Option.map_some]
    congr 2
    rw [List.all_eq_true]
    intro b hb
    rw [List.eq_of_mem_replicate hb]
    rfl
  have hp : 0 < x.length := by
    rw [← hlen]
    exact List.length_pos_iff.mpr hn
  rw [F_p_are_figures]
  try simp only [runD, seqF_def, thenO_nx, thenO_rt, List.length_cons, List.length_nil, Nat.reduceAdd, reduceIte, List.map_cons, List.map_nil, List.reduceReplicate, List.append_nil, List.nil_append, List.cons_append, List.getElem?_cons_zero, List.getElem?_cons_succ, List.set_cons_zero, List.set_cons_succ, Option.join_some, Option.bind_some, Option.map_some, Option.filter_some, consD_ss, testD_s, condO_t, condO_f, andB_t, andB_f, orB_t, orB_f, andV_t, andV_f, orV_t, orV_f, notV_s, setO_s, setLO_s, dropO_s, forO_s, asgO_s, bind2_ss, addD_ok, subD_ok, ltD_ok, leD_ok, gtD_ok, geD_ok, eqD_int, neD_int, ix_pair0, ix_pair1, setS, negD, lenD_l, lenD_t, listD_l, tupD_t, seqD_l, short2, shortL0, shortL1, shortL2, shortL3, shortL4, outD_rt, outD_nx, Bool.not_true, Bool.not_false]
  simp only [B_p_are_figures]
  try simp only [runD, seqF_def, thenO_nx, thenO_rt, List.length_cons, List.length_nil, Nat.reduceAdd, reduceIte, List.map_cons, List.map_nil, List.reduceReplicate, List.append_nil, List.nil_append, List.cons_append, List.getElem?_cons_zero, List.getElem?_cons_succ, List.set_cons_zero, List.set_cons_succ, Option.join_some, Option.bind_some, Option.map_some, Option.filter_some, consD_ss, testD_s, condO_t, condO_f, andB_t, andB_f, orB_t, orB_f, andV_t, andV_f, orV_t, orV_f, notV_s, setO_s, setLO_s, dropO_s, forO_s, asgO_s, bind2_ss, addD_ok, subD_ok, ltD_ok, leD_ok, gtD_ok, geD_ok, eqD_int, neD_int, ix_pair0, ix_pair1, setS, negD, lenD_l, lenD_t, listD_l, tupD_t, seqD_l, short2, shortL0, shortL1, shortL2, shortL3, shortL4, outD_rt, outD_nx, Bool.not_true, Bool.not_false]
  rw [e1, e2, show frees 1 [] [some (PyData.str x)] = [none] from rfl, e3]
  try simp only [runD, seqF_def, thenO_nx, thenO_rt, List.length_cons, List.length_nil, Nat.reduceAdd, reduceIte, List.map_cons, List.map_nil, List.reduceReplicate, List.append_nil, List.nil_append, List.cons_append, List.getElem?_cons_zero, List.getElem?_cons_succ, List.set_cons_zero, List.set_cons_succ, Option.join_some, Option.bind_some, Option.map_some, Option.filter_some, consD_ss, testD_s, condO_t, condO_f, andB_t, andB_f, orB_t, orB_f, andV_t, andV_f, orV_t, orV_f, notV_s, setO_s, setLO_s, dropO_s, forO_s, asgO_s, bind2_ss, addD_ok, subD_ok, ltD_ok, leD_ok, gtD_ok, geD_ok, eqD_int, neD_int, ix_pair0, ix_pair1, setS, negD, lenD_l, lenD_t, listD_l, tupD_t, seqD_l, short2, shortL0, shortL1, shortL2, shortL3, shortL4, outD_rt, outD_nx, Bool.not_true, Bool.not_false]
  rw [e4]
  try simp only [runD, seqF_def, thenO_nx, thenO_rt, List.length_cons, List.length_nil, Nat.reduceAdd, reduceIte, List.map_cons, List.map_nil, List.reduceReplicate, List.append_nil, List.nil_append, List.cons_append, List.getElem?_cons_zero, List.getElem?_cons_succ, List.set_cons_zero, List.set_cons_succ, Option.join_some, Option.bind_some, Option.map_some, Option.filter_some, consD_ss, testD_s, condO_t, condO_f, andB_t, andB_f, orB_t, orB_f, andV_t, andV_f, orV_t, orV_f, notV_s, setO_s, setLO_s, dropO_s, forO_s, asgO_s, bind2_ss, addD_ok, subD_ok, ltD_ok, leD_ok, gtD_ok, geD_ok, eqD_int, neD_int, ix_pair0, ix_pair1, setS, negD, lenD_l, lenD_t, listD_l, tupD_t, seqD_l, short2, shortL0, shortL1, shortL2, shortL3, shortL4, outD_rt, outD_nx, Bool.not_true, Bool.not_false]
  rw [decide_eq_true (show (0 : Int) < (x.length : Nat) by omega)]
  rfl
theorem starts_pos {n : Int} (h : 0 ≤ n) : startsD (.str (nT n)) (.str (Str.ofString "-")) = some (.bool false) := by
  show some (PyData.bool (0 + 1 ≤ (nT n).length && Builtin.Str.subAt (nT n) ⟨#[45]⟩ 0)) = _
  obtain ⟨m, rfl⟩ := Int.eq_ofNat_of_zero_le h
  have hs : Builtin.Str.subAt (nT (m : Int)) ⟨#[45]⟩ 0 = false := by
    by_cases z : Builtin.Str.subAt (nT (m : Int)) ⟨#[45]⟩ 0 = true
    · have hz := (StrLaws.subAt_one (nT (m : Int)) 45 0).mp ⟨by have := StrLaws.subAt_zero_le z; omega, z⟩
      unfold nT at hz
      rw [num_pos] at hz
      have := digs_all m 45 (List.mem_of_getElem? hz)
      omega
    · exact Bool.eq_false_iff.mpr z
  rw [hs, Bool.and_false]
theorem starts_neg (m : Nat) : startsD (.str (nT (Int.negSucc m))) (.str (Str.ofString "-")) = some (.bool true) := by
  show some (PyData.bool (0 + 1 ≤ (nT (Int.negSucc m)).length && Builtin.Str.subAt (nT (Int.negSucc m)) ⟨#[45]⟩ 0)) = _
  obtain ⟨h1, h2⟩ := (StrLaws.subAt_one (nT (Int.negSucc m)) 45 0).mpr (by unfold nT; rw [num_neg]; rfl)
  rw [h2, Bool.and_true]
  exact congrArg (fun b => some (PyData.bool b)) (decide_eq_true h1)
theorem cut_neg {m : Nat} (h : sm (Int.negSucc m)) : ∃ y : Str, cutSD (some (.str (nT (Int.negSucc m)))) (some (some 1)) (some none) = some (.str y) ∧ y.cps.toList = (Nat.toDigits 10 (m + 1)).map Char.toNat ∧ y.length ≤ 100 := by
  have hl := nT_len h
  have hc : (nT (Int.negSucc m)).cps.toList = 45 :: (Nat.toDigits 10 (m + 1)).map Char.toNat := num_neg m
  have hlen : (nT (Int.negSucc m)).cps.toList.length = (nT (Int.negSucc m)).length := Array.length_toList
  have h1 : 1 ≤ (nT (Int.negSucc m)).length := by rw [← hlen, hc, List.length_cons]; omega
  have e := slice_from_eq (x := nT (Int.negSucc m)) (i := 1) (by decide) (by omega) rfl
  have ec : (Txt.slice (nT (Int.negSucc m)) (some 1) none).cps.toList = (Nat.toDigits 10 (m + 1)).map Char.toNat := by
    rw [e]
    show List.take _ (List.drop (1 : Int).toNat _) = _
    rw [hc]
    show List.take _ ((Nat.toDigits 10 (m + 1)).map Char.toNat) = _
    refine List.take_of_length_le ?_
    rw [hc, List.length_cons] at hlen
    omega
  refine ⟨Txt.slice (nT (Int.negSucc m)) (some 1) none, ?_, ec, ?_⟩
  · show (if fitS (nT (Int.negSucc m)) = true then some (PyData.str (Txt.slice (nT (Int.negSucc m)) (some 1) none)) else none) = _
    rw [if_pos (fit_n h)]
  · exact Nat.le_trans (PyProof.Txt.length_slice_le _ _ _) (by omega)
theorem intS_n {n : Int} (h : sm n) : intSD [.str (nT n)] = some (.int n) := by
  show (if (nT n).length ≤ 640 then (intText? (nT n)).map PyData.int else none) = _
  rw [if_pos (Nat.le_trans (nT_len h) (by decide)), nT_read h]
  rfl
noncomputable def asc (x : Str) : Prop := ∀ c ∈ x.cps.toList, c < 128
theorem asc_ok {x : Str} (h : asc x) : PyData.strOk x = true := by
  unfold PyData.strOk
  rw [← Array.all_toList, List.all_eq_true]
  intro c hc
  have := h c hc
  exact decide_eq_true (by omega)
theorem shaped_str {x : Str} (h : asc x) : SeqAt.shaped (.str x) = true := by
  unfold SeqAt.shaped
  simp [PyData.canLay0, PyData.depth, asc_ok h]
theorem eqD_strs {x y : Str} (h : asc x) (h' : asc y) : eqD (.str x) (.str y) = some (.bool (x == y)) := by
  unfold eqD
  rw [if_pos (by rw [shaped_str h, shaped_str h']; rfl)]
  rfl
theorem eqD_str {x : Str} (h : asc x) : eqD (.str x) (.str x) = some (.bool true) := by
  rw [eqD_strs h h, beq_self_eq_true]
theorem asc_n (n : Int) : asc (nT n) := fun c hc => by
  have := nT_signs n c hc
  omega
theorem number_eq {n : Int} (h : sm n) : F_p_number_in [.str (nT n)] = some (.int n) := by
  have key : ∀ (y : Str), F_p_are_figures [.str y] = some (.bool true) →
      (condO (testD (startsD (.str (nT n)) (.str (Str.ofString "-")))) (cutSD (some (.str (nT n))) (some (some 1)) (some none)) (some (.str (nT n)))) = some (.str y) → F_p_number_in [.str (nT n)] = some (.int n) := fun y hf hy => by
    rw [F_p_number_in]
    try simp only [runD, seqF_def, thenO_nx, thenO_rt, List.length_cons, List.length_nil, Nat.reduceAdd, reduceIte, List.map_cons, List.map_nil, List.reduceReplicate, List.append_nil, List.nil_append, List.cons_append, List.getElem?_cons_zero, List.getElem?_cons_succ, List.set_cons_zero, List.set_cons_succ, Option.join_some, Option.bind_some, Option.map_some, Option.filter_some, consD_ss, testD_s, condO_t, condO_f, andB_t, andB_f, orB_t, orB_f, andV_t, andV_f, orV_t, orV_f, notV_s, setO_s, setLO_s, dropO_s, forO_s, asgO_s, bind2_ss, addD_ok, subD_ok, ltD_ok, leD_ok, gtD_ok, geD_ok, eqD_int, neD_int, ix_pair0, ix_pair1, setS, negD, lenD_l, lenD_t, listD_l, tupD_t, seqD_l, short2, shortL0, shortL1, shortL2, shortL3, shortL4, outD_rt, outD_nx, Bool.not_true, Bool.not_false]
    simp only [B_p_number_in]
    try simp only [runD, seqF_def, thenO_nx, thenO_rt, List.length_cons, List.length_nil, Nat.reduceAdd, reduceIte, List.map_cons, List.map_nil, List.reduceReplicate, List.append_nil, List.nil_append, List.cons_append, List.getElem?_cons_zero, List.getElem?_cons_succ, List.set_cons_zero, List.set_cons_succ, Option.join_some, Option.bind_some, Option.map_some, Option.filter_some, consD_ss, testD_s, condO_t, condO_f, andB_t, andB_f, orB_t, orB_f, andV_t, andV_f, orV_t, orV_f, notV_s, setO_s, setLO_s, dropO_s, forO_s, asgO_s, bind2_ss, addD_ok, subD_ok, ltD_ok, leD_ok, gtD_ok, geD_ok, eqD_int, neD_int, ix_pair0, ix_pair1, setS, negD, lenD_l, lenD_t, listD_l, tupD_t, seqD_l, short2, shortL0, shortL1, shortL2, shortL3, shortL4, outD_rt, outD_nx, Bool.not_true, Bool.not_false]
    rw [show Option.map some (intO (PyData.int 1)) = some (some 1) from rfl, hy]
    try simp only [runD, seqF_def, thenO_nx, thenO_rt, List.length_cons, List.length_nil, Nat.reduceAdd, reduceIte, List.map_cons, List.map_nil, List.reduceReplicate, List.append_nil, List.nil_append, List.cons_append, List.getElem?_cons_zero, List.getElem?_cons_succ, List.set_cons_zero, List.set_cons_succ, Option.join_some, Option.bind_some, Option.map_some, Option.filter_some, consD_ss, testD_s, condO_t, condO_f, andB_t, andB_f, orB_t, orB_f, andV_t, andV_f, orV_t, orV_f, notV_s, setO_s, setLO_s, dropO_s, forO_s, asgO_s, bind2_ss, addD_ok, subD_ok, ltD_ok, leD_ok, gtD_ok, geD_ok, eqD_int, neD_int, ix_pair0, ix_pair1, setS, negD, lenD_l, lenD_t, listD_l, tupD_t, seqD_l, short2, shortL0, shortL1, shortL2, shortL3, shortL4, outD_rt, outD_nx, Bool.not_true, Bool.not_false]
    rw [hf]
    try simp only [runD, seqF_def, thenO_nx, thenO_rt, List.length_cons, List.length_nil, Nat.reduceAdd, reduceIte, List.map_cons, List.map_nil, List.reduceReplicate, List.append_nil, List.nil_append, List.cons_append, List.getElem?_cons_zero, List.getElem?_cons_succ, List.set_cons_zero, List.set_cons_succ, Option.join_some, Option.bind_some, Option.map_some, Option.filter_some, consD_ss, testD_s, condO_t, condO_f, andB_t, andB_f, orB_t, orB_f, andV_t, andV_f, orV_t, orV_f, notV_s, setO_s, setLO_s, dropO_s, forO_s, asgO_s, bind2_ss, addD_ok, subD_ok, ltD_ok, leD_ok, gtD_ok, geD_ok, eqD_int, neD_int, ix_pair0, ix_pair1, setS, negD, lenD_l, lenD_t, listD_l, tupD_t, seqD_l, short2, shortL0, shortL1, shortL2, shortL3, shortL4, outD_rt, outD_nx, Bool.not_true, Bool.not_false]
    rw [intS_n h]
    try simp only [runD, seqF_def, thenO_nx, thenO_rt, List.length_cons, List.length_nil, Nat.reduceAdd, reduceIte, List.map_cons, List.map_nil, List.reduceReplicate, List.append_nil, List.nil_append, List.cons_append, List.getElem?_cons_zero, List.getElem?_cons_succ, List.set_cons_zero, List.set_cons_succ, Option.join_some, Option.bind_some, Option.map_some, Option.filter_some, consD_ss, testD_s, condO_t, condO_f, andB_t, andB_f, orB_t, orB_f, andV_t, andV_f, orV_t, orV_f, notV_s, setO_s, setLO_s, dropO_s, forO_s, asgO_s, bind2_ss, addD_ok, subD_ok, ltD_ok, leD_ok, gtD_ok, geD_ok, eqD_int, neD_int, ix_pair0, ix_pair1, setS, negD, lenD_l, lenD_t, listD_l, tupD_t, seqD_l, short2, shortL0, shortL1, shortL2, shortL3, shortL4, outD_rt, outD_nx, Bool.not_true, Bool.not_false]
    rw [strD_n h]
    try simp only [runD, seqF_def, thenO_nx, thenO_rt, List.length_cons, List.length_nil, Nat.reduceAdd, reduceIte, List.map_cons, List.map_nil, List.reduceReplicate, List.append_nil, List.nil_append, List.cons_append, List.getElem?_cons_zero, List.getElem?_cons_succ, List.set_cons_zero, List.set_cons_succ, Option.join_some, Option.bind_some, Option.map_some, Option.filter_some, consD_ss, testD_s, condO_t, condO_f, andB_t, andB_f, orB_t, orB_f, andV_t, andV_f, orV_t, orV_f, notV_s, setO_s, setLO_s, dropO_s, forO_s, asgO_s, bind2_ss, addD_ok, subD_ok, ltD_ok, leD_ok, gtD_ok, geD_ok, eqD_int, neD_int, ix_pair0, ix_pair1, setS, negD, lenD_l, lenD_t, listD_l, tupD_t, seqD_l, short2, shortL0, shortL1, shortL2, shortL3, shortL4, outD_rt, outD_nx, Bool.not_true, Bool.not_false]
    rw [eqD_str (asc_n n)]
    try simp only [runD, seqF_def, thenO_nx, thenO_rt, List.length_cons, List.length_nil, Nat.reduceAdd, reduceIte, List.map_cons, List.map_nil, List.reduceReplicate, List.append_nil, List.nil_append, List.cons_append, List.getElem?_cons_zero, List.getElem?_cons_succ, List.set_cons_zero, List.set_cons_succ, Option.join_some, Option.bind_some, Option.map_some, Option.filter_some, consD_ss, testD_s, condO_t, condO_f, andB_t, andB_f, orB_t, orB_f, andV_t, andV_f, orV_t, orV_f, notV_s, setO_s, setLO_s, dropO_s, forO_s, asgO_s, bind2_ss, addD_ok, subD_ok, ltD_ok, leD_ok, gtD_ok, geD_ok, eqD_int, neD_int, ix_pair0, ix_pair1, setS, negD, lenD_l, lenD_t, listD_l, tupD_t, seqD_l, short2, shortL0, shortL1, shortL2, shortL3, shortL4, outD_rt, outD_nx, Bool.not_true, Bool.not_false]
  cases n with
  | ofNat m =>
    refine key (nT (m : Int)) (figures_eq ?_ ?_ (Nat.le_trans (nT_len h) (by decide))) ?_
    · unfold nT; rw [num_pos]; exact digs_all m
    · unfold nT; rw [num_pos]; exact digs_ne m
    · show condO (testD (startsD (.str (nT (m : Int))) (.str (Str.ofString "-")))) _ _ = _
      rw [starts_pos (by omega)]
      rfl
  | negSucc m =>
    obtain ⟨y, h1, h2, h3⟩ := cut_neg h
    refine key y (figures_eq (by rw [h2]; exact digs_all _) (by rw [h2]; exact digs_ne _) h3) ?_
    rw [starts_neg, h1]
    rfl
noncomputable def wT (p : Int × Int) : Str := nT p.1 ++ ⟨#[42]⟩ ++ nT p.2
noncomputable def smP (p : Int × Int) : Prop := sm p.1 ∧ sm p.2
noncomputable def tT (ps : List (Int × Int)) : Str := if ps = [] then Str.ofString "nobody" else Builtin.Str.glued ⟨#[32]⟩ (ps.map wT)
theorem wT_len {p : Int × Int} (h : smP p) : (wT p).length ≤ 123 := by
  unfold wT
  rw [strLen_append, strLen_append]
  have := nT_len h.1
  have := nT_len h.2
  show (nT p.1).length + 1 + _ ≤ _
  omega
theorem wT_signs (p : Int × Int) : ∀ c ∈ (wT p).cps.toList, c = 42 ∨ c = 45 ∨ (48 ≤ c ∧ c ≤ 57) := by
  intro c hc
  unfold wT at hc
  rw [cps_app, cps_app, List.append_assoc] at hc
  rcases List.mem_append.mp hc with z | z
  · exact .inr (nT_signs _ c z)
  · rcases List.mem_append.mp z with z | z
    · exact .inl (List.mem_singleton.mp z)
    · exact .inr (nT_signs _ c z)
theorem join_signs {c s : Nat} : ∀ {ts : List Str}, c ∈ (Str.join ⟨#[s]⟩ ts).cps.toList → c = s ∨ ∃ t ∈ ts, c ∈ t.cps.toList := by
  intro ts
  induction ts with
  | nil => intro h; cases h
  | cons t ts ih =>
    intro h
    cases ts with
    | nil => exact .inr ⟨t, List.mem_cons_self .., h⟩
    | cons t2 ts =>
      have h' : c ∈ (t ++ ⟨#[s]⟩ ++ Str.join ⟨#[s]⟩ (t2 :: ts)).cps.toList := h
      rw [cps_app, cps_app, List.append_assoc] at h'
      rcases List.mem_append.mp h' with z | z
      · exact .inr ⟨t, List.mem_cons_self .., z⟩
      · rcases List.mem_append.mp z with z | z
        · exact .inl (List.mem_singleton.mp z)
        · rcases ih z with z | ⟨u, h1, h2⟩
          · exact .inl z
          · exact .inr ⟨u, List.mem_cons_of_mem _ h1, h2⟩
theorem gl_signs (ps : List (Int × Int)) : ∀ c ∈ (Builtin.Str.glued ⟨#[32]⟩ (ps.map wT)).cps.toList, c = 32 ∨ c = 42 ∨ c = 45 ∨ (48 ≤ c ∧ c ≤ 57) := by
  intro c hc
  rw [StrLaws.glued_eq_join] at hc
  rcases join_signs hc with z | ⟨t, h1, h2⟩
  · exact .inl z
  · obtain ⟨p, _, rfl⟩ := List.mem_map.mp h1
    exact .inr (wT_signs p c h2)
theorem asc_nobody : asc (Str.ofString "nobody") := by
  have : ∀ c ∈ (Str.ofString "nobody").cps.toList, c < 128 := by decide +kernel
  exact this
theorem asc_gl (ps : List (Int × Int)) : asc (Builtin.Str.glued ⟨#[32]⟩ (ps.map wT)) := fun c hc => by
  have := gl_signs ps c hc
  omega
theorem asc_t (ps : List (Int × Int)) : asc (tT ps) := by
  unfold tT
  split
  · exact asc_nobody
  · exact asc_gl ps
theorem words_sum : ∀ {ps : List (Int × Int)}, (∀ p ∈ ps, smP p) → ((ps.map wT).map (·.length)).sum ≤ 123 * ps.length := by
  intro ps
  induction ps with
  | nil => intro _; exact Nat.zero_le _
  | cons p r ih =>
    intro h
    have h1 := wT_len (h p (List.mem_cons_self ..))
    have h2 := ih fun q hq => h q (List.mem_cons_of_mem _ hq)
    rw [List.map_cons, List.map_cons, List.sum_cons, List.length_cons]
    omega
theorem strsO_map : ∀ ts : List Str, strsO (ts.map .str) = some ts := by
  intro ts
  induction ts with
  | nil => rfl
  | cons t r ih => rw [List.map_cons, strsO, ih]; rfl
theorem gl_len {ps : List (Int × Int)} (h : ∀ p ∈ ps, smP p) (hl : ps.length ≤ 10) : (Builtin.Str.glued ⟨#[32]⟩ (ps.map wT)).length ≤ 2000 := by
  rw [StrLaws.glued_eq_join]
  have h1 := StrLaws.join_length_le ⟨#[32]⟩ (ps.map wT)
  have h2 := words_sum h
  rw [List.length_map, show (⟨#[32]⟩ : Str).length = 1 from rfl] at h1
  omega
theorem join_eq {ps : List (Int × Int)} (h : ∀ p ∈ ps, smP p) (hl : ps.length ≤ 10) : joinD (.str (Str.ofString " ")) (.list ((ps.map wT).map .str)) = some (.str (Builtin.Str.glued ⟨#[32]⟩ (ps.map wT))) := by
  show (((strsO ((ps.map wT).map .str)).bind fun ss => if (!(Builtin.Str.tooLong (ss.toArray.foldl (· + ·.length + (Str.ofString " ").length) 0)) && decide ((Builtin.Str.glued (Str.ofString " ") ss).length ≤ 100000)) = true then some (PyData.str (Builtin.Str.glued (Str.ofString " ") ss)) else none)) = _
  rw [strsO_map, Option.bind_some, if_pos]
  · rfl
  · rw [Bool.and_eq_true, Bool.not_eq_true']
    refine ⟨?_, decide_eq_true (Nat.le_trans (gl_len h hl) (by decide))⟩
    rw [StrLaws.joinTotal]
    have h2 := words_sum h
    have hz : 100000 < sizeLine := by decide
    rw [List.length_map, show (Str.ofString " ").length = 1 from rfl]
    unfold Builtin.Str.tooLong
    exact decide_eq_false (by omega)
theorem cat3_n {p : Int × Int} (h : smP p) : cat3 (.str (nT p.1)) (.str (Str.ofString "*")) (.str (nT p.2)) = some (.str (wT p)) := by
  show (if (fitS (nT p.1) && fitS (Str.ofString "*") && fitS (nT p.2)) = true then some (PyData.str (nT p.1 ++ Str.ofString "*" ++ nT p.2)) else none) = _
  rw [fit_n h.1, fit_n h.2]
  rfl
theorem text_eq {ps : List (Int × Int)} (h : ∀ p ∈ ps, smP p) (hl : ps.length ≤ 10) : F_p_folk_text [encL ps] = some (.str (tT ps)) := by
  have ec : compO (tupS 2 (consS (setS 0) (consS (setS 1) (nilS)))) (fun _ => some true) E_p_folk_text_0 (some (ps.map encP)) [none, none] = some ((ps.map wT).map .str) := by
    rw [compO_s (by rw [List.length_map]; omega)]
    exact compD_map (S := tupS 2 (consS (setS 0) (consS (setS 1) (nilS)))) (fe := E_p_folk_text_0) encP PyData.str wT (fun ρ => ∃ y z, ρ = [y, z]) smP (fun p ρ hp hρ => by
      obtain ⟨y, z, rfl⟩ := hρ
      refine ⟨[some (.int p.1), some (.int p.2)], rfl, ⟨_, _, rfl⟩, ?_⟩
      show join3D ((some (PyData.int p.1)).bind fmtD) _ ((some (PyData.int p.2)).bind fmtD) = _
      rw [Option.bind_some, Option.bind_some, fmtD_n hp.1, fmtD_n hp.2]
      exact cat3_n hp) ps _ ⟨_, _, rfl⟩ h
  rw [F_p_folk_text]
  try simp only [runD, seqF_def, thenO_nx, thenO_rt, List.length_cons, List.length_nil, Nat.reduceAdd, reduceIte, List.map_cons, List.map_nil, List.reduceReplicate, List.append_nil, List.nil_append, List.cons_append, List.getElem?_cons_zero, List.getElem?_cons_succ, List.set_cons_zero, List.set_cons_succ, Option.join_some, Option.bind_some, Option.map_some, Option.filter_some, consD_ss, testD_s, condO_t, condO_f, andB_t, andB_f, orB_t, orB_f, andV_t, andV_f, orV_t, orV_f, notV_s, setO_s, setLO_s, dropO_s, forO_s, asgO_s, bind2_ss, addD_ok, subD_ok, ltD_ok, leD_ok, gtD_ok, geD_ok, eqD_int, neD_int, ix_pair0, ix_pair1, setS, negD, lenD_l, lenD_t, listD_l, tupD_t, seqD_l, short2, shortL0, shortL1, shortL2, shortL3, shortL4, outD_rt, outD_nx, Bool.not_true, Bool.not_false]
  simp only [B_p_folk_text]
  try simp only [runD, seqF_def, thenO_nx, thenO_rt, List.length_cons, List.length_nil, Nat.reduceAdd, reduceIte, List.map_cons, List.map_nil, List.reduceReplicate, List.append_nil, List.nil_append, List.cons_append, List.getElem?_cons_zero, List.getElem?_cons_succ, List.set_cons_zero, List.set_cons_succ, Option.join_some, Option.bind_some, Option.map_some, Option.filter_some, consD_ss, testD_s, condO_t, condO_f, andB_t, andB_f, orB_t, orB_f, andV_t, andV_f, orV_t, orV_f, notV_s, setO_s, setLO_s, dropO_s, forO_s, asgO_s, bind2_ss, addD_ok, subD_ok, ltD_ok, leD_ok, gtD_ok, geD_ok, eqD_int, neD_int, ix_pair0, ix_pair1, setS, negD, lenD_l, lenD_t, listD_l, tupD_t, seqD_l, short2, shortL0, shortL1, shortL2, shortL3, shortL4, outD_rt, outD_nx, Bool.not_true, Bool.not_false]
  rw [show lenD [encL ps] = some (.int (ps.length : Nat)) from by show some (PyData.int ((ps.map encP).length : Nat)) = _; rw [List.length_map]]
  try simp only [runD, seqF_def, thenO_nx, thenO_rt, List.length_cons, List.length_nil, Nat.reduceAdd, reduceIte, List.map_cons, List.map_nil, List.reduceReplicate, List.append_nil, List.nil_append, List.cons_append, List.getElem?_cons_zero, List.getElem?_cons_succ, List.set_cons_zero, List.set_cons_succ, Option.join_some, Option.bind_some, Option.map_some, Option.filter_some, consD_ss, testD_s, condO_t, condO_f, andB_t, andB_f, orB_t, orB_f, andV_t, andV_f, orV_t, orV_f, notV_s, setO_s, setLO_s, dropO_s, forO_s, asgO_s, bind2_ss, addD_ok, subD_ok, ltD_ok, leD_ok, gtD_ok, geD_ok, eqD_int, neD_int, ix_pair0, ix_pair1, setS, negD, lenD_l, lenD_t, listD_l, tupD_t, seqD_l, short2, shortL0, shortL1, shortL2, shortL3, shortL4, outD_rt, outD_nx, Bool.not_true, Bool.not_false]
  by_cases hp : ps = []
  · subst hp; rfl
  · have hlen := List.length_pos_iff.mpr hp
    rw [show (((ps.length : Nat) : Int) == 0) = false from beq_eq_false_iff_ne.mpr (by omega)]
    try simp only [runD, seqF_def, thenO_nx, thenO_rt, List.length_cons, List.length_nil, Nat.reduceAdd, reduceIte, List.map_cons, List.map_nil, List.reduceReplicate, List.append_nil, List.nil_append, List.cons_append, List.getElem?_cons_zero, List.getElem?_cons_succ, List.set_cons_zero, List.set_cons_succ, Option.join_some, Option.bind_some, Option.map_some, Option.filter_some, consD_ss, testD_s, condO_t, condO_f, andB_t, andB_f, orB_t, orB_f, andV_t, andV_f, orV_t, orV_f, notV_s, setO_s, setLO_s, dropO_s, forO_s, asgO_s, bind2_ss, addD_ok, subD_ok, ltD_ok, leD_ok, gtD_ok, geD_ok, eqD_int, neD_int, ix_pair0, ix_pair1, setS, negD, lenD_l, lenD_t, listD_l, tupD_t, seqD_l, short2, shortL0, shortL1, shortL2, shortL3, shortL4, outD_rt, outD_nx, Bool.not_true, Bool.not_false]
    rw [show frees 2 [] [some (encL ps)] = [none, none] from rfl, show listD (encL ps) = some (ps.map encP) from rfl, ec]
    try simp only [runD, seqF_def, thenO_nx, thenO_rt, List.length_cons, List.length_nil, Nat.reduceAdd, reduceIte, List.map_cons, List.map_nil, List.reduceReplicate, List.append_nil, List.nil_append, List.cons_append, List.getElem?_cons_zero, List.getElem?_cons_succ, List.set_cons_zero, List.set_cons_succ, Option.join_some, Option.bind_some, Option.map_some, Option.filter_some, consD_ss, testD_s, condO_t, condO_f, andB_t, andB_f, orB_t, orB_f, andV_t, andV_f, orV_t, orV_f, notV_s, setO_s, setLO_s, dropO_s, forO_s, asgO_s, bind2_ss, addD_ok, subD_ok, ltD_ok, leD_ok, gtD_ok, geD_ok, eqD_int, neD_int, ix_pair0, ix_pair1, setS, negD, lenD_l, lenD_t, listD_l, tupD_t, seqD_l, short2, shortL0, shortL1, shortL2, shortL3, shortL4, outD_rt, outD_nx, Bool.not_true, Bool.not_false]
    rw [join_eq h hl]
    unfold tT
    rw [if_neg hp]
    rfl
theorem addS_1 {n : Int} (h : sm n) : addSD (.str (nT n)) (.str (Str.ofString "*")) = some (.str (nT n ++ ⟨#[42]⟩)) := by
  show (if (fitS (nT n) && fitS (Str.ofString "*")) = true then some (PyData.str (nT n ++ Str.ofString "*")) else none) = _
  rw [fit_n h]
  rfl
theorem addS_2 {p : Int × Int} (h : smP p) : addSD (.str (nT p.1 ++ ⟨#[42]⟩)) (.str (nT p.2)) = some (.str (wT p)) := by
  have hl : (nT p.1 ++ ⟨#[42]⟩ : Str).length ≤ 10000 := by
    rw [strLen_append]
    have := nT_len h.1
    show (nT p.1).length + 1 ≤ _
    omega
  show (if (fitS (nT p.1 ++ ⟨#[42]⟩) && fitS (nT p.2)) = true then some (PyData.str (nT p.1 ++ ⟨#[42]⟩ ++ nT p.2)) else none) = _
  rw [fit_n h.2, show fitS (nT p.1 ++ ⟨#[42]⟩) = true from decide_eq_true hl]
  rfl
theorem ltext_eq {ps : List (Int × Int)} (h : ∀ p ∈ ps, smP p) (hl : ps.length ≤ 10) : F_l_text [encL ps] = some (.str (tT ps)) := by
  have ec : compO (tupS 2 (consS (setS 0) (consS (setS 1) (nilS)))) (fun _ => some true) E_l_text_0 (some (ps.map encP)) [none, none] = some ((ps.map wT).map .str) := by
    rw [compO_s (by rw [List.length_map]; omega)]
    exact compD_map (S := tupS 2 (consS (setS 0) (consS (setS 1) (nilS)))) (fe := E_l_text_0) encP PyData.str wT (fun ρ => ∃ y z, ρ = [y, z]) smP (fun p ρ hp hρ => by
      obtain ⟨y, z, rfl⟩ := hρ
      refine ⟨[some (.int p.1), some (.int p.2)], rfl, ⟨_, _, rfl⟩, ?_⟩
      show bind2 (bind2 (strD [.int p.1]) _ addSD) (strD [.int p.2]) addSD = _
      rw [strD_n hp.1, strD_n hp.2, bind2_ss, addS_1 hp.1, bind2_ss, addS_2 hp]) ps _ ⟨_, _, rfl⟩ h
  rw [F_l_text]
  try simp only [runD, seqF_def, thenO_nx, thenO_rt, List.length_cons, List.length_nil, Nat.reduceAdd, reduceIte, List.map_cons, List.map_nil, List.reduceReplicate, List.append_nil, List.nil_append, List.cons_append, List.getElem?_cons_zero, List.getElem?_cons_succ, List.set_cons_zero, List.set_cons_succ, Option.join_some, Option.bind_some, Option.map_some, Option.filter_some, consD_ss, testD_s, condO_t, condO_f, andB_t, andB_f, orB_t, orB_f, andV_t, andV_f, orV_t, orV_f, notV_s, setO_s, setLO_s, dropO_s, forO_s, asgO_s, bind2_ss, addD_ok, subD_ok, ltD_ok, leD_ok, gtD_ok, geD_ok, eqD_int, neD_int, ix_pair0, ix_pair1, setS, negD, lenD_l, lenD_t, listD_l, tupD_t, seqD_l, short2, shortL0, shortL1, shortL2, shortL3, shortL4, outD_rt, outD_nx, Bool.not_true, Bool.not_false]
  simp only [B_l_text]
  try simp only [runD, seqF_def, thenO_nx, thenO_rt, List.length_cons, List.length_nil, Nat.reduceAdd, reduceIte, List.map_cons, List.map_nil, List.reduceReplicate, List.append_nil, List.nil_append, List.cons_append, List.getElem?_cons_zero, List.getElem?_cons_succ, List.set_cons_zero, List.set_cons_succ, Option.join_some, Option.bind_some, Option.map_some, Option.filter_some, consD_ss, testD_s, condO_t, condO_f, andB_t, andB_f, orB_t, orB_f, andV_t, andV_f, orV_t, orV_f, notV_s, setO_s, setLO_s, dropO_s, forO_s, asgO_s, bind2_ss, addD_ok, subD_ok, ltD_ok, leD_ok, gtD_ok, geD_ok, eqD_int, neD_int, ix_pair0, ix_pair1, setS, negD, lenD_l, lenD_t, listD_l, tupD_t, seqD_l, short2, shortL0, shortL1, shortL2, shortL3, shortL4, outD_rt, outD_nx, Bool.not_true, Bool.not_false]
  rw [show eqD (encL ps) (.list []) = some (.bool (decide (ps = []))) from by
    have : PyData.eqv (encL ps) (encL []) = decide (ps = []) := by rw [encL, encL, PyData.eqv]; exact eqv_encs ps []
    show eqD (encL ps) (encL []) = _
    simp [eqD, shaped_encL, this]]
  try simp only [runD, seqF_def, thenO_nx, thenO_rt, List.length_cons, List.length_nil, Nat.reduceAdd, reduceIte, List.map_cons, List.map_nil, List.reduceReplicate, List.append_nil, List.nil_append, List.cons_append, List.getElem?_cons_zero, List.getElem?_cons_succ, List.set_cons_zero, List.set_cons_succ, Option.join_some, Option.bind_some, Option.map_some, Option.filter_some, consD_ss, testD_s, condO_t, condO_f, andB_t, andB_f, orB_t, orB_f, andV_t, andV_f, orV_t, orV_f, notV_s, setO_s, setLO_s, dropO_s, forO_s, asgO_s, bind2_ss, addD_ok, subD_ok, ltD_ok, leD_ok, gtD_ok, geD_ok, eqD_int, neD_int, ix_pair0, ix_pair1, setS, negD, lenD_l, lenD_t, listD_l, tupD_t, seqD_l, short2, shortL0, shortL1, shortL2, shortL3, shortL4, outD_rt, outD_nx, Bool.not_true, Bool.not_false]
  by_cases hp : ps = []
  · subst hp; rfl
  · rw [decide_eq_false hp]
    try simp only [runD, seqF_def, thenO_nx, thenO_rt, List.length_cons, List.length_nil, Nat.reduceAdd, reduceIte, List.map_cons, List.map_nil, List.reduceReplicate, List.append_nil, List.nil_append, List.cons_append, List.getElem?_cons_zero, List.getElem?_cons_succ, List.set_cons_zero, List.set_cons_succ, Option.join_some, Option.bind_some, Option.map_some, Option.filter_some, consD_ss, testD_s, condO_t, condO_f, andB_t, andB_f, orB_t, orB_f, andV_t, andV_f, orV_t, orV_f, notV_s, setO_s, setLO_s, dropO_s, forO_s, asgO_s, bind2_ss, addD_ok, subD_ok, ltD_ok, leD_ok, gtD_ok, geD_ok, eqD_int, neD_int, ix_pair0, ix_pair1, setS, negD, lenD_l, lenD_t, listD_l, tupD_t, seqD_l, short2, shortL0, shortL1, shortL2, shortL3, shortL4, outD_rt, outD_nx, Bool.not_true, Bool.not_false]
    rw [show frees 2 [] [some (encL ps)] = [none, none] from rfl, show listD (encL ps) = some (ps.map encP) from rfl, ec]
    try simp only [runD, seqF_def, thenO_nx, thenO_rt, List.length_cons, List.length_nil, Nat.reduceAdd, reduceIte, List.map_cons, List.map_nil, List.reduceReplicate, List.append_nil, List.nil_append, List.cons_append, List.getElem?_cons_zero, List.getElem?_cons_succ, List.set_cons_zero, List.set_cons_succ, Option.join_some, Option.bind_some, Option.map_some, Option.filter_some, consD_ss, testD_s, condO_t, condO_f, andB_t, andB_f, orB_t, orB_f, andV_t, andV_f, orV_t, orV_f, notV_s, setO_s, setLO_s, dropO_s, forO_s, asgO_s, bind2_ss, addD_ok, subD_ok, ltD_ok, leD_ok, gtD_ok, geD_ok, eqD_int, neD_int, ix_pair0, ix_pair1, setS, negD, lenD_l, lenD_t, listD_l, tupD_t, seqD_l, short2, shortL0, shortL1, shortL2, shortL3, shortL4, outD_rt, outD_nx, Bool.not_true, Bool.not_false]
    rw [join_eq h hl]
    unfold tT
    rw [if_neg hp]
    rfl
theorem split_star {p : Int × Int} (h : smP p) : splitD (.str (wT p)) (.str (Str.ofString "*")) = some [.str (nT p.1), .str (nT p.2)] := by
  show (if (!((⟨#[42]⟩ : Str).length == 0) && fitS (wT p)) = true then some ((Txt.split (wT p) ⟨#[42]⟩).map PyData.str) else none) = _
  rw [if_pos]
  · unfold wT
    rw [split_two (nT_no (by decide) (by decide) _) (nT_no (by decide) (by decide) _)]
    rfl
  · rw [show fitS (wT p) = true from decide_eq_true (Nat.le_trans (wT_len h) (by decide))]
    rfl
theorem one_eq {p : Int × Int} (h : smP p) : F_p_one_in [.str (wT p)] = some (encP p) := by
  have e1 : F_p_numbers_in [.str (wT p), .str (Str.ofString "*")] = some (.list [.int p.1, .int p.2]) := by
    rw [F_p_numbers_in]
    try simp only [runD, seqF_def, thenO_nx, thenO_rt, List.length_cons, List.length_nil, Nat.reduceAdd, reduceIte, List.map_cons, List.map_nil, List.reduceReplicate, List.append_nil, List.nil_append, List.cons_append, List.getElem?_cons_zero, List.getElem?_cons_succ, List.set_cons_zero, List.set_cons_succ, Option.join_some, Option.bind_some, Option.map_some, Option.filter_some, consD_ss, testD_s, condO_t, condO_f, andB_t, andB_f, orB_t, orB_f, andV_t, andV_f, orV_t, orV_f, notV_s, setO_s, setLO_s, dropO_s, forO_s, asgO_s, bind2_ss, addD_ok, subD_ok, ltD_ok, leD_ok, gtD_ok, geD_ok, eqD_int, neD_int, ix_pair0, ix_pair1, setS, negD, lenD_l, lenD_t, listD_l, tupD_t, seqD_l, short2, shortL0, shortL1, shortL2, shortL3, shortL4, outD_rt, outD_nx, Bool.not_true, Bool.not_false]
    simp only [B_p_numbers_in]
    try simp only [runD, seqF_def, thenO_nx, thenO_rt, List.length_cons, List.length_nil, Nat.reduceAdd, reduceIte, List.map_cons, List.map_nil, List.reduceReplicate, List.append_nil, List.nil_append, List.cons_append, List.getElem?_cons_zero, List.getElem?_cons_succ, List.set_cons_zero, List.set_cons_succ, Option.join_some, Option.bind_some, Option.map_some, Option.filter_some, consD_ss, testD_s, condO_t, condO_f, andB_t, andB_f, orB_t, orB_f, andV_t, andV_f, orV_t, orV_f, notV_s, setO_s, setLO_s, dropO_s, forO_s, asgO_s, bind2_ss, addD_ok, subD_ok, ltD_ok, leD_ok, gtD_ok, geD_ok, eqD_int, neD_int, ix_pair0, ix_pair1, setS, negD, lenD_l, lenD_t, listD_l, tupD_t, seqD_l, short2, shortL0, shortL1, shortL2, shortL3, shortL4, outD_rt, outD_nx, Bool.not_true, Bool.not_false]
    rw [split_star h, show frees 1 [] [some (PyData.str (wT p)), some (PyData.str (Str.ofString "*"))] = [none] from rfl]
    try simp only [runD, seqF_def, thenO_nx, thenO_rt, List.length_cons, List.length_nil, Nat.reduceAdd, reduceIte, List.map_cons, List.map_nil, List.reduceReplicate, List.append_nil, List.nil_append, List.cons_append, List.getElem?_cons_zero, List.getElem?_cons_succ, List.set_cons_zero, List.set_cons_succ, Option.join_some, Option.bind_some, Option.map_some, Option.filter_some, consD_ss, testD_s, condO_t, condO_f, andB_t, andB_f, orB_t, orB_f, andV_t, andV_f, orV_t, orV_f, notV_s, setO_s, setLO_s, dropO_s, forO_s, asgO_s, bind2_ss, addD_ok, subD_ok, ltD_ok, leD_ok, gtD_ok, geD_ok, eqD_int, neD_int, ix_pair0, ix_pair1, setS, negD, lenD_l, lenD_t, listD_l, tupD_t, seqD_l, short2, shortL0, shortL1, shortL2, shortL3, shortL4, outD_rt, outD_nx, Bool.not_true, Bool.not_false]
    rw [compO_s (ds := [PyData.str (nT p.1), PyData.str (nT p.2)]) (show 2 ≤ 1000 by decide)]
    have ec := compD_map (S := setS 0) (fe := E_p_numbers_in_0) (fun n : Int => PyData.str (nT n)) PyData.int (fun n => n) (fun ρ => ∃ y, ρ = [y]) sm (fun n ρ hn hρ => by
      obtain ⟨y, rfl⟩ := hρ
      exact ⟨[some (.str (nT n))], rfl, ⟨_, rfl⟩, number_eq hn⟩) [p.1, p.2] [none] ⟨_, rfl⟩ (fun n hn => by
        rcases List.mem_cons.mp hn with rfl | hn
        · exact h.1
        · rw [List.mem_singleton.mp hn]; exact h.2)
    rw [show [PyData.str (nT p.1), PyData.str (nT p.2)] = [p.1, p.2].map (fun n : Int => PyData.str (nT n)) from rfl, ec]
    rfl
  rw [F_p_one_in]
  try simp only [runD, seqF_def, thenO_nx, thenO_rt, List.length_cons, List.length_nil, Nat.reduceAdd, reduceIte, List.map_cons, List.map_nil, List.reduceReplicate, List.append_nil, List.nil_append, List.cons_append, List.getElem?_cons_zero, List.getElem?_cons_succ, List.set_cons_zero, List.set_cons_succ, Option.join_some, Option.bind_some, Option.map_some, Option.filter_some, consD_ss, testD_s, condO_t, condO_f, andB_t, andB_f, orB_t, orB_f, andV_t, andV_f, orV_t, orV_f, notV_s, setO_s, setLO_s, dropO_s, forO_s, asgO_s, bind2_ss, addD_ok, subD_ok, ltD_ok, leD_ok, gtD_ok, geD_ok, eqD_int, neD_int, ix_pair0, ix_pair1, setS, negD, lenD_l, lenD_t, listD_l, tupD_t, seqD_l, short2, shortL0, shortL1, shortL2, shortL3, shortL4, outD_rt, outD_nx, Bool.not_true, Bool.not_false]
  simp only [B_p_one_in]
  try simp only [runD, seqF_def, thenO_nx, thenO_rt, List.length_cons, List.length_nil, Nat.reduceAdd, reduceIte, List.map_cons, List.map_nil, List.reduceReplicate, List.append_nil, List.nil_append, List.cons_append, List.getElem?_cons_zero, List.getElem?_cons_succ, List.set_cons_zero, List.set_cons_succ, Option.join_some, Option.bind_some, Option.map_some, Option.filter_some, consD_ss, testD_s, condO_t, condO_f, andB_t, andB_f, orB_t, orB_f, andV_t, andV_f, orV_t, orV_f, notV_s, setO_s, setLO_s, dropO_s, forO_s, asgO_s, bind2_ss, addD_ok, subD_ok, ltD_ok, leD_ok, gtD_ok, geD_ok, eqD_int, neD_int, ix_pair0, ix_pair1, setS, negD, lenD_l, lenD_t, listD_l, tupD_t, seqD_l, short2, shortL0, shortL1, shortL2, shortL3, shortL4, outD_rt, outD_nx, Bool.not_true, Bool.not_false]
  rw [e1]
  try simp only [runD, seqF_def, thenO_nx, thenO_rt, List.length_cons, List.length_nil, Nat.reduceAdd, reduceIte, List.map_cons, List.map_nil, List.reduceReplicate, List.append_nil, List.nil_append, List.cons_append, List.getElem?_cons_zero, List.getElem?_cons_succ, List.set_cons_zero, List.set_cons_succ, Option.join_some, Option.bind_some, Option.map_some, Option.filter_some, consD_ss, testD_s, condO_t, condO_f, andB_t, andB_f, orB_t, orB_f, andV_t, andV_f, orV_t, orV_f, notV_s, setO_s, setLO_s, dropO_s, forO_s, asgO_s, bind2_ss, addD_ok, subD_ok, ltD_ok, leD_ok, gtD_ok, geD_ok, eqD_int, neD_int, ix_pair0, ix_pair1, setS, negD, lenD_l, lenD_t, listD_l, tupD_t, seqD_l, short2, shortL0, shortL1, shortL2, shortL3, shortL4, outD_rt, outD_nx, Bool.not_true, Bool.not_false]
  rw [show inD .none (.list [.int p.1, .int p.2]) = some (.bool false) from rfl]
  try simp only [runD, seqF_def, thenO_nx, thenO_rt, List.length_cons, List.length_nil, Nat.reduceAdd, reduceIte, List.map_cons, List.map_nil, List.reduceReplicate, List.append_nil, List.nil_append, List.cons_append, List.getElem?_cons_zero, List.getElem?_cons_succ, List.set_cons_zero, List.set_cons_succ, Option.join_some, Option.bind_some, Option.map_some, Option.filter_some, consD_ss, testD_s, condO_t, condO_f, andB_t, andB_f, orB_t, orB_f, andV_t, andV_f, orV_t, orV_f, notV_s, setO_s, setLO_s, dropO_s, forO_s, asgO_s, bind2_ss, addD_ok, subD_ok, ltD_ok, leD_ok, gtD_ok, geD_ok, eqD_int, neD_int, ix_pair0, ix_pair1, setS, negD, lenD_l, lenD_t, listD_l, tupD_t, seqD_l, short2, shortL0, shortL1, shortL2, shortL3, shortL4, outD_rt, outD_nx, Bool.not_true, Bool.not_false]
  rfl
theorem lfgo_ps : ∀ ps : List (Int × Int), lf.go (ps.map encP) = true := by
  intro ps
  induction ps with
  | nil => rfl
  | cons p r ih => rw [List.map_cons, lf.go, lf_encP, ih]; rfl
theorem inN_ps (ps : List (Int × Int)) : inND .none (encL ps) = some (.bool false) := by
  have h1 : (ps.map encP).all tupN = true := by
    rw [List.all_eq_true]
    intro d hd
    obtain ⟨p, _, rfl⟩ := List.mem_map.mp hd
    rfl
  have h2 : (ps.map encP).any isND = false := by
    rw [List.any_eq_false]
    intro d hd
    obtain ⟨p, _, rfl⟩ := List.mem_map.mp hd
    exact Bool.false_ne_true
  show (if (ps.map encP).all tupN = true then some (PyData.bool ((ps.map encP).any isND)) else none) = _
  rw [if_pos h1, h2]
theorem read_eq {ps : List (Int × Int)} (h : ∀ p ∈ ps, smP p) (hl : ps.length ≤ 10) : F_p_read_folk [.str (tT ps)] = some (encL ps) := by
  rw [F_p_read_folk]
  try simp only [runD, seqF_def, thenO_nx, thenO_rt, List.length_cons, List.length_nil, Nat.reduceAdd, reduceIte, List.map_cons, List.map_nil, List.reduceReplicate, List.append_nil, List.nil_append, List.cons_append, List.getElem?_cons_zero, List.getElem?_cons_succ, List.set_cons_zero, List.set_cons_succ, Option.join_some, Option.bind_some, Option.map_some, Option.filter_some, consD_ss, testD_s, condO_t, condO_f, andB_t, andB_f, orB_t, orB_f, andV_t, andV_f, orV_t, orV_f, notV_s, setO_s, setLO_s, dropO_s, forO_s, asgO_s, bind2_ss, addD_ok, subD_ok, ltD_ok, leD_ok, gtD_ok, geD_ok, eqD_int, neD_int, ix_pair0, ix_pair1, setS, negD, lenD_l, lenD_t, listD_l, tupD_t, seqD_l, short2, shortL0, shortL1, shortL2, shortL3, shortL4, outD_rt, outD_nx, Bool.not_true, Bool.not_false]
  simp only [B_p_read_folk]
  try simp only [runD, seqF_def, thenO_nx, thenO_rt, List.length_cons, List.length_nil, Nat.reduceAdd, reduceIte, List.map_cons, List.map_nil, List.reduceReplicate, List.append_nil, List.nil_append, List.cons_append, List.getElem?_cons_zero, List.getElem?_cons_succ, List.set_cons_zero, List.set_cons_succ, Option.join_some, Option.bind_some, Option.map_some, Option.filter_some, consD_ss, testD_s, condO_t, condO_f, andB_t, andB_f, orB_t, orB_f, andV_t, andV_f, orV_t, orV_f, notV_s, setO_s, setLO_s, dropO_s, forO_s, asgO_s, bind2_ss, addD_ok, subD_ok, ltD_ok, leD_ok, gtD_ok, geD_ok, eqD_int, neD_int, ix_pair0, ix_pair1, setS, negD, lenD_l, lenD_t, listD_l, tupD_t, seqD_l, short2, shortL0, shortL1, shortL2, shortL3, shortL4, outD_rt, outD_nx, Bool.not_true, Bool.not_false]
  rw [eqD_strs (asc_t ps) asc_nobody]
  try simp only [runD, seqF_def, thenO_nx, thenO_rt, List.length_cons, List.length_nil, Nat.reduceAdd, reduceIte, List.map_cons, List.map_nil, List.reduceReplicate, List.append_nil, List.nil_append, List.cons_append, List.getElem?_cons_zero, List.getElem?_cons_succ, List.set_cons_zero, List.set_cons_succ, Option.join_some, Option.bind_some, Option.map_some, Option.filter_some, consD_ss, testD_s, condO_t, condO_f, andB_t, andB_f, orB_t, orB_f, andV_t, andV_f, orV_t, orV_f, notV_s, setO_s, setLO_s, dropO_s, forO_s, asgO_s, bind2_ss, addD_ok, subD_ok, ltD_ok, leD_ok, gtD_ok, geD_ok, eqD_int, neD_int, ix_pair0, ix_pair1, setS, negD, lenD_l, lenD_t, listD_l, tupD_t, seqD_l, short2, shortL0, shortL1, shortL2, shortL3, shortL4, outD_rt, outD_nx, Bool.not_true, Bool.not_false]
  by_cases hp : ps = []
  · subst hp
    rw [show tT [] = Str.ofString "nobody" from if_pos rfl, beq_self_eq_true]
    rfl
  · have et : tT ps = Builtin.Str.glued ⟨#[32]⟩ (ps.map wT) := if_neg hp
    have hne : (tT ps == Str.ofString "nobody") = false := by
      refine beq_eq_false_iff_ne.mpr fun z => ?_
      rw [et] at z
      have := gl_signs ps 110 (by rw [z]; decide +kernel)
      omega
    rw [hne]
    try simp only [runD, seqF_def, thenO_nx, thenO_rt, List.length_cons, List.length_nil, Nat.reduceAdd, reduceIte, List.map_cons, List.map_nil, List.reduceReplicate, List.append_nil, List.nil_append, List.cons_append, List.getElem?_cons_zero, List.getElem?_cons_succ, List.set_cons_zero, List.set_cons_succ, Option.join_some, Option.bind_some, Option.map_some, Option.filter_some, consD_ss, testD_s, condO_t, condO_f, andB_t, andB_f, orB_t, orB_f, andV_t, andV_f, orV_t, orV_f, notV_s, setO_s, setLO_s, dropO_s, forO_s, asgO_s, bind2_ss, addD_ok, subD_ok, ltD_ok, leD_ok, gtD_ok, geD_ok, eqD_int, neD_int, ix_pair0, ix_pair1, setS, negD, lenD_l, lenD_t, listD_l, tupD_t, seqD_l, short2, shortL0, shortL1, shortL2, shortL3, shortL4, outD_rt, outD_nx, Bool.not_true, Bool.not_false]
    have es : splitD (.str (tT ps)) (.str (Str.ofString " ")) = some ((ps.map wT).map .str) := by
      show (if (!((⟨#[32]⟩ : Str).length == 0) && fitS (tT ps)) = true then some ((Txt.split (tT ps) ⟨#[32]⟩).map PyData.str) else none) = _
      rw [et, if_pos]
      · rw [split_glued (by simpa using hp) fun t ht => ?_]
        obtain ⟨q, _, rfl⟩ := List.mem_map.mp ht
        intro z
        have := wT_signs q 32 z
        omega
      · rw [show fitS (Builtin.Str.glued ⟨#[32]⟩ (ps.map wT)) = true from decide_eq_true (Nat.le_trans (gl_len h hl) (by decide))]
        rfl
    have ec : compO (setS 0) (fun _ => some true) E_p_read_folk_0 (some ((ps.map wT).map .str)) [none] = some (ps.map encP) := by
      rw [compO_s (by rw [List.length_map, List.length_map]; omega), List.map_map]
      have := compD_map (S := setS 0) (fe := E_p_read_folk_0) (fun q : Int × Int => PyData.str (wT q)) encP (fun q => q) (fun ρ => ∃ y, ρ = [y]) smP (fun q ρ hq hρ => by
        obtain ⟨y, rfl⟩ := hρ
        exact ⟨[some (.str (wT q))], rfl, ⟨_, rfl⟩, one_eq hq⟩) ps [none] ⟨_, rfl⟩ h
      rw [List.map_id'] at this
      exact this
    rw [es, show frees 1 [] [some (PyData.str (tT ps)), none] = [none] from rfl]
    try simp only [runD, seqF_def, thenO_nx, thenO_rt, List.length_cons, List.length_nil, Nat.reduceAdd, reduceIte, List.map_cons, List.map_nil, List.reduceReplicate, List.append_nil, List.nil_append, List.cons_append, List.getElem?_cons_zero, List.getElem?_cons_succ, List.set_cons_zero, List.set_cons_succ, Option.join_some, Option.bind_some, Option.map_some, Option.filter_some, consD_ss, testD_s, condO_t, condO_f, andB_t, andB_f, orB_t, orB_f, andV_t, andV_f, orV_t, orV_f, notV_s, setO_s, setLO_s, dropO_s, forO_s, asgO_s, bind2_ss, addD_ok, subD_ok, ltD_ok, leD_ok, gtD_ok, geD_ok, eqD_int, neD_int, ix_pair0, ix_pair1, setS, negD, lenD_l, lenD_t, listD_l, tupD_t, seqD_l, short2, shortL0, shortL1, shortL2, shortL3, shortL4, outD_rt, outD_nx, Bool.not_true, Bool.not_false]
    rw [ec]
    try simp only [runD, seqF_def, thenO_nx, thenO_rt, List.length_cons, List.length_nil, Nat.reduceAdd, reduceIte, List.map_cons, List.map_nil, List.reduceReplicate, List.append_nil, List.nil_append, List.cons_append, List.getElem?_cons_zero, List.getElem?_cons_succ, List.set_cons_zero, List.set_cons_succ, Option.join_some, Option.bind_some, Option.map_some, Option.filter_some, consD_ss, testD_s, condO_t, condO_f, andB_t, andB_f, orB_t, orB_f, andV_t, andV_f, orV_t, orV_f, notV_s, setO_s, setLO_s, dropO_s, forO_s, asgO_s, bind2_ss, addD_ok, subD_ok, ltD_ok, leD_ok, gtD_ok, geD_ok, eqD_int, neD_int, ix_pair0, ix_pair1, setS, negD, lenD_l, lenD_t, listD_l, tupD_t, seqD_l, short2, shortL0, shortL1, shortL2, shortL3, shortL4, outD_rt, outD_nx, Bool.not_true, Bool.not_false]
    rw [if_pos (lfgo_ps _)]
    try simp only [runD, seqF_def, thenO_nx, thenO_rt, List.length_cons, List.length_nil, Nat.reduceAdd, reduceIte, List.map_cons, List.map_nil, List.reduceReplicate, List.append_nil, List.nil_append, List.cons_append, List.getElem?_cons_zero, List.getElem?_cons_succ, List.set_cons_zero, List.set_cons_succ, Option.join_some, Option.bind_some, Option.map_some, Option.filter_some, consD_ss, testD_s, condO_t, condO_f, andB_t, andB_f, orB_t, orB_f, andV_t, andV_f, orV_t, orV_f, notV_s, setO_s, setLO_s, dropO_s, forO_s, asgO_s, bind2_ss, addD_ok, subD_ok, ltD_ok, leD_ok, gtD_ok, geD_ok, eqD_int, neD_int, ix_pair0, ix_pair1, setS, negD, lenD_l, lenD_t, listD_l, tupD_t, seqD_l, short2, shortL0, shortL1, shortL2, shortL3, shortL4, outD_rt, outD_nx, Bool.not_true, Bool.not_false]
    rw [show inND .none (.list (ps.map encP)) = some (.bool false) from inN_ps ps]
    try simp only [runD, seqF_def, thenO_nx, thenO_rt, List.length_cons, List.length_nil, Nat.reduceAdd, reduceIte, List.map_cons, List.map_nil, List.reduceReplicate, List.append_nil, List.nil_append, List.cons_append, List.getElem?_cons_zero, List.getElem?_cons_succ, List.set_cons_zero, List.set_cons_succ, Option.join_some, Option.bind_some, Option.map_some, Option.filter_some, consD_ss, testD_s, condO_t, condO_f, andB_t, andB_f, orB_t, orB_f, andV_t, andV_f, orV_t, orV_f, notV_s, setO_s, setLO_s, dropO_s, forO_s, asgO_s, bind2_ss, addD_ok, subD_ok, ltD_ok, leD_ok, gtD_ok, geD_ok, eqD_int, neD_int, ix_pair0, ix_pair1, setS, negD, lenD_l, lenD_t, listD_l, tupD_t, seqD_l, short2, shortL0, shortL1, shortL2, shortL3, shortL4, outD_rt, outD_nx, Bool.not_true, Bool.not_false]
    rfl
theorem whole_int (n : Int) : F_l_whole [.int n] = some (.bool true) := by
  rw [F_l_whole]
  try simp only [runD, seqF_def, thenO_nx, thenO_rt, List.length_cons, List.length_nil, Nat.reduceAdd, reduceIte, List.map_cons, List.map_nil, List.reduceReplicate, List.append_nil, List.nil_append, List.cons_append, List.getElem?_cons_zero, List.getElem?_cons_succ, List.set_cons_zero, List.set_cons_succ, Option.join_some, Option.bind_some, Option.map_some, Option.filter_some, consD_ss, testD_s, condO_t, condO_f, andB_t, andB_f, orB_t, orB_f, andV_t, andV_f, orV_t, orV_f, notV_s, setO_s, setLO_s, dropO_s, forO_s, asgO_s, bind2_ss, addD_ok, subD_ok, ltD_ok, leD_ok, gtD_ok, geD_ok, eqD_int, neD_int, ix_pair0, ix_pair1, setS, negD, lenD_l, lenD_t, listD_l, tupD_t, seqD_l, short2, shortL0, shortL1, shortL2, shortL3, shortL4, outD_rt, outD_nx, Bool.not_true, Bool.not_false]
  simp only [B_l_whole]
  try simp only [runD, seqF_def, thenO_nx, thenO_rt, List.length_cons, List.length_nil, Nat.reduceAdd, reduceIte, List.map_cons, List.map_nil, List.reduceReplicate, List.append_nil, List.nil_append, List.cons_append, List.getElem?_cons_zero, List.getElem?_cons_succ, List.set_cons_zero, List.set_cons_succ, Option.join_some, Option.bind_some, Option.map_some, Option.filter_some, consD_ss, testD_s, condO_t, condO_f, andB_t, andB_f, orB_t, orB_f, andV_t, andV_f, orV_t, orV_f, notV_s, setO_s, setLO_s, dropO_s, forO_s, asgO_s, bind2_ss, addD_ok, subD_ok, ltD_ok, leD_ok, gtD_ok, geD_ok, eqD_int, neD_int, ix_pair0, ix_pair1, setS, negD, lenD_l, lenD_t, listD_l, tupD_t, seqD_l, short2, shortL0, shortL1, shortL2, shortL3, shortL4, outD_rt, outD_nx, Bool.not_true, Bool.not_false]
  rfl
theorem ones_eq (ps : List (Int × Int)) (x0 x1 x2 x3 : Option PyData) : ∀ (n k : Nat) (x5 : Option PyData), ps.length ≤ n + k → ∃ y5, forL 4 (setS 5) L_l_folk_so_0 (n + 1) k [x0, x1, x2, x3, some (encL ps), x5] = some (.nx [x0, x1, x2, x3, some (encL ps), y5]) := by
  intro n
  induction n with
  | zero =>
    intro k x5 h
    refine ⟨x5, ?_⟩
    show ((ps.map encP)[k]?).elim (some (Out.nx [x0, x1, x2, x3, some (encL ps), x5])) _ = _
    rw [List.getElem?_eq_none (by rw [List.length_map]; omega)]
    rfl
  | succ n ih =>
    intro k x5 h
    have e0 : forL 4 (setS 5) L_l_folk_so_0 (n + 1 + 1) k [x0, x1, x2, x3, some (encL ps), x5] = ((ps.map encP)[k]?).elim (some (.nx [x0, x1, x2, x3, some (encL ps), x5])) fun d => (L_l_folk_so_0 [x0, x1, x2, x3, some (encL ps), some d]).bind fun o => match o with
      | .nx ρ2 => forL 4 (setS 5) L_l_folk_so_0 (n + 1) (k + 1) ρ2
      | .ct ρ2 => forL 4 (setS 5) L_l_folk_so_0 (n + 1) (k + 1) ρ2
      | .bk ρ2 => some (.nx ρ2)
      | .rt v => some (.rt v) := rfl
    rw [e0, List.getElem?_map]
    cases hk : ps[k]? with
    | none => exact ⟨x5, rfl⟩
    | some p =>
      obtain ⟨y5, hy⟩ := ih (k + 1) (some (encP p)) (by omega)
      refine ⟨y5, ?_⟩
      have e : L_l_folk_so_0 [x0, x1, x2, x3, some (encL ps), some (encP p)] = some (.nx [x0, x1, x2, x3, some (encL ps), some (encP p)]) := by
        unfold L_l_folk_so_0
        try simp only [runD, seqF_def, thenO_nx, thenO_rt, List.length_cons, List.length_nil, Nat.reduceAdd, reduceIte, List.map_cons, List.map_nil, List.reduceReplicate, List.append_nil, List.nil_append, List.cons_append, List.getElem?_cons_zero, List.getElem?_cons_succ, List.set_cons_zero, List.set_cons_succ, Option.join_some, Option.bind_some, Option.map_some, Option.filter_some, consD_ss, testD_s, condO_t, condO_f, andB_t, andB_f, orB_t, orB_f, andV_t, andV_f, orV_t, orV_f, notV_s, setO_s, setLO_s, dropO_s, forO_s, asgO_s, bind2_ss, addD_ok, subD_ok, ltD_ok, leD_ok, gtD_ok, geD_ok, eqD_int, neD_int, ix_pair0, ix_pair1, setS, negD, lenD_l, lenD_t, listD_l, tupD_t, seqD_l, short2, shortL0, shortL1, shortL2, shortL3, shortL4, outD_rt, outD_nx, Bool.not_true, Bool.not_false]
        rw [show isD "tuple" (encP p) = some (.bool true) from rfl, show ixD (encP p) (.int 0) = some (.int p.1) from rfl, show ixD (encP p) (.int 1) = some (.int p.2) from rfl]
        try simp only [runD, seqF_def, thenO_nx, thenO_rt, List.length_cons, List.length_nil, Nat.reduceAdd, reduceIte, List.map_cons, List.map_nil, List.reduceReplicate, List.append_nil, List.nil_append, List.cons_append, List.getElem?_cons_zero, List.getElem?_cons_succ, List.set_cons_zero, List.set_cons_succ, Option.join_some, Option.bind_some, Option.map_some, Option.filter_some, consD_ss, testD_s, condO_t, condO_f, andB_t, andB_f, orB_t, orB_f, andV_t, andV_f, orV_t, orV_f, notV_s, setO_s, setLO_s, dropO_s, forO_s, asgO_s, bind2_ss, addD_ok, subD_ok, ltD_ok, leD_ok, gtD_ok, geD_ok, eqD_int, neD_int, ix_pair0, ix_pair1, setS, negD, lenD_l, lenD_t, listD_l, tupD_t, seqD_l, short2, shortL0, shortL1, shortL2, shortL3, shortL4, outD_rt, outD_nx, Bool.not_true, Bool.not_false]
        rw [whole_int, whole_int]
        rfl
      rw [Option.map_some]
      dsimp only [Option.elim]
      rw [e]
      exact hy
theorem so_turn {ps : List (Int × Int)} (h : ∀ p ∈ ps, smP p) (hl : ps.length ≤ 10) (x1 x3 x4 x5 : Option PyData) : ∃ y4 y5, L_l_folk_so_1 [some (encL ps), x1, some (.str (tT ps)), x3, x4, x5] = some (.nx [some (encL ps), x1, some (.str (tT ps)), x3, y4, y5]) := by
  obtain ⟨y5, ho⟩ := ones_eq ps (some (encL ps)) x1 (some (.str (tT ps))) x3 1000 0 x5 (by omega)
  refine ⟨some (.list (ps.map encP ++ [.tuple [.int 0, .int 1]])), y5, ?_⟩
  unfold L_l_folk_so_1
  try simp only [runD, seqF_def, thenO_nx, thenO_rt, List.length_cons, List.length_nil, Nat.reduceAdd, reduceIte, List.map_cons, List.map_nil, List.reduceReplicate, List.append_nil, List.nil_append, List.cons_append, List.getElem?_cons_zero, List.getElem?_cons_succ, List.set_cons_zero, List.set_cons_succ, Option.join_some, Option.bind_some, Option.map_some, Option.filter_some, consD_ss, testD_s, condO_t, condO_f, andB_t, andB_f, orB_t, orB_f, andV_t, andV_f, orV_t, orV_f, notV_s, setO_s, setLO_s, dropO_s, forO_s, asgO_s, bind2_ss, addD_ok, subD_ok, ltD_ok, leD_ok, gtD_ok, geD_ok, eqD_int, neD_int, ix_pair0, ix_pair1, setS, negD, lenD_l, lenD_t, listD_l, tupD_t, seqD_l, short2, shortL0, shortL1, shortL2, shortL3, shortL4, outD_rt, outD_nx, Bool.not_true, Bool.not_false]
  rw [read_eq h hl]
  try simp only [runD, seqF_def, thenO_nx, thenO_rt, List.length_cons, List.length_nil, Nat.reduceAdd, reduceIte, List.map_cons, List.map_nil, List.reduceReplicate, List.append_nil, List.nil_append, List.cons_append, List.getElem?_cons_zero, List.getElem?_cons_succ, List.set_cons_zero, List.set_cons_succ, Option.join_some, Option.bind_some, Option.map_some, Option.filter_some, consD_ss, testD_s, condO_t, condO_f, andB_t, andB_f, orB_t, orB_f, andV_t, andV_f, orV_t, orV_f, notV_s, setO_s, setLO_s, dropO_s, forO_s, asgO_s, bind2_ss, addD_ok, subD_ok, ltD_ok, leD_ok, gtD_ok, geD_ok, eqD_int, neD_int, ix_pair0, ix_pair1, setS, negD, lenD_l, lenD_t, listD_l, tupD_t, seqD_l, short2, shortL0, shortL1, shortL2, shortL3, shortL4, outD_rt, outD_nx, Bool.not_true, Bool.not_false]
  rw [show isD "list" (encL ps) = some (.bool true) from rfl, neD_encL, decide_eq_true rfl]
  try simp only [runD, seqF_def, thenO_nx, thenO_rt, List.length_cons, List.length_nil, Nat.reduceAdd, reduceIte, List.map_cons, List.map_nil, List.reduceReplicate, List.append_nil, List.nil_append, List.cons_append, List.getElem?_cons_zero, List.getElem?_cons_succ, List.set_cons_zero, List.set_cons_succ, Option.join_some, Option.bind_some, Option.map_some, Option.filter_some, consD_ss, testD_s, condO_t, condO_f, andB_t, andB_f, orB_t, orB_f, andV_t, andV_f, orV_t, orV_f, notV_s, setO_s, setLO_s, dropO_s, forO_s, asgO_s, bind2_ss, addD_ok, subD_ok, ltD_ok, leD_ok, gtD_ok, geD_ok, eqD_int, neD_int, ix_pair0, ix_pair1, setS, negD, lenD_l, lenD_t, listD_l, tupD_t, seqD_l, short2, shortL0, shortL1, shortL2, shortL3, shortL4, outD_rt, outD_nx, Bool.not_true, Bool.not_false]
  rw [ho]
  try simp only [runD, seqF_def, thenO_nx, thenO_rt, List.length_cons, List.length_nil, Nat.reduceAdd, reduceIte, List.map_cons, List.map_nil, List.reduceReplicate, List.append_nil, List.nil_append, List.cons_append, List.getElem?_cons_zero, List.getElem?_cons_succ, List.set_cons_zero, List.set_cons_succ, Option.join_some, Option.bind_some, Option.map_some, Option.filter_some, consD_ss, testD_s, condO_t, condO_f, andB_t, andB_f, orB_t, orB_f, andV_t, andV_f, orV_t, orV_f, notV_s, setO_s, setLO_s, dropO_s, forO_s, asgO_s, bind2_ss, addD_ok, subD_ok, ltD_ok, leD_ok, gtD_ok, geD_ok, eqD_int, neD_int, ix_pair0, ix_pair1, setS, negD, lenD_l, lenD_t, listD_l, tupD_t, seqD_l, short2, shortL0, shortL1, shortL2, shortL3, shortL4, outD_rt, outD_nx, Bool.not_true, Bool.not_false]
  rw [appD_ok (i := 4) (ds := ps.map encP) rfl (by rw [List.length_map]; omega)]
  rfl
theorem so_eq {ps : List (Int × Int)} (h : ∀ p ∈ ps, smP p) (hl : ps.length ≤ 10) : F_l_folk_so [encL ps] = some (.bool true) := by
  rw [F_l_folk_so]
  try simp only [runD, seqF_def, thenO_nx, thenO_rt, List.length_cons, List.length_nil, Nat.reduceAdd, reduceIte, List.map_cons, List.map_nil, List.reduceReplicate, List.append_nil, List.nil_append, List.cons_append, List.getElem?_cons_zero, List.getElem?_cons_succ, List.set_cons_zero, List.set_cons_succ, Option.join_some, Option.bind_some, Option.map_some, Option.filter_some, consD_ss, testD_s, condO_t, condO_f, andB_t, andB_f, orB_t, orB_f, andV_t, andV_f, orV_t, orV_f, notV_s, setO_s, setLO_s, dropO_s, forO_s, asgO_s, bind2_ss, addD_ok, subD_ok, ltD_ok, leD_ok, gtD_ok, geD_ok, eqD_int, neD_int, ix_pair0, ix_pair1, setS, negD, lenD_l, lenD_t, listD_l, tupD_t, seqD_l, short2, shortL0, shortL1, shortL2, shortL3, shortL4, outD_rt, outD_nx, Bool.not_true, Bool.not_false]
  simp only [B_l_folk_so]
  try simp only [runD, seqF_def, thenO_nx, thenO_rt, List.length_cons, List.length_nil, Nat.reduceAdd, reduceIte, List.map_cons, List.map_nil, List.reduceReplicate, List.append_nil, List.nil_append, List.cons_append, List.getElem?_cons_zero, List.getElem?_cons_succ, List.set_cons_zero, List.set_cons_succ, Option.join_some, Option.bind_some, Option.map_some, Option.filter_some, consD_ss, testD_s, condO_t, condO_f, andB_t, andB_f, orB_t, orB_f, andV_t, andV_f, orV_t, orV_f, notV_s, setO_s, setLO_s, dropO_s, forO_s, asgO_s, bind2_ss, addD_ok, subD_ok, ltD_ok, leD_ok, gtD_ok, geD_ok, eqD_int, neD_int, ix_pair0, ix_pair1, setS, negD, lenD_l, lenD_t, listD_l, tupD_t, seqD_l, short2, shortL0, shortL1, shortL2, shortL3, shortL4, outD_rt, outD_nx, Bool.not_true, Bool.not_false]
  rw [show seqD (encL ps) = some (ps.map encP) from rfl]
  try simp only [runD, seqF_def, thenO_nx, thenO_rt, List.length_cons, List.length_nil, Nat.reduceAdd, reduceIte, List.map_cons, List.map_nil, List.reduceReplicate, List.append_nil, List.nil_append, List.cons_append, List.getElem?_cons_zero, List.getElem?_cons_succ, List.set_cons_zero, List.set_cons_succ, Option.join_some, Option.bind_some, Option.map_some, Option.filter_some, consD_ss, testD_s, condO_t, condO_f, andB_t, andB_f, orB_t, orB_f, andV_t, andV_f, orV_t, orV_f, notV_s, setO_s, setLO_s, dropO_s, forO_s, asgO_s, bind2_ss, addD_ok, subD_ok, ltD_ok, leD_ok, gtD_ok, geD_ok, eqD_int, neD_int, ix_pair0, ix_pair1, setS, negD, lenD_l, lenD_t, listD_l, tupD_t, seqD_l, short2, shortL0, shortL1, shortL2, shortL3, shortL4, outD_rt, outD_nx, Bool.not_true, Bool.not_false]
  rw [if_pos (lfgo_ps ps)]
  try simp only [runD, seqF_def, thenO_nx, thenO_rt, List.length_cons, List.length_nil, Nat.reduceAdd, reduceIte, List.map_cons, List.map_nil, List.reduceReplicate, List.append_nil, List.nil_append, List.cons_append, List.getElem?_cons_zero, List.getElem?_cons_succ, List.set_cons_zero, List.set_cons_succ, Option.join_some, Option.bind_some, Option.map_some, Option.filter_some, consD_ss, testD_s, condO_t, condO_f, andB_t, andB_f, orB_t, orB_f, andV_t, andV_f, orV_t, orV_f, notV_s, setO_s, setLO_s, dropO_s, forO_s, asgO_s, bind2_ss, addD_ok, subD_ok, ltD_ok, leD_ok, gtD_ok, geD_ok, eqD_int, neD_int, ix_pair0, ix_pair1, setS, negD, lenD_l, lenD_t, listD_l, tupD_t, seqD_l, short2, shortL0, shortL1, shortL2, shortL3, shortL4, outD_rt, outD_nx, Bool.not_true, Bool.not_false]
  rw [show F_p_folk_text [.list (ps.map encP)] = some (.str (tT ps)) from text_eq h hl]
  try simp only [runD, seqF_def, thenO_nx, thenO_rt, List.length_cons, List.length_nil, Nat.reduceAdd, reduceIte, List.map_cons, List.map_nil, List.reduceReplicate, List.append_nil, List.nil_append, List.cons_append, List.getElem?_cons_zero, List.getElem?_cons_succ, List.set_cons_zero, List.set_cons_succ, Option.join_some, Option.bind_some, Option.map_some, Option.filter_some, consD_ss, testD_s, condO_t, condO_f, andB_t, andB_f, orB_t, orB_f, andV_t, andV_f, orV_t, orV_f, notV_s, setO_s, setLO_s, dropO_s, forO_s, asgO_s, bind2_ss, addD_ok, subD_ok, ltD_ok, leD_ok, gtD_ok, geD_ok, eqD_int, neD_int, ix_pair0, ix_pair1, setS, negD, lenD_l, lenD_t, listD_l, tupD_t, seqD_l, short2, shortL0, shortL1, shortL2, shortL3, shortL4, outD_rt, outD_nx, Bool.not_true, Bool.not_false]
  rw [show neD (.list (ps.map encP)) (encL ps) = some (.bool false) from by rw [show PyData.list (ps.map encP) = encL ps from rfl, neD_encL, decide_eq_true rfl]; rfl, ltext_eq h hl]
  try simp only [runD, seqF_def, thenO_nx, thenO_rt, List.length_cons, List.length_nil, Nat.reduceAdd, reduceIte, List.map_cons, List.map_nil, List.reduceReplicate, List.append_nil, List.nil_append, List.cons_append, List.getElem?_cons_zero, List.getElem?_cons_succ, List.set_cons_zero, List.set_cons_succ, Option.join_some, Option.bind_some, Option.map_some, Option.filter_some, consD_ss, testD_s, condO_t, condO_f, andB_t, andB_f, orB_t, orB_f, andV_t, andV_f, orV_t, orV_f, notV_s, setO_s, setLO_s, dropO_s, forO_s, asgO_s, bind2_ss, addD_ok, subD_ok, ltD_ok, leD_ok, gtD_ok, geD_ok, eqD_int, neD_int, ix_pair0, ix_pair1, setS, negD, lenD_l, lenD_t, listD_l, tupD_t, seqD_l, short2, shortL0, shortL1, shortL2, shortL3, shortL4, outD_rt, outD_nx, Bool.not_true, Bool.not_false]
  rw [show isD "str" (.str (tT ps)) = some (.bool true) from rfl, show neD (.str (tT ps)) (.str (tT ps)) = some (.bool false) from by
    unfold neD
    rw [if_pos (by rw [shaped_str (asc_t ps)]; rfl)]
    congr 2
    show (!(tT ps == tT ps)) = false
    rw [beq_self_eq_true]
    rfl]
  try simp only [runD, seqF_def, thenO_nx, thenO_rt, List.length_cons, List.length_nil, Nat.reduceAdd, reduceIte, List.map_cons, List.map_nil, List.reduceReplicate, List.append_nil, List.nil_append, List.cons_append, List.getElem?_cons_zero, List.getElem?_cons_succ, List.set_cons_zero, List.set_cons_succ, Option.join_some, Option.bind_some, Option.map_some, Option.filter_some, consD_ss, testD_s, condO_t, condO_f, andB_t, andB_f, orB_t, orB_f, andV_t, andV_f, orV_t, orV_f, notV_s, setO_s, setLO_s, dropO_s, forO_s, asgO_s, bind2_ss, addD_ok, subD_ok, ltD_ok, leD_ok, gtD_ok, geD_ok, eqD_int, neD_int, ix_pair0, ix_pair1, setS, negD, lenD_l, lenD_t, listD_l, tupD_t, seqD_l, short2, shortL0, shortL1, shortL2, shortL3, shortL4, outD_rt, outD_nx, Bool.not_true, Bool.not_false]
  obtain ⟨y4, y5, e1⟩ := so_turn h hl (some (.list (ps.map encP))) (some (.int 0)) none none
  obtain ⟨z4, z5, e2⟩ := so_turn h hl (some (.list (ps.map encP))) (some (.int 1)) y4 y5
  rw [show rng1D [PyData.int 2] = some [.int 0, .int 1] from rfl]
  try simp only [runD, seqF_def, thenO_nx, thenO_rt, List.length_cons, List.length_nil, Nat.reduceAdd, reduceIte, List.map_cons, List.map_nil, List.reduceReplicate, List.append_nil, List.nil_append, List.cons_append, List.getElem?_cons_zero, List.getElem?_cons_succ, List.set_cons_zero, List.set_cons_succ, Option.join_some, Option.bind_some, Option.map_some, Option.filter_some, consD_ss, testD_s, condO_t, condO_f, andB_t, andB_f, orB_t, orB_f, andV_t, andV_f, orV_t, orV_f, notV_s, setO_s, setLO_s, dropO_s, forO_s, asgO_s, bind2_ss, addD_ok, subD_ok, ltD_ok, leD_ok, gtD_ok, geD_ok, eqD_int, neD_int, ix_pair0, ix_pair1, setS, negD, lenD_l, lenD_t, listD_l, tupD_t, seqD_l, short2, shortL0, shortL1, shortL2, shortL3, shortL4, outD_rt, outD_nx, Bool.not_true, Bool.not_false]
  have e : forD (setS 3) L_l_folk_so_1 [PyData.int 0, PyData.int 1] [some (encL ps), some (.list (ps.map encP)), some (.str (tT ps)), none, none, none] = some (.nx [some (encL ps), some (.list (ps.map encP)), some (.str (tT ps)), some (.int 1), z4, z5]) := by
    rw [forD]
    show (some [some (encL ps), some (PyData.list (ps.map encP)), some (.str (tT ps)), some (.int 0), none, none]).bind _ = _
    rw [Option.bind_some, e1]
    show forD (setS 3) L_l_folk_so_1 [PyData.int 1] _ = _
    rw [forD]
    show (some [some (encL ps), some (PyData.list (ps.map encP)), some (.str (tT ps)), some (.int 1), y4, y5]).bind _ = _
    rw [Option.bind_some, e2]
    rfl
  rw [e]
  rfl
theorem ix3 (a b c : Int) {j : Int} (h0 : 0 ≤ j) (h1 : j < 3) : ∃ x, (x = a ∨ x = b ∨ x = c) ∧ ixD (.list [.int a, .int b, .int c]) (.int j) = some (.int x) := by
  have : j = 0 ∨ j = 1 ∨ j = 2 := by omega
  rcases this with rfl | rfl | rfl
  · exact ⟨a, .inl rfl, rfl⟩
  · exact ⟨b, .inr (.inl rfl), rfl⟩
  · exact ⟨c, .inr (.inr rfl), rfl⟩
theorem ix4i (a b c d : Int) {j : Int} (h0 : 0 ≤ j) (h1 : j < 4) : ∃ x, (x = a ∨ x = b ∨ x = c ∨ x = d) ∧ ixD (.list [.int a, .int b, .int c, .int d]) (.int j) = some (.int x) := by
  have : j = 0 ∨ j = 1 ∨ j = 2 ∨ j = 3 := by omega
  rcases this with rfl | rfl | rfl | rfl
  · exact ⟨a, .inl rfl, rfl⟩
  · exact ⟨b, .inr (.inl rfl), rfl⟩
  · exact ⟨c, .inr (.inr (.inl rfl)), rfl⟩
  · exact ⟨d, .inr (.inr (.inr rfl)), rfl⟩
theorem sm_of {n m : Int} (h1 : -m ≤ n) (h2 : n ≤ m) (hm : m < 10 ^ 60) : sm n := by
  unfold sm
  have : ((n.natAbs : Nat) : Int) < 10 ^ 60 := by omega
  exact Int.ofNat_lt.mp (by simpa using this)
theorem small_isBig {n : Int} (h : sm n) : isBig n = true := by
  unfold isBig L2.big
  exact decide_eq_true (Nat.lt_of_lt_of_le h (by decide +kernel))
theorem fd_ok {a b : Int} (h0 : 0 < b) (h1 : b < 10 ^ 9) : fdivD (.int a) (.int b) = some (.int (a / b)) := fdivD_ok h0 (small_isBig (sm_of (m := 10 ^ 9) (by omega) (by omega) (by decide)))
theorem place_eq {d n : Int} (hd : 0 ≤ d) (hn : 0 ≤ n ∧ n < 1000003) : ∃ pl, sm pl ∧ (bind2 ((shortL (consD (bind2 (bind2 (some (.int n)) (some (.int 21)) modD) (some (.int 10)) subD) (consD (bind2 (bind2 (some (.int n)) (some (.int 2001)) modD) (some (.int 1000)) subD) (consD (bind2 (bind2 (some (.int n)) (bind2 (some (.int 10)) (some (.int 30)) powD) mulD) (bind2 (some (.int 5)) (bind2 (some (.int 10)) (some (.int 35)) powD) mulD) subD) (some []))))).map .list) (bind2 (bind2 (some (.int d)) (some (.int 8)) modD) (some (.int 3)) fdivD) ixD).filter lf = some (.int pl) := by
  obtain ⟨x, hx, ex⟩ := ix3 (n % 21 - 10) (n % 2001 - 1000) (n * 10 ^ 30 - 5 * 10 ^ 35) (j := d % 8 / 3) (by omega) (by omega)
  refine ⟨x, ?_, ?_⟩
  · have h10 : (10 : Int) ^ 30 = 1000000000000000000000000000000 := by decide
    have h35 : (10 : Int) ^ 35 = 100000000000000000000000000000000000 := by decide
    rw [h10, h35] at hx
    refine sm_of (m := 10 ^ 40) ?_ ?_ (by decide)
    · have h40 : (10 : Int) ^ 40 = 10000000000000000000000000000000000000000 := by decide
      rw [h40]
      omega
    · have h40 : (10 : Int) ^ 40 = 10000000000000000000000000000000000000000 := by decide
      rw [h40]
      omega
  · have hA : bind2 (bind2 (some (.int n)) (some (.int 21)) modD) (some (.int 10)) subD = some (.int (n % 21 - 10)) := by rw [bind2_ss, modD_ok (by decide), bind2_ss, subD_ok]
    have hB : bind2 (bind2 (some (.int n)) (some (.int 2001)) modD) (some (.int 1000)) subD = some (.int (n % 2001 - 1000)) := by rw [bind2_ss, modD_ok (by decide), bind2_ss, subD_ok]
    have hC : bind2 (bind2 (some (.int n)) (bind2 (some (.int 10)) (some (.int 30)) powD) mulD) (bind2 (some (.int 5)) (bind2 (some (.int 10)) (some (.int 35)) powD) mulD) subD = some (.int (n * 10 ^ 30 - 5 * 10 ^ 35)) := by
      rw [show bind2 (some (.int 10)) (some (.int 30)) powD = some (.int (10 ^ 30)) from rfl, show bind2 (some (.int 10)) (some (.int 35)) powD = some (.int (10 ^ 35)) from rfl, bind2_ss, bind2_ss, mulD_s1 (a := n) (by omega), mulD_s1 (a := 5) (by decide), bind2_ss, subD_ok]
    have hI : bind2 (bind2 (some (.int d)) (some (.int 8)) modD) (some (.int 3)) fdivD = some (.int (d % 8 / 3)) := by rw [bind2_ss, modD_ok (by decide), bind2_ss, fd_ok (by decide) (by decide)]
    rw [hA, hB, hC, hI]
    show (bind2 (some (PyData.list [.int (n % 21 - 10), .int (n % 2001 - 1000), .int (n * 10 ^ 30 - 5 * 10 ^ 35)])) (some (.int (d % 8 / 3))) ixD).filter lf = _
    rw [bind2_ss, ex]
    rfl
theorem weight_eq {d : Int} (hd : 0 ≤ d ∧ d < 1000003) : ∃ wt, sm wt ∧ (bind2 ((shortL (consD (some (.int 1)) (consD (bind2 (some (.int 1)) (bind2 (bind2 (some (.int d)) (some (.int 8)) fdivD) (some (.int 9)) modD) addD) (consD (bind2 (some (.int 1)) (bind2 (bind2 (some (.int d)) (some (.int 8)) fdivD) (some (.int 99)) modD) addD) (consD (bind2 (bind2 (some (.int 10)) (some (.int 30)) powD) (some (.int d)) addD) (some [])))))).map .list) (bind2 (bind2 (bind2 (some (.int d)) (some (.int 1024)) fdivD) (some (.int 16)) modD) (some (.int 4)) fdivD) ixD).filter lf = some (.int wt) := by
  obtain ⟨x, hx, ex⟩ := ix4i 1 (1 + d / 8 % 9) (1 + d / 8 % 99) (10 ^ 30 + d) (j := d / 1024 % 16 / 4) (by omega) (by omega)
  refine ⟨x, ?_, ?_⟩
  · have h10 : (10 : Int) ^ 30 = 1000000000000000000000000000000 := by decide
    rw [h10] at hx
    have h40 : (10 : Int) ^ 40 = 10000000000000000000000000000000000000000 := by decide
    refine sm_of (m := 10 ^ 40) ?_ ?_ (by decide)
    · rw [h40]; omega
    · rw [h40]; omega
  · have hA : bind2 (some (.int 1)) (bind2 (bind2 (some (.int d)) (some (.int 8)) fdivD) (some (.int 9)) modD) addD = some (.int (1 + d / 8 % 9)) := by rw [bind2_ss, fd_ok (by decide) (by decide), bind2_ss, modD_ok (by decide), bind2_ss, addD_ok]
    have hB : bind2 (some (.int 1)) (bind2 (bind2 (some (.int d)) (some (.int 8)) fdivD) (some (.int 99)) modD) addD = some (.int (1 + d / 8 % 99)) := by rw [bind2_ss, fd_ok (by decide) (by decide), bind2_ss, modD_ok (by decide), bind2_ss, addD_ok]
    have hC : bind2 (bind2 (some (.int 10)) (some (.int 30)) powD) (some (.int d)) addD = some (.int (10 ^ 30 + d)) := by rw [show bind2 (some (.int 10)) (some (.int 30)) powD = some (.int (10 ^ 30)) from rfl, bind2_ss, addD_ok]
    have hI : bind2 (bind2 (bind2 (some (.int d)) (some (.int 1024)) fdivD) (some (.int 16)) modD) (some (.int 4)) fdivD = some (.int (d / 1024 % 16 / 4)) := by rw [bind2_ss, fd_ok (by decide) (by decide), bind2_ss, modD_ok (by decide), bind2_ss, fd_ok (by decide) (by decide)]
    rw [hA, hB, hC, hI]
    show (bind2 (some (PyData.list [.int 1, .int (1 + d / 8 % 9), .int (1 + d / 8 % 99), .int (10 ^ 30 + d)])) (some (.int (d / 1024 % 16 / 4))) ixD).filter lf = _
    rw [bind2_ss, ex]
    rfl
theorem folk_step {ps : List Int} (hd : dgOk ps) (hl : 2 ≤ ps.length) {f : List (Int × Int)} (hf : f.length < 100) (x1 x3 x4 x5 x6 x7 : Option PyData) : ∃ p y4 y5 y6 y7, smP p ∧ L_l_folk_0 [some (.list (ps.map .int)), x1, some (encL f), x3, x4, x5, x6, x7] = some (.nx [some (.list (ps.dropLast.dropLast.map .int)), x1, some (encL (f ++ [p])), x3, y4, y5, y6, y7]) := by
  have ne1 : ps ≠ [] := fun z => by rw [z] at hl; exact absurd hl (by decide)
  have ne2 : ps.dropLast ≠ [] := fun z => by have := congrArg List.length z; rw [List.length_dropLast, List.length_nil] at this; omega
  obtain ⟨d, hdm, e1⟩ := pop_eq ne1 (ρ := [some (.list (ps.map .int)), x1, some (encL f), x3, x4, x5, x6, x7]) rfl
  obtain ⟨n, hnm, e2⟩ := pop_eq ne2 (ρ := [some (.list (ps.dropLast.map .int)), x1, some (encL f), x3, some (.int d), x5, x6, x7]) rfl
  have bd := hd d hdm
  have bn := dg_drop hd n hnm
  obtain ⟨pl, hp, ep⟩ := place_eq bd.1 bn
  obtain ⟨wt, hw, ew⟩ := weight_eq bd
  refine ⟨(pl, wt), some (.int d), some (.int n), some (.int pl), some (.int wt), ⟨hp, hw⟩, ?_⟩
  unfold L_l_folk_0
  rw [seqF_def, e1]
  show thenO (some (.nx [some (.list (ps.dropLast.map .int)), x1, some (encL f), x3, some (.int d), x5, x6, x7])) _ = _
  rw [thenO_nx, seqF_def, e2]
  show thenO (some (.nx [some (.list (ps.dropLast.dropLast.map .int)), x1, some (encL f), x3, some (.int d), some (.int n), x6, x7])) _ = _
  rw [thenO_nx, seqF_def]
  show thenO (setO 6 _ ((bind2 ((shortL (consD (bind2 (bind2 (some (.int n)) (some (.int 21)) modD) (some (.int 10)) subD) _)).map .list) (bind2 (bind2 (some (.int d)) (some (.int 8)) modD) (some (.int 3)) fdivD) ixD).filter lf)) _ = _
  rw [show ∀ z, z = some (PyData.int pl) → setO 6 [some (PyData.list (ps.dropLast.dropLast.map .int)), x1, some (encL f), x3, some (.int d), some (.int n), x6, x7] z = some (.nx [some (PyData.list (ps.dropLast.dropLast.map .int)), x1, some (encL f), x3, some (.int d), some (.int n), some (.int pl), x7]) from fun z hz => by rw [hz]; rfl]
  rotate_left
  · exact ep
  rw [thenO_nx, seqF_def]
  rw [show ∀ z, z = some (PyData.int wt) → setO 7 [some (PyData.list (ps.dropLast.dropLast.map .int)), x1, some (encL f), x3, some (.int d), some (.int n), some (.int pl), x7] z = some (.nx [some (PyData.list (ps.dropLast.dropLast.map .int)), x1, some (encL f), x3, some (.int d), some (.int n), some (.int pl), some (.int wt)]) from fun z hz => by rw [hz]; rfl]
  rotate_left
  · exact ew
  rw [thenO_nx]
  show (some (PyData.tuple [.int pl, .int wt])).bind (appD 2 _) = _
  rw [Option.bind_some]
  rw [appD_ok (i := 2) (ds := f.map encP) rfl (by rw [List.length_map]; omega)]
  show some (Out.nx [some (PyData.list (ps.dropLast.dropLast.map .int)), x1, some (.list (f.map encP ++ [encP (pl, wt)])), x3, some (.int d), some (.int n), some (.int pl), some (.int wt)]) = _
  rw [show f.map encP ++ [encP (pl, wt)] = (f ++ [(pl, wt)]).map encP from by rw [List.map_append]; rfl]
  rfl
theorem folk_loop : ∀ (ks : List PyData) {ps : List Int} (_ : dgOk ps) (_ : 2 * ks.length ≤ ps.length) {f : List (Int × Int)} (_ : f.length + ks.length ≤ 50) (_ : ∀ p ∈ f, smP p) (x1 x3 x4 x5 x6 x7 : Option PyData), ∃ g qs y3 y4 y5 y6 y7, (∀ p ∈ g, smP p) ∧ g.length = f.length + ks.length ∧ dgOk qs ∧ qs.length = ps.length - 2 * ks.length ∧
    forD (setS 3) L_l_folk_0 ks [some (.list (ps.map .int)), x1, some (encL f), x3, x4, x5, x6, x7] = some (.nx [some (.list (qs.map .int)), x1, some (encL g), y3, y4, y5, y6, y7]) := by
  intro ks
  induction ks with
  | nil =>
    intro ps hd hl f hf hs x1 x3 x4 x5 x6 x7
    exact ⟨f, ps, x3, x4, x5, x6, x7, hs, rfl, hd, rfl, rfl⟩
  | cons k r ih =>
    intro ps hd hl f hf hs x1 x3 x4 x5 x6 x7
    rw [List.length_cons] at hl hf
    obtain ⟨p, y4, y5, y6, y7, hp, e⟩ := folk_step hd (by omega) (f := f) (by omega) x1 (some k) x4 x5 x6 x7
    obtain ⟨g, qs, z3, z4, z5, z6, z7, g1, g2, g3, g4, g5⟩ := ih (dg_drop (dg_drop hd)) (by rw [List.length_dropLast, List.length_dropLast]; omega) (f := f ++ [p]) (by rw [List.length_append, List.length_singleton]; omega) (fun q hq => by
      rcases List.mem_append.mp hq with z | z
      · exact hs q z
      · rw [List.mem_singleton.mp z]; exact hp) x1 (some k) y4 y5 y6 y7
    refine ⟨g, qs, z3, z4, z5, z6, z7, g1, ?_, g3, ?_, ?_⟩
    · rw [g2, List.length_append, List.length_singleton, List.length_cons]; omega
    · rw [g4, List.length_dropLast, List.length_dropLast, List.length_cons]; omega
    · rw [forD]
      show (some [some (PyData.list (ps.map .int)), x1, some (encL f), some k, x4, x5, x6, x7]).bind _ = _
      rw [Option.bind_some, e]
      exact g5
theorem folk_eq {ps : List Int} (hd : dgOk ps) (hl : ps.length = 120) : ∃ g qs, (∀ p ∈ g, smP p) ∧ g.length ≤ 5 ∧ dgOk qs ∧ 100 ≤ qs.length ∧ FI_l_folk [.list (ps.map .int), .int 5] = some (encL g, qs.map .int) := by
  have ne1 : ps ≠ [] := fun z => by rw [z] at hl; cases hl
  obtain ⟨x1, b1, e1⟩ := pop_mod ne1 hd (m := 5 + 1) (by decide) (g := fun ρ => bind2 ((ρ[1]?).join) (some (.int 1)) addD) (r := [some (.int 5), some (.list []), none, none, none, none, none]) rfl
  obtain ⟨n, hn⟩ : ∃ n : Nat, x1 = (n : Int) := ⟨x1.toNat, by omega⟩
  subst hn
  have er : rng1D [.int (n : Int)] = some (rngL 0 n) := by
    have : n ≤ 5 := by omega
    rcases n with _ | _ | _ | _ | _ | _ | n
    · rfl
    · rfl
    · rfl
    · rfl
    · rfl
    · rfl
    · omega
  have hlen : (rngL 0 n).length = n := by simp [rngL]
  obtain ⟨g, qs, y3, y4, y5, y6, y7, g1, g2, g3, g4, g5⟩ := folk_loop (rngL 0 n) (dg_drop hd) (by rw [hlen, List.length_dropLast]; omega) (f := []) (by rw [hlen]; simp; omega) (fun p hp => by cases hp) (some (.int 5)) none none none none none
  refine ⟨g, qs, g1, by rw [g2, hlen]; simp; omega, g3, by rw [g4, hlen, List.length_dropLast]; omega, ?_⟩
  have eB : B_l_folk [some (.list (ps.map .int)), some (.int 5), none, none, none, none, none, none] = some (.rt (.tuple [encL g, .list (qs.map .int)])) := by
    unfold B_l_folk
    rw [seqI_nx (ρ' := [some (.list (ps.map .int)), some (.int 5), some (.list []), none, none, none, none, none]) rfl]
    rw [seqI_nx (ρ' := [some (.list (qs.map .int)), some (.int 5), some (encL g), y3, y4, y5, y6, y7]) ?s2]
    case s2 =>
      rw [e1]
      show (rng1D [PyData.int (n : Int)]).bind _ = _
      rw [er]
      exact g5
    rfl
  show outI (B_l_folk [some (.list (ps.map .int)), some (.int 5), none, none, none, none, none, none]) = _
  rw [eB]
  rfl
theorem cd_loop : ∀ (n : Nat) (a b : Int) (c : Option PyData), 0 ≤ b → b.natAbs < n → ∃ c', whileD W_l_divisor_0 L_l_divisor_1 n [some (.int a), some (.int b), c] = some (.nx [some (.int (if b = 0 then a else (Int.gcd a b : Int))), some (.int 0), c'])
  | 0, a, b, c, _, h => by omega
  | n + 1, a, b, c, h0, h => by
    by_cases hb : b = 0
    · subst hb
      refine ⟨c, ?_⟩
      have e1 : W_l_divisor_0 [some (.int a), some (.int 0), c] = some false := rfl
      rw [whileD, e1]
      rfl
    · have hp : 0 < b := by omega
      have hm : 0 ≤ a % b := Int.emod_nonneg a hb
      have hl : a % b < b := Int.emod_lt_of_pos a hp
      obtain ⟨c', e⟩ := cd_loop n b (a % b) (some (.int (a % b))) hm (by omega)
      refine ⟨c', ?_⟩
      have hbb : (b == 0) = false := by simpa using hb
      have e1 : W_l_divisor_0 [some (.int a), some (.int b), c] = some true := by simp only [W_l_divisor_0]; try simp only [runD, seqF_def, thenO_nx, thenO_rt, List.length_cons, List.length_nil, Nat.reduceAdd, reduceIte, List.map_cons, List.map_nil, List.reduceReplicate, List.append_nil, List.nil_append, List.cons_append, List.getElem?_cons_zero, List.getElem?_cons_succ, List.set_cons_zero, List.set_cons_succ, Option.join_some, Option.bind_some, Option.map_some, Option.filter_some, consD_ss, testD_s, condO_t, condO_f, andB_t, andB_f, orB_t, orB_f, andV_t, andV_f, orV_t, orV_f, notV_s, setO_s, setLO_s, dropO_s, forO_s, asgO_s, bind2_ss, addD_ok, subD_ok, ltD_ok, leD_ok, gtD_ok, geD_ok, eqD_int, neD_int, ix_pair0, ix_pair1, setS, negD, lenD_l, lenD_t, listD_l, tupD_t, seqD_l, short2, shortL0, shortL1, shortL2, shortL3, shortL4, outD_rt, outD_nx, Bool.not_true, Bool.not_false]; simp only [hbb]; rfl
      have e2 : L_l_divisor_1 [some (.int a), some (.int b), c] = some (.nx [some (.int b), some (.int (a % b)), some (.int (a % b))]) := by
        simp only [L_l_divisor_1]; try simp only [runD, seqF_def, thenO_nx, thenO_rt, List.length_cons, List.length_nil, Nat.reduceAdd, reduceIte, List.map_cons, List.map_nil, List.reduceReplicate, List.append_nil, List.nil_append, List.cons_append, List.getElem?_cons_zero, List.getElem?_cons_succ, List.set_cons_zero, List.set_cons_succ, Option.join_some, Option.bind_some, Option.map_some, Option.filter_some, consD_ss, testD_s, condO_t, condO_f, andB_t, andB_f, orB_t, orB_f, andV_t, andV_f, orV_t, orV_f, notV_s, setO_s, setLO_s, dropO_s, forO_s, asgO_s, bind2_ss, addD_ok, subD_ok, ltD_ok, leD_ok, gtD_ok, geD_ok, eqD_int, neD_int, ix_pair0, ix_pair1, setS, negD, lenD_l, lenD_t, listD_l, tupD_t, seqD_l, short2, shortL0, shortL1, shortL2, shortL3, shortL4, outD_rt, outD_nx, Bool.not_true, Bool.not_false]; simp only [modD_ok hp]; try simp only [runD, seqF_def, thenO_nx, thenO_rt, List.length_cons, List.length_nil, Nat.reduceAdd, reduceIte, List.map_cons, List.map_nil, List.reduceReplicate, List.append_nil, List.nil_append, List.cons_append, List.getElem?_cons_zero, List.getElem?_cons_succ, List.set_cons_zero, List.set_cons_succ, Option.join_some, Option.bind_some, Option.map_some, Option.filter_some, consD_ss, testD_s, condO_t, condO_f, andB_t, andB_f, orB_t, orB_f, andV_t, andV_f, orV_t, orV_f, notV_s, setO_s, setLO_s, dropO_s, forO_s, asgO_s, bind2_ss, addD_ok, subD_ok, ltD_ok, leD_ok, gtD_ok, geD_ok, eqD_int, neD_int, ix_pair0, ix_pair1, setS, negD, lenD_l, lenD_t, listD_l, tupD_t, seqD_l, short2, shortL0, shortL1, shortL2, shortL3, shortL4, outD_rt, outD_nx, Bool.not_true, Bool.not_false]
      rw [whileD, e1, Option.bind_some, if_pos rfl, e2, Option.bind_some]
      dsimp only
      rw [e, if_neg hb]
      by_cases hz : a % b = 0
      · have := gcd_step (a := a) hp
        rw [hz] at this ⊢
        simp at this ⊢
        omega
      · simp [hz, gcd_step hp]
theorem cd_eq (a b : Int) (h : 0 < b) : F_l_divisor [.int a, .int b] = some (.int (Int.gcd a b : Int)) := by
  obtain ⟨c', e⟩ := cd_loop (b.natAbs + 1) a b none (by omega) (by omega)
  have hb : b ≠ 0 := by omega
  have e1 : natAt [some (.int a), some (.int b), none] 1 = b.natAbs := rfl
  rw [F_l_divisor]
  try simp only [runD, seqF_def, thenO_nx, thenO_rt, List.length_cons, List.length_nil, Nat.reduceAdd, reduceIte, List.map_cons, List.map_nil, List.reduceReplicate, List.append_nil, List.nil_append, List.cons_append, List.getElem?_cons_zero, List.getElem?_cons_succ, List.set_cons_zero, List.set_cons_succ, Option.join_some, Option.bind_some, Option.map_some, Option.filter_some, consD_ss, testD_s, condO_t, condO_f, andB_t, andB_f, orB_t, orB_f, andV_t, andV_f, orV_t, orV_f, notV_s, setO_s, setLO_s, dropO_s, forO_s, asgO_s, bind2_ss, addD_ok, subD_ok, ltD_ok, leD_ok, gtD_ok, geD_ok, eqD_int, neD_int, ix_pair0, ix_pair1, setS, negD, lenD_l, lenD_t, listD_l, tupD_t, seqD_l, short2, shortL0, shortL1, shortL2, shortL3, shortL4, outD_rt, outD_nx, Bool.not_true, Bool.not_false]
  simp only [B_l_divisor]
  try simp only [runD, seqF_def, thenO_nx, thenO_rt, List.length_cons, List.length_nil, Nat.reduceAdd, reduceIte, List.map_cons, List.map_nil, List.reduceReplicate, List.append_nil, List.nil_append, List.cons_append, List.getElem?_cons_zero, List.getElem?_cons_succ, List.set_cons_zero, List.set_cons_succ, Option.join_some, Option.bind_some, Option.map_some, Option.filter_some, consD_ss, testD_s, condO_t, condO_f, andB_t, andB_f, orB_t, orB_f, andV_t, andV_f, orV_t, orV_f, notV_s, setO_s, setLO_s, dropO_s, forO_s, asgO_s, bind2_ss, addD_ok, subD_ok, ltD_ok, leD_ok, gtD_ok, geD_ok, eqD_int, neD_int, ix_pair0, ix_pair1, setS, negD, lenD_l, lenD_t, listD_l, tupD_t, seqD_l, short2, shortL0, shortL1, shortL2, shortL3, shortL4, outD_rt, outD_nx, Bool.not_true, Bool.not_false]
  rw [e1, e, if_neg hb]
  try simp only [runD, seqF_def, thenO_nx, thenO_rt, List.length_cons, List.length_nil, Nat.reduceAdd, reduceIte, List.map_cons, List.map_nil, List.reduceReplicate, List.append_nil, List.nil_append, List.cons_append, List.getElem?_cons_zero, List.getElem?_cons_succ, List.set_cons_zero, List.set_cons_succ, Option.join_some, Option.bind_some, Option.map_some, Option.filter_some, consD_ss, testD_s, condO_t, condO_f, andB_t, andB_f, orB_t, orB_f, andV_t, andV_f, orV_t, orV_f, notV_s, setO_s, setLO_s, dropO_s, forO_s, asgO_s, bind2_ss, addD_ok, subD_ok, ltD_ok, leD_ok, gtD_ok, geD_ok, eqD_int, neD_int, ix_pair0, ix_pair1, setS, negD, lenD_l, lenD_t, listD_l, tupD_t, seqD_l, short2, shortL0, shortL1, shortL2, shortL3, shortL4, outD_rt, outD_nx, Bool.not_true, Bool.not_false]
  show some (PyData.int (if ((Int.gcd a b : Nat) : Int) < 0 then _ else _)) = _
  rw [if_neg (by omega)]
theorem opL_s {g : PyData → PyData → Option PyData} {fa : Rho → Option (PyData × Rho)} {fb : Rho → Option PyData} {ρ ρ' : Rho} {d e r : PyData} (h1 : fa ρ = some (d, ρ')) (h2 : fb ρ' = some e) (h3 : g d e = some r) : opL g fa fb ρ = some (r, ρ') := by
  unfold opL
  rw [h1]
  show (fb ρ').bind _ = _
  rw [h2]
  show (g d e).map _ = _
  rw [h3]
  rfl
theorem consX_s {fa : Rho → Option (PyData × Rho)} {fs : Rho → Option (List PyData × Rho)} {ρ ρ' ρ'' : Rho} {d : PyData} {ds : List PyData} (h1 : fa ρ = some (d, ρ')) (h2 : fs ρ' = some (ds, ρ'')) : consX fa fs ρ = some (d :: ds, ρ'') := by
  unfold consX
  rw [h1]
  show (fs ρ').map _ = _
  rw [h2]
  rfl
theorem lstX_s {fs : Rho → Option (List PyData × Rho)} {ρ ρ' : Rho} {ds : List PyData} (h1 : fs ρ = some (ds, ρ')) (h2 : ds.length ≤ 1000) : lstX fs ρ = some (.list ds, ρ') := by
  unfold lstX
  rw [h1]
  show (if decide (ds.length ≤ 1000) = true then _ else _) = _
  rw [if_pos (decide_eq_true h2)]
theorem tupX_s {fs : Rho → Option (List PyData × Rho)} {ρ ρ' : Rho} {ds : List PyData} (h1 : fs ρ = some (ds, ρ')) (h2 : ds.length ≤ 1000) : tupX fs ρ = some (.tuple ds, ρ') := by
  unfold tupX
  rw [h1]
  show (if decide (ds.length ≤ 1000) = true then _ else _) = _
  rw [if_pos (decide_eq_true h2)]
theorem pureX_s {x : Option PyData} {ρ : Rho} {d : PyData} (h : x = some d) : (x.map fun d => (d, ρ)) = some (d, ρ) := by
  rw [h]
  rfl
theorem sm_div {a g : Int} (h : sm a) (hg : 0 < g) : sm (a / g) := Nat.lt_of_le_of_lt (natAbs_ediv_le a hg) h
theorem fraction_eq {ps : List Int} (hd : dgOk ps) (hl : ps.length = 120) : ∃ f rest, smP f ∧ FI_l_fraction [.list (ps.map .int)] = some (encP f, rest) := by
  have ne1 : ps ≠ [] := fun z => by rw [z] at hl; cases hl
  have ne2 : ps.dropLast ≠ [] := fun z => by have := congrArg List.length z; rw [List.length_dropLast, List.length_nil] at this; omega
  have ne3 : ps.dropLast.dropLast ≠ [] := fun z => by have := congrArg List.length z; rw [List.length_dropLast, List.length_dropLast, List.length_nil] at this; omega
  obtain ⟨d, hdm, e1⟩ := pop_eq ne1 (ρ := [some (.list (ps.map .int)), none, none, none, none]) rfl
  have bd := hd d hdm
  obtain ⟨n, hnm, e2⟩ := pop_eq ne2 (ρ := [some (.list (ps.dropLast.map .int)), some (.int d), none, none, none]) rfl
  have bn := dg_drop hd n hnm
  have h33 : (10 : Int) ^ 33 = 1000000000000000000000000000000000 := by decide
  have h38 : (10 : Int) ^ 38 = 100000000000000000000000000000000000000 := by decide
  have h30 : (10 : Int) ^ 30 = 1000000000000000000000000000000 := by decide
  have h45 : (10 : Int) ^ 45 = 1000000000000000000000000000000000000000000000 := by decide
  obtain ⟨top, htop, etop⟩ : ∃ x : Int, sm x ∧ ixD (.list [.int (d / 16 % 41 - 20), .int (n * 10 ^ 33 + 1 - 5 * 10 ^ 38)]) (.int (d % 2)) = some (.int x) := by
    have : d % 2 = 0 ∨ d % 2 = 1 := by omega
    rcases this with z | z
    · rw [z]; exact ⟨_, sm_of (m := 10 ^ 45) (by rw [h45]; omega) (by rw [h45]; omega) (by decide), rfl⟩
    · rw [z]; exact ⟨_, sm_of (m := 10 ^ 45) (by rw [h33, h38, h45]; omega) (by rw [h33, h38, h45]; omega) (by decide), rfl⟩
  obtain ⟨m, hmm, e3⟩ := pop_eq ne3 (ρ := [some (.list (ps.dropLast.dropLast.map .int)), some (.int d), some (.int top), none, none]) rfl
  have bm := dg_drop (dg_drop hd) m hmm
  obtain ⟨bot, hbot, hpos, ebot⟩ : ∃ x : Int, sm x ∧ 0 < x ∧ ixD (.list [.int 1, .int (1 + d / 16 % 12), .int (m * 10 ^ 30 + 7)]) (.int (d / 2 % 3)) = some (.int x) := by
    have : d / 2 % 3 = 0 ∨ d / 2 % 3 = 1 ∨ d / 2 % 3 = 2 := by omega
    rcases this with z | z | z
    · rw [z]; exact ⟨_, sm_of (m := 10 ^ 45) (by rw [h45]; omega) (by rw [h45]; omega) (by decide), by omega, rfl⟩
    · rw [z]; exact ⟨_, sm_of (m := 10 ^ 45) (by rw [h45]; omega) (by rw [h45]; omega) (by decide), by omega, rfl⟩
    · rw [z]; exact ⟨_, sm_of (m := 10 ^ 45) (by rw [h30, h45]; omega) (by rw [h30, h45]; omega) (by decide), by rw [h30]; omega, rfl⟩
  have hg : 0 < (Int.gcd top bot : Int) := by
    have : 0 < Int.gcd top bot := Int.gcd_pos_of_ne_zero_right _ (by omega)
    omega
  have hgs : sm (Int.gcd top bot : Int) := by
    have h1 : (Int.gcd top bot : Int) ∣ bot := Int.gcd_dvd_right ..
    have h2 := Int.le_of_dvd hpos h1
    exact sm_of (m := bot) (by omega) h2 (by have := hbot; unfold sm at this; have : ((bot.natAbs : Nat) : Int) < 10 ^ 60 := by exact_mod_cast this
                                             omega)
  refine ⟨(top / (Int.gcd top bot : Int), bot / (Int.gcd top bot : Int)), ps.dropLast.dropLast.dropLast.map .int, ⟨sm_div htop hg, sm_div hbot hg⟩, ?_⟩
  have eB : B_l_fraction [some (.list (ps.map .int)), none, none, none, none] = some (.rt (.tuple [encP (top / (Int.gcd top bot : Int), bot / (Int.gcd top bot : Int)), .list (ps.dropLast.dropLast.dropLast.map .int)])) := by
    unfold B_l_fraction
    rw [seqI_nx (ρ' := [some (.list (ps.dropLast.map .int)), some (.int d), none, none, none]) (by rw [e1]; rfl)]
    rw [seqI_nx (ρ' := [some (.list (ps.dropLast.dropLast.map .int)), some (.int d), some (.int top), none, none]) ?s2]
    case s2 =>
      rw [opL_s (d := .list [.int (d / 16 % 41 - 20), .int (n * 10 ^ 33 + 1 - 5 * 10 ^ 38)]) (e := .int (d % 2)) (ρ' := [some (.list (ps.dropLast.dropLast.map .int)), some (.int d), none, none, none]) ?a ?b etop]
      · rfl
      · exact lstX_s (consX_s (pureX_s (d := .int (d / 16 % 41 - 20)) (show bind2 (bind2 (bind2 (some (.int d)) (some (.int 16)) fdivD) (some (.int 41)) modD) (some (.int 20)) subD = _ by rw [bind2_ss, fd_ok (by decide) (by decide), bind2_ss, modD_ok (by decide), bind2_ss, subD_ok])) (consX_s (d := .int (n * 10 ^ 33 + 1 - 5 * 10 ^ 38)) (opL_s (opL_s (opL_s e2 (show bind2 (some (.int 10)) (some (.int 33)) powD = some (.int (10 ^ 33)) from rfl) (mulD_s1 (a := n) (by omega))) rfl (addD_ok _ _)) (show bind2 (some (.int 5)) (bind2 (some (.int 10)) (some (.int 38)) powD) mulD = some (.int (5 * 10 ^ 38)) by rw [show bind2 (some (.int 10)) (some (.int 38)) powD = some (.int (10 ^ 38)) from rfl, bind2_ss, mulD_s1 (a := 5) (by decide)]) (subD_ok _ _)) rfl)) (show 2 ≤ 1000 by decide)
      · show bind2 (some (.int d)) (some (.int 2)) modD = _
        rw [bind2_ss, modD_ok (by decide)]
    rw [seqI_nx (ρ' := [some (.list (ps.dropLast.dropLast.dropLast.map .int)), some (.int d), some (.int top), some (.int bot), none]) ?s3]
    case s3 =>
      rw [opL_s (d := .list [.int 1, .int (1 + d / 16 % 12), .int (m * 10 ^ 30 + 7)]) (e := .int (d / 2 % 3)) (ρ' := [some (.list (ps.dropLast.dropLast.dropLast.map .int)), some (.int d), some (.int top), none, none]) ?c ?e ebot]
      · rfl
      · exact lstX_s (consX_s rfl (consX_s (pureX_s (d := .int (1 + d / 16 % 12)) (show bind2 (some (.int 1)) (bind2 (bind2 (some (.int d)) (some (.int 16)) fdivD) (some (.int 12)) modD) addD = _ by rw [bind2_ss, fd_ok (by decide) (by decide), bind2_ss, modD_ok (by decide), bind2_ss, addD_ok])) (consX_s (d := .int (m * 10 ^ 30 + 7)) (opL_s (opL_s e3 (show bind2 (some (.int 10)) (some (.int 30)) powD = some (.int (10 ^ 30)) from rfl) (mulD_s1 (a := m) (by omega))) rfl (addD_ok _ _)) rfl))) (show 3 ≤ 1000 by decide)
      · show bind2 (bind2 (some (.int d)) (some (.int 2)) fdivD) (some (.int 3)) modD = _
        rw [bind2_ss, fd_ok (by decide) (by decide), bind2_ss, modD_ok (by decide)]
    rw [seqI_nx (ρ' := [some (.list (ps.dropLast.dropLast.dropLast.map .int)), some (.int d), some (.int top), some (.int bot), some (.int (Int.gcd top bot : Int))]) ?s4]
    case s4 =>
      show setO 4 _ (F_l_divisor [.int top, .int bot]) = _
      rw [cd_eq _ _ hpos]
      rfl
    show (shortD .tuple (consD (bind2 (some (.int top)) (some (.int (Int.gcd top bot : Int))) fdivD) (consD (bind2 (some (.int bot)) (some (.int (Int.gcd top bot : Int))) fdivD) (some [])))).bind _ = _
    rw [bind2_ss, bind2_ss, fdivD_ok hg (small_isBig hgs), fdivD_ok hg (small_isBig hgs)]
    rfl
  show outI (B_l_fraction [some (.list (ps.map .int)), none, none, none, none]) = _
  rw [eB]
  rfl
noncomputable def fT (f : Int × Int) : Str := if f.2 = 1 then nT f.1 else nT f.1 ++ ⟨#[47]⟩ ++ nT f.2
theorem cat3_f {p : Int × Int} (h : smP p) : cat3 (.str (nT p.1)) (.str (Str.ofString "/")) (.str (nT p.2)) = some (.str (nT p.1 ++ ⟨#[47]⟩ ++ nT p.2)) := by
  show (if (fitS (nT p.1) && fitS (Str.ofString "/") && fitS (nT p.2)) = true then some (PyData.str (nT p.1 ++ Str.ofString "/" ++ nT p.2)) else none) = _
  rw [fit_n h.1, fit_n h.2]
  rfl
theorem ftext_eq {f : Int × Int} (h : smP f) : F_p_fraction_text [encP f] = some (.str (fT f)) := by
  rw [F_p_fraction_text]
  try simp only [runD, seqF_def, thenO_nx, thenO_rt, List.length_cons, List.length_nil, Nat.reduceAdd, reduceIte, List.map_cons, List.map_nil, List.reduceReplicate, List.append_nil, List.nil_append, List.cons_append, List.getElem?_cons_zero, List.getElem?_cons_succ, List.set_cons_zero, List.set_cons_succ, Option.join_some, Option.bind_some, Option.map_some, Option.filter_some, consD_ss, testD_s, condO_t, condO_f, andB_t, andB_f, orB_t, orB_f, andV_t, andV_f, orV_t, orV_f, notV_s, setO_s, setLO_s, dropO_s, forO_s, asgO_s, bind2_ss, addD_ok, subD_ok, ltD_ok, leD_ok, gtD_ok, geD_ok, eqD_int, neD_int, ix_pair0, ix_pair1, setS, negD, lenD_l, lenD_t, listD_l, tupD_t, seqD_l, short2, shortL0, shortL1, shortL2, shortL3, shortL4, outD_rt, outD_nx, Bool.not_true, Bool.not_false]
  simp only [B_p_fraction_text]
  try simp only [runD, seqF_def, thenO_nx, thenO_rt, List.length_cons, List.length_nil, Nat.reduceAdd, reduceIte, List.map_cons, List.map_nil, List.reduceReplicate, List.append_nil, List.nil_append, List.cons_append, List.getElem?_cons_zero, List.getElem?_cons_succ, List.set_cons_zero, List.set_cons_succ, Option.join_some, Option.bind_some, Option.map_some, Option.filter_some, consD_ss, testD_s, condO_t, condO_f, andB_t, andB_f, orB_t, orB_f, andV_t, andV_f, orV_t, orV_f, notV_s, setO_s, setLO_s, dropO_s, forO_s, asgO_s, bind2_ss, addD_ok, subD_ok, ltD_ok, leD_ok, gtD_ok, geD_ok, eqD_int, neD_int, ix_pair0, ix_pair1, setS, negD, lenD_l, lenD_t, listD_l, tupD_t, seqD_l, short2, shortL0, shortL1, shortL2, shortL3, shortL4, outD_rt, outD_nx, Bool.not_true, Bool.not_false]
  rw [show ixD (encP f) (.int 0) = some (.int f.1) from rfl]
  try simp only [runD, seqF_def, thenO_nx, thenO_rt, List.length_cons, List.length_nil, Nat.reduceAdd, reduceIte, List.map_cons, List.map_nil, List.reduceReplicate, List.append_nil, List.nil_append, List.cons_append, List.getElem?_cons_zero, List.getElem?_cons_succ, List.set_cons_zero, List.set_cons_succ, Option.join_some, Option.bind_some, Option.map_some, Option.filter_some, consD_ss, testD_s, condO_t, condO_f, andB_t, andB_f, orB_t, orB_f, andV_t, andV_f, orV_t, orV_f, notV_s, setO_s, setLO_s, dropO_s, forO_s, asgO_s, bind2_ss, addD_ok, subD_ok, ltD_ok, leD_ok, gtD_ok, geD_ok, eqD_int, neD_int, ix_pair0, ix_pair1, setS, negD, lenD_l, lenD_t, listD_l, tupD_t, seqD_l, short2, shortL0, shortL1, shortL2, shortL3, shortL4, outD_rt, outD_nx, Bool.not_true, Bool.not_false]
  rw [show ixD (encP f) (.int 1) = some (.int f.2) from rfl]
  try simp only [runD, seqF_def, thenO_nx, thenO_rt, List.length_cons, List.length_nil, Nat.reduceAdd, reduceIte, List.map_cons, List.map_nil, List.reduceReplicate, List.append_nil, List.nil_append, List.cons_append, List.getElem?_cons_zero, List.getElem?_cons_succ, List.set_cons_zero, List.set_cons_succ, Option.join_some, Option.bind_some, Option.map_some, Option.filter_some, consD_ss, testD_s, condO_t, condO_f, andB_t, andB_f, orB_t, orB_f, andV_t, andV_f, orV_t, orV_f, notV_s, setO_s, setLO_s, dropO_s, forO_s, asgO_s, bind2_ss, addD_ok, subD_ok, ltD_ok, leD_ok, gtD_ok, geD_ok, eqD_int, neD_int, ix_pair0, ix_pair1, setS, negD, lenD_l, lenD_t, listD_l, tupD_t, seqD_l, short2, shortL0, shortL1, shortL2, shortL3, shortL4, outD_rt, outD_nx, Bool.not_true, Bool.not_false]
  unfold fT
  by_cases q : f.2 = 1
  · rw [if_pos q, show (f.2 == 1) = true from beq_iff_eq.mpr q]
    try simp only [runD, seqF_def, thenO_nx, thenO_rt, List.length_cons, List.length_nil, Nat.reduceAdd, reduceIte, List.map_cons, List.map_nil, List.reduceReplicate, List.append_nil, List.nil_append, List.cons_append, List.getElem?_cons_zero, List.getElem?_cons_succ, List.set_cons_zero, List.set_cons_succ, Option.join_some, Option.bind_some, Option.map_some, Option.filter_some, consD_ss, testD_s, condO_t, condO_f, andB_t, andB_f, orB_t, orB_f, andV_t, andV_f, orV_t, orV_f, notV_s, setO_s, setLO_s, dropO_s, forO_s, asgO_s, bind2_ss, addD_ok, subD_ok, ltD_ok, leD_ok, gtD_ok, geD_ok, eqD_int, neD_int, ix_pair0, ix_pair1, setS, negD, lenD_l, lenD_t, listD_l, tupD_t, seqD_l, short2, shortL0, shortL1, shortL2, shortL3, shortL4, outD_rt, outD_nx, Bool.not_true, Bool.not_false]
    rw [strD_n h.1]
    rfl
  · rw [if_neg q, show (f.2 == 1) = false from beq_eq_false_iff_ne.mpr q]
    try simp only [runD, seqF_def, thenO_nx, thenO_rt, List.length_cons, List.length_nil, Nat.reduceAdd, reduceIte, List.map_cons, List.map_nil, List.reduceReplicate, List.append_nil, List.nil_append, List.cons_append, List.getElem?_cons_zero, List.getElem?_cons_succ, List.set_cons_zero, List.set_cons_succ, Option.join_some, Option.bind_some, Option.map_some, Option.filter_some, consD_ss, testD_s, condO_t, condO_f, andB_t, andB_f, orB_t, orB_f, andV_t, andV_f, orV_t, orV_f, notV_s, setO_s, setLO_s, dropO_s, forO_s, asgO_s, bind2_ss, addD_ok, subD_ok, ltD_ok, leD_ok, gtD_ok, geD_ok, eqD_int, neD_int, ix_pair0, ix_pair1, setS, negD, lenD_l, lenD_t, listD_l, tupD_t, seqD_l, short2, shortL0, shortL1, shortL2, shortL3, shortL4, outD_rt, outD_nx, Bool.not_true, Bool.not_false]
    rw [fmtD_n h.1, fmtD_n h.2]
    rw [show join3D (some (PyData.str (nT f.1))) (some (PyData.str (Str.ofString "/"))) (some (PyData.str (nT f.2))) = cat3 (.str (nT f.1)) (.str (Str.ofString "/")) (.str (nT f.2)) from rfl, cat3_f h]
    rfl
theorem app_empty (x : Str) : x ++ (Str.ofString "") = x := by
  apply str_eq
  rw [cps_app]
  exact List.append_nil _
theorem app_assoc (x y z : Str) : x ++ (y ++ z) = x ++ y ++ z := by
  apply str_eq
  rw [cps_app, cps_app, cps_app, cps_app, List.append_assoc]
theorem asc_f (f : Int × Int) : asc (fT f) := by
  unfold fT
  split
  · exact asc_n _
  · intro c hc
    rw [cps_app, cps_app, List.append_assoc] at hc
    rcases List.mem_append.mp hc with z | z
    · exact asc_n _ c z
    · rcases List.mem_append.mp z with z | z
      · rw [show c = 47 from List.mem_singleton.mp z]; decide
      · exact asc_n _ c z
theorem ltext_f {f : Int × Int} (h : smP f) : bind2 (strD [.int f.1]) (bind2 ((shortL (consD (bind2 (some (.str (Str.ofString "/"))) (strD [.int f.2]) addSD) (consD (some (.str (Str.ofString ""))) (some [])))).map .list) ((consD (some (.bool (f.2 == 1))) (some [])).bind intD) ixD) addSD = some (.str (fT f)) := by
  have h1 : addSD (.str (Str.ofString "/")) (.str (nT f.2)) = some (.str (⟨#[47]⟩ ++ nT f.2)) := by
    show (if (fitS (Str.ofString "/") && fitS (nT f.2)) = true then some (PyData.str (Str.ofString "/" ++ nT f.2)) else none) = _
    rw [fit_n h.2]
    rfl
  rw [strD_n h.1, strD_n h.2, bind2_ss, h1]
  unfold fT
  by_cases q : f.2 = 1
  · rw [if_pos q, show (f.2 == 1) = true from beq_iff_eq.mpr q]
    show addSD (.str (nT f.1)) (.str (Str.ofString "")) = _
    show (if (fitS (nT f.1) && fitS (Str.ofString "")) = true then some (PyData.str (nT f.1 ++ Str.ofString "")) else none) = _
    rw [fit_n h.1, app_empty]
    rfl
  · rw [if_neg q, show (f.2 == 1) = false from beq_eq_false_iff_ne.mpr q]
    show addSD (.str (nT f.1)) (.str (⟨#[47]⟩ ++ nT f.2)) = _
    have hl : (⟨#[47]⟩ ++ nT f.2 : Str).length ≤ 10000 := by
      rw [strLen_append]
      have := nT_len h.2
      show 1 + _ ≤ _
      omega
    show (if (fitS (nT f.1) && fitS (⟨#[47]⟩ ++ nT f.2)) = true then some (PyData.str (nT f.1 ++ (⟨#[47]⟩ ++ nT f.2))) else none) = _
    rw [fit_n h.1, show fitS (⟨#[47]⟩ ++ nT f.2) = true from decide_eq_true hl, app_assoc]
    rfl
theorem pop_at {ps : List Int} (h : ps ≠ []) (i : Nat) {ρ : Rho} (hρ : (ρ[i]?).join = some (.list (ps.map .int))) : ∃ x, x ∈ ps ∧ popD i ρ = some (.int x, ρ.set i (some (.list (ps.dropLast.map .int)))) := by
  refine ⟨ps.getLast h, List.getLast_mem h, ?_⟩
  unfold popD
  rw [hρ, Option.bind_some]
  show (some (ps.map PyData.int)).bind _ = _
  rw [Option.bind_some, List.getLast?_map, List.getLast?_eq_some_getLast h, Option.map_some, Option.map_some, List.map_dropLast]
theorem seqF_nx {F G : Rho → Option Out} {ρ ρ' : Rho} (h : F ρ = some (.nx ρ')) : seqF F G ρ = G ρ' := by
  rw [seqF_def, h]
  rfl
theorem opR_s {g : PyData → PyData → Option PyData} {fa : Rho → Option PyData} {fb : Rho → Option (PyData × Rho)} {ρ ρ' : Rho} {d e r : PyData} (h1 : fa ρ = some d) (h2 : fb ρ = some (e, ρ')) (h3 : g d e = some r) : opR g fa fb ρ = some (r, ρ') := by
  unfold opR
  rw [h1, Option.bind_some, h2, Option.bind_some]
  show (g d e).map _ = _
  rw [h3]
  rfl
theorem ixN_at {n : Nat} {k : Int} (h0 : 0 ≤ k) (h1 : k < n) : ixN n k = some k.toNat := by
  obtain ⟨j, rfl⟩ := Int.eq_ofNat_of_zero_le h0
  have hj : j < n := by omega
  unfold ixN
  simp [hj]
theorem ix_ps {ps : List (Int × Int)} {k : Int} (h0 : 0 ≤ k) (h1 : k < ps.length) : ∃ p ∈ ps, ixD (.list (ps.map encP)) (.int k) = some (encP p) := by
  have hk : k.toNat < ps.length := by omega
  refine ⟨ps[k.toNat], List.getElem_mem hk, ?_⟩
  show atI (ps.map encP) k = _
  refine atI_of h0 ?_
  rw [List.getElem?_map, List.getElem?_eq_getElem hk]
  rfl
theorem neD_nil (ps : List (Int × Int)) : neD (.list (ps.map encP)) (.list []) = some (.bool (!decide (ps = []))) := neD_encL ps []
theorem map_set (ps : List (Int × Int)) (j : Nat) (p : Int × Int) : (ps.map encP).set j (encP p) = (ps.set j p).map encP := by
  rw [List.map_set]
noncomputable def oddS : Rho → Option Out := fun ρ => condO (testD (bind2 ((ρ[3]?).join) ((shortL (some [])).map .list) neD)) ((seqF (fun ρ => setEff 4 ((opL modD (popD 1) (fun ρ => (consD ((ρ[3]?).join) (some [])).bind lenD)) ρ)) (fun ρ => putEff 3 (fun ρ => (ρ[4]?).join) ((tupX (consX (fun ρ => ((bind2 (bind2 ((ρ[3]?).join) ((ρ[4]?).join) ixD) (some (.int 0)) ixD).filter lf).map fun d => (d, ρ)) (consX (opR ixD (fun ρ => (shortL (consD (some (.int 0)) (consD ((some (.int 1)).bind negD) (consD (bind2 (some (.int 0)) (bind2 (bind2 ((ρ[3]?).join) ((ρ[4]?).join) ixD) (some (.int 1)) ixD) subD) (some []))))).map .list) (opL modD (popD 1) (fun ρ => some (.int 3)))) (fun ρ => some ([], ρ))))) ρ))) ρ) (some (.nx ρ))
theorem odd_tup {ds : List PyData} {k c w : Int} {p : Int × Int} {x0 x2 q1 q2 : Option PyData} (ep : ixD (.list ds) (.int k) = some (encP p)) (e2 : popD 1 [x0, q1, x2, some (.list ds), some (.int k), none, none] = some (.int c, [x0, q2, x2, some (.list ds), some (.int k), none, none])) (ew : ixD (.list [.int 0, .int (-1), .int (0 - p.2)]) (.int (c % 3)) = some (.int w)) :
    tupX (consX (fun ρ => ((bind2 (bind2 ((ρ[3]?).join) ((ρ[4]?).join) ixD) (some (.int 0)) ixD).filter lf).map fun d => (d, ρ)) (consX (opR ixD (fun ρ => (shortL (consD (some (.int 0)) (consD ((some (.int 1)).bind negD) (consD (bind2 (some (.int 0)) (bind2 (bind2 ((ρ[3]?).join) ((ρ[4]?).join) ixD) (some (.int 1)) ixD) subD) (some []))))).map .list) (opL modD (popD 1) (fun ρ => some (.int 3)))) (fun ρ => some ([], ρ)))) [x0, q1, x2, some (.list ds), some (.int k), none, none] = some (.tuple [.int p.1, .int w], [x0, q2, x2, some (.list ds), some (.int k), none, none]) := by
  refine tupX_s (consX_s (d := .int p.1) (ρ' := [x0, q1, x2, some (.list ds), some (.int k), none, none]) ?a (consX_s (d := .int w) (ρ' := [x0, q2, x2, some (.list ds), some (.int k), none, none]) ?b ?c)) (show 2 ≤ 1000 by decide)
  case a =>
    show (((bind2 (bind2 (some (.list ds)) (some (.int k)) ixD) (some (.int 0)) ixD).filter lf).map _) = _
    rw [bind2_ss, ep]
    rfl
  case b =>
    refine opR_s (d := .list [.int 0, .int (-1), .int (0 - p.2)]) (e := .int (c % 3)) ?d ?e ew
    case d =>
      show (shortL (consD (some (.int 0)) (consD ((some (.int 1)).bind negD) (consD (bind2 (some (.int 0)) (bind2 (bind2 (some (.list ds)) (some (.int k)) ixD) (some (.int 1)) ixD) subD) (some []))))).map PyData.list = _
      rw [bind2_ss, ep]
      rfl
    case e => exact opL_s e2 rfl (modD_ok (by decide))
  case c => rfl
theorem odd_eq {ps : List (Int × Int)} (hs : ∀ p ∈ ps, smP p) (hl : ps.length ≤ 5) {qs : List Int} (hd : dgOk qs) (hq : 100 ≤ qs.length) (x0 : Option PyData) : ∃ (os : List (Int × Int)) (rs : List Int) (y4 : Option PyData), (∀ p ∈ os, smP p) ∧ os.length ≤ 5 ∧ oddS [x0, some (.list (qs.map .int)), some (encL ps), some (.list (ps.map encP)), none, none, none] = some (.nx [x0, some (.list (rs.map PyData.int)), some (encL ps), some (encL os), y4, none, none]) := by
  by_cases hp : ps = []
  · subst hp
    exact ⟨[], qs, none, hs, by decide, rfl⟩
  · have hlen := List.length_pos_iff.mpr hp
    have ne1 : qs ≠ [] := fun z => by rw [z] at hq; exact absurd hq (by decide)
    have ne2 : qs.dropLast ≠ [] := fun z => by have := congrArg List.length z; rw [List.length_dropLast, List.length_nil] at this; omega
    obtain ⟨a, ha, e1⟩ := pop_at ne1 1 (ρ := [x0, some (.list (qs.map .int)), some (encL ps), some (.list (ps.map encP)), none, none, none]) rfl
    have b1 : 0 ≤ a % (ps.length : Int) ∧ a % (ps.length : Int) < (ps.length : Int) := ⟨Int.emod_nonneg _ (by omega), Int.emod_lt_of_pos _ (by omega)⟩
    obtain ⟨p, hpm, ep⟩ := ix_ps (ps := ps) b1.1 b1.2
    have hsp := hs p hpm
    obtain ⟨c, hc, e2⟩ := pop_at ne2 1 (ρ := [x0, some (.list (qs.dropLast.map .int)), some (encL ps), some (.list (ps.map encP)), some (.int (a % (ps.length : Int))), none, none]) rfl
    obtain ⟨w, hw, ew⟩ : ∃ w : Int, sm w ∧ ixD (.list [.int 0, .int (-1), .int (0 - p.2)]) (.int (c % 3)) = some (.int w) := by
      have h2 : sm (0 - p.2) := by
        unfold sm
        rw [Int.zero_sub, Int.natAbs_neg]
        exact hsp.2
      have : c % 3 = 0 ∨ c % 3 = 1 ∨ c % 3 = 2 := by omega
      rcases this with z | z | z
      · rw [z]; exact ⟨0, by unfold sm; decide, rfl⟩
      · rw [z]; exact ⟨-1, by unfold sm; decide, rfl⟩
      · rw [z]; exact ⟨0 - p.2, h2, rfl⟩
    refine ⟨ps.set (a % (ps.length : Int)).toNat (p.1, w), qs.dropLast.dropLast, some (.int (a % (ps.length : Int))), fun q hq => ?_, by rw [List.length_set]; exact hl, ?_⟩
    · rcases List.mem_or_eq_of_mem_set hq with z | z
      · exact hs q z
      · rw [z]; exact ⟨hsp.1, hw⟩
    · have hl3 : (consD (some (PyData.list (ps.map encP))) (some [])).bind lenD = some (.int (ps.length : Int)) := by
        show some (PyData.int ((ps.map encP).length : Nat)) = _
        rw [List.length_map]
      unfold oddS
      show condO (testD (neD (.list (ps.map encP)) (.list []))) _ _ = _
      rw [neD_nil, decide_eq_false hp, show testD (some (PyData.bool !false)) = some true from rfl, condO_t]
      rw [seqF_nx (ρ' := [x0, some (.list (qs.dropLast.map .int)), some (encL ps), some (.list (ps.map encP)), some (.int (a % (ps.length : Int))), none, none]) (by
        rw [opL_s e1 hl3 (modD_ok (by omega))]
        rfl)]
      have et := odd_tup (x0 := x0) (x2 := some (encL ps)) ep e2 ew
      show putEff 3 (fun ρ => (ρ[4]?).join) _ = _
      rw [et]
      show putO 3 [x0, some (.list (qs.dropLast.dropLast.map .int)), some (encL ps), some (.list (ps.map encP)), some (.int (a % (ps.length : Int))), none, none] (some (encP (p.1, w))) (some (.int (a % (ps.length : Int)))) = _
      show ((ixN (ps.map encP).length (a % (ps.length : Int))).map fun j => Out.nx [x0, some (.list (qs.dropLast.dropLast.map .int)), some (encL ps), some (.list ((ps.map encP).set j (encP (p.1, w)))), some (.int (a % (ps.length : Int))), none, none]) = _
      rw [List.length_map, ixN_at b1.1 b1.2, Option.map_some, map_set]
      rfl
theorem main (ns : List Int) (hl : ns.length ≤ 63) : F_law [.list (ns.map .int)] = some (.bool true) := by
  obtain ⟨ds, l1, d1, e1⟩ := digits_eq ns 0 hl (by decide)
  obtain ⟨ds', l2, d2, e2⟩ := digits_eq ns 1 hl (by decide)
  obtain ⟨g, qs, h1, h2, h3, h4, h5⟩ := folk_eq d1 l1
  obtain ⟨f, rest, h6, h7⟩ := fraction_eq d2 l2
  obtain ⟨os, rs, y4, h8, h9, h10⟩ := odd_eq h1 h2 h3 h4 (some (.list (ns.map .int)))
  have eB : B_law [some (.list (ns.map .int)), none, none, none, none, none, none] = some (.rt (.bool true)) := by
    unfold B_law
    rw [seqF_nx (ρ' := [some (.list (ns.map .int)), some (.list (ds.map .int)), none, none, none, none, none]) (by
      show setO 1 _ (F_l_digits [.list (ns.map .int), .int ((0 : Nat) : Int), .int 2]) = _
      rw [e1]
      rfl)]
    rw [seqF_nx (ρ' := [some (.list (ns.map .int)), some (.list (qs.map .int)), some (encL g), none, none, none, none]) (by
      show setEff 2 ((FI_l_folk [.list (ds.map .int), .int 5]).map fun z => (z.1, _)) = _
      rw [h5]
      rfl)]
    rw [seqF_nx (ρ' := [some (.list (ns.map .int)), some (.list (qs.map .int)), some (encL g), some (.list (g.map encP)), none, none, none]) (by
      show setLO 3 _ ((some (g.map encP)).filter lf.go) = _
      rw [Option.filter_some, if_pos (lfgo_ps g)]
      rfl)]
    rw [seqF_nx (ρ' := [some (.list (ns.map .int)), some (.list (rs.map .int)), some (encL g), some (encL os), y4, none, none]) ?s4]
    case s4 => exact h10
    rw [seqF_nx (ρ' := [some (.list (ns.map .int)), some (.list (rs.map .int)), some (encL g), some (encL os), y4, some (encP f), none]) (by
      show setO 5 _ (callN FI_l_fraction ((F_l_digits [.list (ns.map .int), .int ((1 : Nat) : Int), .int 2]).bind listD) (some [])) = _
      rw [e2]
      show setO 5 _ ((FI_l_fraction [.list (ds'.map .int)]).map (·.1)) = _
      rw [h7]
      rfl)]
    rw [seqF_nx (ρ' := [some (.list (ns.map .int)), some (.list (rs.map .int)), some (encL g), some (encL os), y4, some (encP f), some (.str (fT f))]) (by
      show setO 6 _ (F_p_fraction_text [encP f]) = _
      rw [ftext_eq h6]
      rfl)]
    rw [seqF_nx (ρ' := [some (.list (ns.map .int)), some (.list (rs.map .int)), some (encL g), some (encL os), y4, some (encP f), some (.str (fT f))]) (by
      show condO (orB ((testD (isD "str" (.str (fT f)))).map not) (testD (bind2 (some (.str (fT f))) (bind2 (strD [.int f.1]) (bind2 ((shortL (consD (bind2 (some (.str (Str.ofString "/"))) (strD [.int f.2]) addSD) (consD (some (.str (Str.ofString ""))) (some [])))).map .list) ((consD (eqD (.int f.2) (.int 1)) (some [])).bind intD) ixD) addSD) neD))) _ _ = _
      rw [eqD_int, ltext_f h6, bind2_ss, show neD (.str (fT f)) (.str (fT f)) = some (.bool false) from by
        unfold neD
        rw [if_pos (by rw [shaped_str (asc_f f)]; rfl)]
        congr 2
        show (!(fT f == fT f)) = false
        rw [beq_self_eq_true]
        rfl]
      rfl)]
    show (andV (F_l_folk_so [encL g]) (andV (F_l_folk_so [encL os]) (F_l_folk_so [encL []]))).map Out.rt = _
    rw [so_eq h1 (by omega), so_eq h8 (by omega), so_eq (ps := []) (fun p hp => by cases hp) (by decide)]
    rfl
  show outD (B_law [some (.list (ns.map .int)), none, none, none, none, none, none]) = _
  rw [eB]
  rfl
end NW
namespace NW
open PySem PySem.Spec PyProof.Rows L2
structure Txt (mg : Str → Option Value) : Prop where
  m_abs : mg "abs" = none
  m_all : mg "all" = none
  m_bool : mg "bool" = none
  m_int : mg "int" = none
  m_isinstance : mg "isinstance" = none
  m_len : mg "len" = none
  m_list : mg "list" = none
  m_min : mg "min" = none
  m_range : mg "range" = none
  m_reversed : mg "reversed" = none
  m_str : mg "str" = none
  m_sum : mg "sum" = none
  m_tuple : mg "tuple" = none
section
variable {P : Program} {w : World} {K : PySem.W.Frag} {mg : Str → Option Value} {base : Heap}
theorem sc_l_digits : FnScope ["_law_script", "_law_at", "_law_parts", "_law_unit", "_law_found", "_law_first", "_law_rest", "_law_k"] ["_law_script", "_law_at", "_law_parts"] (defScope s_l_digits) := ⟨rfl, rfl, rfl, by decide +kernel, rfl, by decide +kernel, by decide +kernel⟩
theorem nd_l_digits_0 : (["_law_k", "_law_script"] : List Str).Nodup := by decide +kernel
theorem ok_l_digits {f : Addr} {fd : FuncData} (F : Fun K "_law_digits" "_law_digits" s_l_digits f fd) (T : Txt mg)  : FnOk P w K mg base CX0 1 f fd ["_law_script", "_law_at", "_law_parts"] (spR K (.lst .cl) F_l_digits) :=
  fn_auto (k := 0) ⟨[(4, .lst .cl)], .lst .cl⟩ F sc_l_digits (by decide) B_l_digits (fun cdv hk A outer s H E hr => ss_cons (@s_set _ _ _ _ _ _ 3 _ _ sc_l_digits.nd rfl (Or.inl rfl) (v_sum rfl rfl T.m_sum (PFr.r (fr_comp (k := 1) (N := ["_law_k", "_law_script"]) (ix := [0])  (defScope s_l_digits) rfl ⟨rfl, rfl, by decide +kernel, by decide +kernel, by decide +kernel, rfl, by decide +kernel, rfl⟩ rfl rfl (PIv.raw (iv_rng3 rfl T.m_range (a_cons (PV.r (pv_name (pv 1))) (a_cons (PV.r (v_callB (b_min rfl) rfl T.m_min bt_min (a_cons (PV.r (v_callB (b_len) rfl T.m_len bt_len (a_cons (PV.r (pv_name (pv 0))) (a_nil)))) (a_cons (PV.r (pv_int)) (a_nil))))) (a_cons (PV.r (pv_name (pv 2))) (a_nil)))))) (fun _ _ _ _ _ _ => g_name (i := 0) nd_l_digits_0 rfl (Or.inl rfl)) (fun _ _ _ _ _ _ => if_nil) (fun _ _ _ _ _ _ => r_ix (PV.r (pv_name (pv 1))) (PV.r (pv_name (pv 0))))))) rfl rfl (by first | exact .inl rfl | exact .inr rfl | assumption)) (ss_cons (s_setO (i := 4) sc_l_digits.nd rfl (Or.inl rfl) (fc_lst (ac_nil))) (ss_cons (@s_set _ _ _ _ _ _ 5 _ _ sc_l_digits.nd rfl (Or.inl rfl) (v_mod (PV.r (v_add (PV.r (v_mul (PV.r (pv_name (pv 3))) (PV.r (pv_int)))) (PV.r (pv_int)))) (PV.r (pv_int))) rfl rfl (by first | exact .inl rfl | exact .inr rfl | assumption)) (ss_cons (@s_set _ _ _ _ _ _ 6 _ _ sc_l_digits.nd rfl (Or.inl rfl) (v_mul (PV.r (pv_name (pv 3))) (PV.r (v_callT (b_int) rfl T.m_int bt_int (a_cons (PV.r (v_cmp c_ge (PV.r (pv_name (pv 3))) (PV.r (v_pow (PV.r (pv_int)) (PV.r (pv_int)))))) (a_nil))))) rfl rfl (by first | exact .inl rfl | exact .inr rfl | assumption)) (ss_cons (s_for rfl (iv_rng1 rfl T.m_range (a_cons (PV.r (pv_int)) (a_nil))) (g_name (i := 7) sc_l_digits.nd rfl (Or.inl rfl)) (ss_cons (@s_set _ _ _ _ _ _ 5 _ _ sc_l_digits.nd rfl (Or.inl rfl) (v_mod (PV.r (v_add (PV.r (v_add (PV.r (v_mul (PV.r (pv_name (pv 5))) (PV.r (pv_name (pv 5))))) (PV.r (pv_name (pv 3))))) (PV.r (v_mul (PV.r (pv_int)) (PV.r (pv_name (pv 7))))))) (PV.r (pv_int))) rfl rfl (by first | exact .inl rfl | exact .inr rfl | assumption)) (ss_cons (s_if (t_cmp c_gt (PV.r (pv_name (pv 6))) (PV.r (pv_int))) (ss_one (s_append (pv 4) (v_mod (PV.r (pv_name (pv 6))) (PV.r (pv_int))))) (ss_one (s_append (pv 4) (v_mod (PV.r (v_mod (PV.r (v_mul (PV.r (pv_name (pv 5))) (PV.r (pv_name (pv 5))))) (PV.r (pv_int)))) (PV.r (pv_int)))))) (ss_one (@s_set _ _ _ _ _ _ 6 _ _ sc_l_digits.nd rfl (Or.inl rfl) (v_fdiv (PV.r (pv_name (pv 6))) (PV.r (pv_int))) rfl rfl (by first | exact .inl rfl | exact .inr rfl | assumption))))) PassesOwn.never) (ss_one (s_retO (PFt.rt (PFc.ft (PFr.cf (fr_listrev rfl rfl T.m_list rfl T.m_reversed (pr_name (pv 4)))))))))))))
theorem sc_l_folk : FnScope ["_law_purse", "_law_most", "_law_found", "_law_k", "_law_digit", "_law_number", "_law_place", "_law_weight"] ["_law_purse", "_law_most"] (defScope s_l_folk) := ⟨rfl, rfl, rfl, by decide +kernel, rfl, by decide +kernel, by decide +kernel⟩
theorem ok_l_folk {f : Addr} {fd : FuncData} (F : Fun K "_law_folk" "_law_folk" s_l_folk f fd) (T : Txt mg)  : FnOk P w K mg base CX0 1 f fd ["_law_purse", "_law_most"] (spIO K 0 (.lst .cl) FI_l_folk) :=
  fn_autoI (k := 0) (fun l => ⟨[(0, .io l), (2, .lst .cl)], .lst .cl⟩) F sc_l_folk (fun _ => rfl) (fun _ => rfl) [0, 2] (fun _ => rfl) (by decide) B_l_folk (fun l cdv hk A outer s H E hr => ss_consI (s_setO (i := 2) sc_l_folk.nd rfl (Or.inl rfl) (fc_lst (ac_nil))) (ss_consI (s_forX rfl rfl T.m_range (x_modL (x_popI (pv 0)) (PV.r (v_add (PV.r (pv_name (pv 1))) (PV.r (pv_int))))) (g_name (i := 3) sc_l_folk.nd rfl (Or.inl rfl)) (ss_cons (s_setX (i := 4) sc_l_folk.nd rfl (Or.inl rfl) (x_popI (pv 0))) (ss_cons (s_setX (i := 5) sc_l_folk.nd rfl (Or.inl rfl) (x_popI (pv 0))) (ss_cons (@s_set _ _ _ _ _ _ 6 _ _ sc_l_folk.nd rfl (Or.inl rfl) (PR.clf (r_ix (PFr.r (fr_lst (a_cons (PV.r (v_sub (PV.r (v_mod (PV.r (pv_name (pv 5))) (PV.r (pv_int)))) (PV.r (pv_int)))) (a_cons (PV.r (v_sub (PV.r (v_mod (PV.r (pv_name (pv 5))) (PV.r (pv_int)))) (PV.r (pv_int)))) (a_cons (PV.r (v_sub (PV.r (v_mul (PV.r (pv_name (pv 5))) (PV.r (v_pow (PV.r (pv_int)) (PV.r (pv_int)))))) (PV.r (v_mul (PV.r (pv_int)) (PV.r (v_pow (PV.r (pv_int)) (PV.r (pv_int)))))))) (a_nil)))))) (PV.r (v_fdiv (PV.r (v_mod (PV.r (pv_name (pv 4))) (PV.r (pv_int)))) (PV.r (pv_int)))))) rfl rfl (by first | exact .inl rfl | exact .inr rfl | assumption)) (ss_cons (@s_set _ _ _ _ _ _ 7 _ _ sc_l_folk.nd rfl (Or.inl rfl) (PR.clf (r_ix (PFr.r (fr_lst (a_cons (PV.r (pv_int)) (a_cons (PV.r (v_add (PV.r (pv_int)) (PV.r (v_mod (PV.r (v_fdiv (PV.r (pv_name (pv 4))) (PV.r (pv_int)))) (PV.r (pv_int)))))) (a_cons (PV.r (v_add (PV.r (pv_int)) (PV.r (v_mod (PV.r (v_fdiv (PV.r (pv_name (pv 4))) (PV.r (pv_int)))) (PV.r (pv_int)))))) (a_cons (PV.r (v_add (PV.r (v_pow (PV.r (pv_int)) (PV.r (pv_int)))) (PV.r (pv_name (pv 4))))) (a_nil))))))) (PV.r (v_fdiv (PV.r (v_mod (PV.r (v_fdiv (PV.r (pv_name (pv 4))) (PV.r (pv_int)))) (PV.r (pv_int)))) (PV.r (pv_int)))))) rfl rfl (by first | exact .inl rfl | exact .inr rfl | assumption)) (ss_one (s_append (pv 2) (v_tup (ac_cons (pv_name (pv 6)) (ac_cons (pv_name (pv 7)) (ac_nil)))))))))) PassesOwn.never) (ss_retI (j := 0) (rt_name (pv 2)))))
theorem sc_l_divisor : FnScope ["_law_one", "_law_other", "_law_rest"] ["_law_one", "_law_other"] (defScope s_l_divisor) := ⟨rfl, rfl, rfl, by decide +kernel, rfl, by decide +kernel, by decide +kernel⟩
theorem ok_l_divisor {f : Addr} {fd : FuncData} (F : Fun K "_law_divisor" "_law_divisor" s_l_divisor f fd) (T : Txt mg)  : FnOk P w K mg base CX0 1 f fd ["_law_one", "_law_other"] (spR K (.cl) F_l_divisor) :=
  fn_auto (k := 0) ⟨[], .cl⟩ F sc_l_divisor (by decide) B_l_divisor (fun cdv hk A outer s H E hr => ss_cons (s_while (fun ρ => natAt ρ 1 + 1) (t_cmp (c_ne hr.units) (PV.r (pv_name (pv 1))) (PV.r (pv_int))) (ss_cons (@s_set _ _ _ _ _ _ 2 _ _ sc_l_divisor.nd rfl (Or.inl rfl) (v_mod (PV.r (pv_name (pv 0))) (PV.r (pv_name (pv 1)))) rfl rfl (by first | exact .inl rfl | exact .inr rfl | assumption)) (ss_cons (@s_set _ _ _ _ _ _ 0 _ _ sc_l_divisor.nd rfl (Or.inl rfl) (pv_name (pv 1)) rfl rfl (by first | exact .inl rfl | exact .inr rfl | assumption)) (ss_one (@s_set _ _ _ _ _ _ 1 _ _ sc_l_divisor.nd rfl (Or.inl rfl) (pv_name (pv 2)) rfl rfl (by first | exact .inl rfl | exact .inr rfl | assumption))))) PassesOwn.never) (ss_one (s_ret (PV.r (v_callB (b_abs) rfl T.m_abs bt_abs (a_cons (PV.r (pv_name (pv 0))) (a_nil)))))))
theorem sc_l_fraction : FnScope ["_law_purse", "_law_digit", "_law_top", "_law_bottom", "_law_by"] ["_law_purse"] (defScope s_l_fraction) := ⟨rfl, rfl, rfl, by decide +kernel, rfl, by decide +kernel, by decide +kernel⟩
theorem ok_l_fraction {f : Addr} {fd : FuncData} (F : Fun K "_law_fraction" "_law_fraction" s_l_fraction f fd) (T : Txt mg) (G_l_divisor : DefOk P w K mg base 1 "_law_divisor" ["_law_one", "_law_other"] (.cl) F_l_divisor) : FnOk P w K mg base CX0 2 f fd ["_law_purse"] (spIO K 0 (.cl) FI_l_fraction) :=
  fn_autoI (k := 1) (fun l => ⟨[(0, .io l)], .cl⟩) F sc_l_fraction (fun _ => rfl) (fun _ => rfl) [0] (fun _ => rfl) (by decide) B_l_fraction (fun l cdv hk A outer s H E hr => ss_consI (s_setX (i := 1) sc_l_fraction.nd rfl (Or.inl rfl) (x_popI (pv 0))) (ss_consI (s_setX (i := 2) sc_l_fraction.nd rfl (Or.inl rfl) (x_ixL (x_lst (ax_cons (PV.x (v_sub (PV.r (v_mod (PV.r (v_fdiv (PV.r (pv_name (pv 1))) (PV.r (pv_int)))) (PV.r (pv_int)))) (PV.r (pv_int)))) (ax_cons (x_subL (x_addL (x_mulL (x_popI (pv 0)) (PV.r (v_pow (PV.r (pv_int)) (PV.r (pv_int))))) (PV.r (pv_int))) (PV.r (v_mul (PV.r (pv_int)) (PV.r (v_pow (PV.r (pv_int)) (PV.r (pv_int))))))) (ax_nil)))) (v_mod (PV.r (pv_name (pv 1))) (PV.r (pv_int))))) (ss_consI (s_setX (i := 3) sc_l_fraction.nd rfl (Or.inl rfl) (x_ixL (x_lst (ax_cons (PV.x (pv_int)) (ax_cons (PV.x (v_add (PV.r (pv_int)) (PV.r (v_mod (PV.r (v_fdiv (PV.r (pv_name (pv 1))) (PV.r (pv_int)))) (PV.r (pv_int)))))) (ax_cons (x_addL (x_mulL (x_popI (pv 0)) (PV.r (v_pow (PV.r (pv_int)) (PV.r (pv_int))))) (PV.r (pv_int))) (ax_nil))))) (v_mod (PV.r (v_fdiv (PV.r (pv_name (pv 1))) (PV.r (pv_int)))) (PV.r (pv_int))))) (ss_consI (@s_set _ _ _ _ _ _ 4 _ _ sc_l_fraction.nd rfl (Or.inl rfl) (v_callD G_l_divisor (hr.mono (by decide)) rfl (ac_cons (pv_name (pv 2)) (ac_cons (pv_name (pv 3)) (ac_nil)))) rfl rfl (by first | exact .inl rfl | exact .inr rfl | assumption)) (ss_retI (j := 0) (PFt.rt (PV.ft (v_tup (ac_cons (v_fdiv (PV.r (pv_name (pv 2))) (PV.r (pv_name (pv 4)))) (ac_cons (v_fdiv (PV.r (pv_name (pv 3))) (PV.r (pv_name (pv 4)))) (ac_nil)))))))))))
theorem sc_p_fraction_text : FnScope ["fraction", "top", "bottom"] ["fraction"] (defScope s_p_fraction_text) := ⟨rfl, rfl, rfl, by decide +kernel, rfl, by decide +kernel, by decide +kernel⟩
theorem ok_p_fraction_text {f : Addr} {fd : FuncData} (F : Fun K "fraction_text" "fraction_text" s_p_fraction_text f fd) (T : Txt mg)  : FnOk P w K mg base CX0 1 f fd ["fraction"] (spR K (.cl) F_p_fraction_text) :=
  fn_auto (k := 0) ⟨[], .cl⟩ F sc_p_fraction_text (by decide) B_p_fraction_text (fun cdv hk A outer s H E hr => ss_cons (@s_set _ _ _ _ _ _ 1 _ _ sc_p_fraction_text.nd rfl (Or.inl rfl) (PR.cl0 (r_ix (PV.r (pv_name (pv 0))) (PV.r (pv_int)))) rfl rfl (by first | exact .inl rfl | exact .inr rfl | assumption)) (ss_cons (@s_set _ _ _ _ _ _ 2 _ _ sc_p_fraction_text.nd rfl (Or.inl rfl) (PR.cl0 (r_ix (PV.r (pv_name (pv 0))) (PV.r (pv_int)))) rfl rfl (by first | exact .inl rfl | exact .inr rfl | assumption)) (ss_cons (s_if (t_cmp (c_eq hr.units) (PV.r (pv_name (pv 2))) (PV.r (pv_int))) (ss_one (s_ret (PV.r (v_callT (b_str) rfl T.m_str bt_str (a_cons (PV.r (pv_name (pv 1))) (a_nil)))))) (ss_nil)) (ss_one (s_ret (PV.r (v_join3 (v_fmt (PV.r (pv_name (pv 1)))) (pv_str) (v_fmt (PV.r (pv_name (pv 2)))))))))))
theorem sc_p_folk_text : FnScope ["folk"] ["folk"] (defScope s_p_folk_text) := ⟨rfl, rfl, rfl, by decide +kernel, rfl, by decide +kernel, by decide +kernel⟩
theorem nd_p_folk_text_0 : (["place", "weight"] : List Str).Nodup := by decide +kernel
theorem ok_p_folk_text {f : Addr} {fd : FuncData} (F : Fun K "folk_text" "folk_text" s_p_folk_text f fd) (T : Txt mg)  : FnOk P w K mg base CX0 1 f fd ["folk"] (spR K (.cl) F_p_folk_text) :=
  fn_auto (k := 0) ⟨[], .cl⟩ F sc_p_folk_text (by decide) B_p_folk_text (fun cdv hk A outer s H E hr => ss_cons (s_if (t_cmp (c_eq hr.units) (PV.r (v_callB (b_len) rfl T.m_len bt_len (a_cons (PV.r (pv_name (pv 0))) (a_nil)))) (PV.r (pv_int))) (ss_one (s_ret (PV.r (pv_str)))) (ss_nil)) (ss_one (s_ret (PV.r (v_join (PV.r (pv_str)) (PFr.r (fr_comp (k := 2) (N := ["place", "weight"]) (ix := [])  (defScope s_p_folk_text) rfl ⟨rfl, rfl, by decide +kernel, by decide +kernel, by decide +kernel, rfl, by decide +kernel, rfl⟩ rfl rfl (ir_list (PV.r (pv_name (pv 0)))) (fun _ _ _ _ _ _ => g_tup rfl (gs_cons (g_name (i := 0) nd_p_folk_text_0 rfl (Or.inl rfl)) (gs_cons (g_name (i := 1) nd_p_folk_text_0 rfl (Or.inl rfl)) (gs_nil)))) (fun _ _ _ _ _ _ => if_nil) (fun _ _ _ _ _ _ => PV.r (v_join3 (v_fmt (PV.r (pv_name (pv 0)))) (pv_str) (v_fmt (PV.r (pv_name (pv 1)))))))))))))
theorem sc_p_are_figures : FnScope ["text"] ["text"] (defScope s_p_are_figures) := ⟨rfl, rfl, rfl, by decide +kernel, rfl, by decide +kernel, by decide +kernel⟩
theorem nd_p_are_figures_0 : (["sign"] : List Str).Nodup := by decide +kernel
theorem ok_p_are_figures {f : Addr} {fd : FuncData} (F : Fun K "are_figures" "are_figures" s_p_are_figures f fd) (T : Txt mg)  {tk_FIGURES : Tok} (C_FIGURES : mg "FIGURES" = some (.str (Str.ofString "0123456789") tk_FIGURES)) : FnOk P w K mg base CX0 1 f fd ["text"] (spR K (.cl) F_p_are_figures) :=
  fn_auto (k := 0) ⟨[], .cl⟩ F sc_p_are_figures (by decide) B_p_are_figures (fun cdv hk A outer s H E hr => ss_one (s_ret (r_and (PV.r (v_cmp c_gt (PV.r (v_callB (b_lenS) rfl T.m_len bt_len (a_cons (PV.r (pv_name (pv 0))) (a_nil)))) (PV.r (pv_int)))) (r_one (PV.r (v_all rfl rfl T.m_all (PFr.r (fr_comp (k := 1) (N := ["sign"]) (ix := [])  (defScope s_p_are_figures) rfl ⟨rfl, rfl, by decide +kernel, by decide +kernel, by decide +kernel, rfl, by decide +kernel, rfl⟩ rfl rfl (ir_str (PV.r (pv_name (pv 0)))) (fun _ _ _ _ _ _ => g_name (i := 0) nd_p_are_figures_0 rfl (Or.inl rfl)) (fun _ _ _ _ _ _ => if_nil) (fun _ _ _ _ _ _ => PV.r (v_cmpM c_inS (PV.r (pv_name (pv 0))) (PV.r (v_globS rfl C_FIGURES))))))))))))
theorem sc_p_number_in : FnScope ["word", "figures", "number"] ["word"] (defScope s_p_number_in) := ⟨rfl, rfl, rfl, by decide +kernel, rfl, by decide +kernel, by decide +kernel⟩
theorem ok_p_number_in {f : Addr} {fd : FuncData} (F : Fun K "number_in" "number_in" s_p_number_in f fd) (T : Txt mg) (G_p_are_figures : DefOk P w K mg base 1 "are_figures" ["text"] (.cl) F_p_are_figures) : FnOk P w K mg base CX0 2 f fd ["word"] (spR K (.cl) F_p_number_in) :=
  fn_auto (k := 1) ⟨[], .cl⟩ F sc_p_number_in (by decide) B_p_number_in (fun cdv hk A outer s H E hr => ss_cons (@s_set _ _ _ _ _ _ 1 _ _ sc_p_number_in.nd rfl (Or.inl rfl) (PR.cl0 (r_if (t_val (PV.r (v_starts (PV.r (pv_name (pv 0))) (PV.r (pv_str))))) (PV.r (v_sliceS (PV.r (pv_name (pv 0))) (o_some (PV.r (pv_int))) (o_none))) (PV.r (pv_name (pv 0))))) rfl rfl (by first | exact .inl rfl | exact .inr rfl | assumption)) (ss_cons (s_if (t_not (t_val (r_callD G_p_are_figures (hr.mono (by decide)) rfl (a_cons (PV.r (pv_name (pv 1))) (a_nil))))) (ss_one (s_ret (PV.r (pv_non)))) (ss_nil)) (ss_cons (@s_set _ _ _ _ _ _ 2 _ _ sc_p_number_in.nd rfl (Or.inl rfl) (v_callT (b_intS) rfl T.m_int bt_int (a_cons (PV.r (pv_name (pv 0))) (a_nil))) rfl rfl (by first | exact .inl rfl | exact .inr rfl | assumption)) (ss_one (s_ret (r_if (t_cmp (c_eq hr.units) (PV.r (v_callT (b_str) rfl T.m_str bt_str (a_cons (PV.r (pv_name (pv 2))) (a_nil)))) (PV.r (pv_name (pv 0)))) (PV.r (pv_name (pv 2))) (PV.r (pv_non))))))))
theorem sc_p_numbers_in : FnScope ["word", "sign"] ["word", "sign"] (defScope s_p_numbers_in) := ⟨rfl, rfl, rfl, by decide +kernel, rfl, by decide +kernel, by decide +kernel⟩
theorem nd_p_numbers_in_0 : (["part"] : List Str).Nodup := by decide +kernel
theorem ok_p_numbers_in {f : Addr} {fd : FuncData} (F : Fun K "numbers_in" "numbers_in" s_p_numbers_in f fd) (T : Txt mg) (G_p_number_in : DefOk P w K mg base 2 "number_in" ["word"] (.cl) F_p_number_in) : FnOk P w K mg base CX0 3 f fd ["word", "sign"] (spR K (.cl) F_p_numbers_in) :=
  fn_auto (k := 2) ⟨[], .cl⟩ F sc_p_numbers_in (by decide) B_p_numbers_in (fun cdv hk A outer s H E hr => ss_one (s_ret (PFr.r (fr_comp (k := 1) (N := ["part"]) (ix := [])  (defScope s_p_numbers_in) rfl ⟨rfl, rfl, by decide +kernel, by decide +kernel, by decide +kernel, rfl, by decide +kernel, rfl⟩ rfl rfl (ir_list (PFr.r (fr_split (PV.r (pv_name (pv 0))) (PV.r (pv_name (pv 1)))))) (fun _ _ _ _ _ _ => g_name (i := 0) nd_p_numbers_in_0 rfl (Or.inl rfl)) (fun _ _ _ _ _ _ => if_nil) (fun _ _ _ _ _ _ => r_callD G_p_number_in (hr.mono (by decide)) rfl (a_cons (PV.r (pv_name (pv 0))) (a_nil)))))))
theorem sc_p_one_in : FnScope ["word", "numbers"] ["word"] (defScope s_p_one_in) := ⟨rfl, rfl, rfl, by decide +kernel, rfl, by decide +kernel, by decide +kernel⟩
theorem ok_p_one_in {f : Addr} {fd : FuncData} (F : Fun K "one_in" "one_in" s_p_one_in f fd) (T : Txt mg) (G_p_numbers_in : DefOk P w K mg base 3 "numbers_in" ["word", "sign"] (.cl) F_p_numbers_in) : FnOk P w K mg base CX0 4 f fd ["word"] (spR K (.cl) F_p_one_in) :=
  fn_auto (k := 3) ⟨[], .cl⟩ F sc_p_one_in (by decide) B_p_one_in (fun cdv hk A outer s H E hr => ss_cons (@s_set _ _ _ _ _ _ 1 _ _ sc_p_one_in.nd rfl (Or.inl rfl) (PR.cl0 (r_callD G_p_numbers_in (hr.mono (by decide)) rfl (a_cons (PV.r (pv_name (pv 0))) (a_cons (PV.r (pv_str)) (a_nil))))) rfl rfl (by first | exact .inl rfl | exact .inr rfl | assumption)) (ss_cons (s_if (t_w (w_or (t_cmp (c_ne hr.units) (PV.r (v_callB (b_len) rfl T.m_len bt_len (a_cons (PV.r (pv_name (pv 1))) (a_nil)))) (PV.r (pv_int))) (w_or1 (t_cmpM c_in (PV.r (pv_non)) (PV.r (pv_name (pv 1))))))) (ss_one (s_ret (PV.r (pv_non)))) (ss_nil)) (ss_one (s_ret (r_tup (a_cons (r_ix (PV.r (pv_name (pv 1))) (PV.r (pv_int))) (a_cons (r_ix (PV.r (pv_name (pv 1))) (PV.r (pv_int))) (a_nil))))))))
theorem sc_p_read_folk : FnScope ["text", "folk"] ["text"] (defScope s_p_read_folk) := ⟨rfl, rfl, rfl, by decide +kernel, rfl, by decide +kernel, by decide +kernel⟩
theorem nd_p_read_folk_0 : (["word"] : List Str).Nodup := by decide +kernel
theorem ok_p_read_folk {f : Addr} {fd : FuncData} (F : Fun K "read_folk" "read_folk" s_p_read_folk f fd) (T : Txt mg) (G_p_one_in : DefOk P w K mg base 4 "one_in" ["word"] (.cl) F_p_one_in) : FnOk P w K mg base CX0 5 f fd ["text"] (spR K (.lst .cl) F_p_read_folk) :=
  fn_auto (k := 4) ⟨[(1, .lst .cl)], .lst .cl⟩ F sc_p_read_folk (by decide) B_p_read_folk (fun cdv hk A outer s H E hr => ss_cons (s_if (t_cmp (c_eq hr.units) (PV.r (pv_name (pv 0))) (PV.r (pv_str))) (ss_one (s_retO (PFt.rt (PFc.ft (fc_lst (ac_nil)))))) (ss_nil)) (ss_cons (s_setCO (i := 1)  (k := 1) (N := ["word"]) (ix := []) sc_p_read_folk.nd rfl (Or.inl rfl) (defScope s_p_read_folk) rfl ⟨rfl, rfl, by decide +kernel, by decide +kernel, by decide +kernel, rfl, by decide +kernel, rfl⟩ rfl rfl (ir_list (PFr.r (fr_split (PV.r (pv_name (pv 0))) (PV.r (pv_str))))) (fun _ _ _ _ _ _ => g_name (i := 0) nd_p_read_folk_0 rfl (Or.inl rfl)) (fun _ _ _ _ _ _ => if_nil) (fun _ _ _ _ _ _ => r_callD G_p_one_in (hr.mono (by decide)) rfl (a_cons (PV.r (pv_name (pv 0))) (a_nil)))) (ss_cons (s_if (t_cmpM (c_inN hr.units) (PV.r (pv_non)) (pr_name (pv 1))) (ss_one (s_never)) (ss_nil)) (ss_one (s_retO (rt_name (pv 1)))))))
theorem sc_l_text : FnScope ["_law_folk_here"] ["_law_folk_here"] (defScope s_l_text) := ⟨rfl, rfl, rfl, by decide +kernel, rfl, by decide +kernel, by decide +kernel⟩
theorem nd_l_text_0 : (["_law_place", "_law_weight"] : List Str).Nodup := by decide +kernel
theorem ok_l_text {f : Addr} {fd : FuncData} (F : Fun K "_law_text" "_law_text" s_l_text f fd) (T : Txt mg)  : FnOk P w K mg base CX0 1 f fd ["_law_folk_here"] (spR K (.cl) F_l_text) :=
  fn_auto (k := 0) ⟨[], .cl⟩ F sc_l_text (by decide) B_l_text (fun cdv hk A outer s H E hr => ss_cons (s_if (t_cmp (c_eq hr.units) (PV.r (pv_name (pv 0))) (PFr.r (fr_lst (a_nil)))) (ss_one (s_ret (PV.r (pv_str)))) (ss_nil)) (ss_one (s_ret (PV.r (v_join (PV.r (pv_str)) (PFr.r (fr_comp (k := 2) (N := ["_law_place", "_law_weight"]) (ix := [])  (defScope s_l_text) rfl ⟨rfl, rfl, by decide +kernel, by decide +kernel, by decide +kernel, rfl, by decide +kernel, rfl⟩ rfl rfl (ir_list (PV.r (pv_name (pv 0)))) (fun _ _ _ _ _ _ => g_tup rfl (gs_cons (g_name (i := 0) nd_l_text_0 rfl (Or.inl rfl)) (gs_cons (g_name (i := 1) nd_l_text_0 rfl (Or.inl rfl)) (gs_nil)))) (fun _ _ _ _ _ _ => if_nil) (fun _ _ _ _ _ _ => PV.r (v_addS (PV.r (v_addS (PV.r (v_callT (b_str) rfl T.m_str bt_str (a_cons (PV.r (pv_name (pv 0))) (a_nil)))) (PV.r (pv_str)))) (PV.r (v_callT (b_str) rfl T.m_str bt_str (a_cons (PV.r (pv_name (pv 1))) (a_nil)))))))))))))
theorem sc_l_whole : FnScope ["_law_found"] ["_law_found"] (defScope s_l_whole) := ⟨rfl, rfl, rfl, by decide +kernel, rfl, by decide +kernel, by decide +kernel⟩
theorem ok_l_whole {f : Addr} {fd : FuncData} (F : Fun K "_law_whole" "_law_whole" s_l_whole f fd) (T : Txt mg)  : FnOk P w K mg base CX0 1 f fd ["_law_found"] (spR K (.cl) F_l_whole) :=
  fn_auto (k := 0) ⟨[], .cl⟩ F sc_l_whole (by decide) B_l_whole (fun cdv hk A outer s H E hr => ss_one (s_ret (r_and (PV.r (v_isi "int" (PV.r (pv_name (pv 0))) (by simp) rfl T.m_isinstance rfl T.m_int bt_int)) (r_one (PV.r (v_not (PV.r (v_isi "bool" (PV.r (pv_name (pv 0))) (by simp) rfl T.m_isinstance rfl T.m_bool bt_bool))))))))
theorem sc_l_folk_so : FnScope ["_law_folk_here", "_law_handed", "_law_text_here", "_law_turn", "_law_found", "_law_one"] ["_law_folk_here"] (defScope s_l_folk_so) := ⟨rfl, rfl, rfl, by decide +kernel, rfl, by decide +kernel, by decide +kernel⟩
theorem ok_l_folk_so {f : Addr} {fd : FuncData} (F : Fun K "_law_folk_so" "_law_folk_so" s_l_folk_so f fd) (T : Txt mg) (G_p_folk_text : DefOk P w K mg base 1 "folk_text" ["folk"] (.cl) F_p_folk_text) (G_p_read_folk : DefOk P w K mg base 5 "read_folk" ["text"] (.lst .cl) F_p_read_folk) (G_l_text : DefOk P w K mg base 1 "_law_text" ["_law_folk_here"] (.cl) F_l_text) (G_l_whole : DefOk P w K mg base 1 "_law_whole" ["_law_found"] (.cl) F_l_whole) : FnOk P w K mg base CX0 6 f fd ["_law_folk_here"] (spR K (.cl) F_l_folk_so) :=
  fn_auto (k := 5) ⟨[(4, .lst .cl)], .cl⟩ F sc_l_folk_so (by decide) B_l_folk_so (fun cdv hk A outer s H E hr => ss_cons (@s_set _ _ _ _ _ _ 1 _ _ sc_l_folk_so.nd rfl (Or.inl rfl) (PFc.v (PFr.cf (fr_list rfl T.m_list (PV.r (pv_name (pv 0)))))) rfl rfl (by first | exact .inl rfl | exact .inr rfl | assumption)) (ss_cons (@s_set _ _ _ _ _ _ 2 _ _ sc_l_folk_so.nd rfl (Or.inl rfl) (v_callD G_p_folk_text (hr.mono (by decide)) rfl (ac_cons (pv_name (pv 1)) (ac_nil))) rfl rfl (by first | exact .inl rfl | exact .inr rfl | assumption)) (ss_cons (s_if (t_w (w_or (t_cmp (c_ne hr.units) (PV.r (pv_name (pv 1))) (PV.r (pv_name (pv 0)))) (w_or (t_not (t_val (PV.r (v_isi "str" (PV.r (pv_name (pv 2))) (by simp) rfl T.m_isinstance rfl T.m_str bt_str)))) (w_or1 (t_cmp (c_ne hr.units) (PV.r (pv_name (pv 2))) (r_callD G_l_text (hr.mono (by decide)) rfl (a_cons (PV.r (pv_name (pv 0))) (a_nil)))))))) (ss_one (s_ret (PV.r (pv_bl)))) (ss_nil)) (ss_cons (s_for rfl (iv_rng1 rfl T.m_range (a_cons (PV.r (pv_int)) (a_nil))) (g_name (i := 3) sc_l_folk_so.nd rfl (Or.inl rfl)) (ss_cons (s_setT (i := 4) sc_l_folk_so.nd rfl (Or.inl rfl) (ft_callD G_p_read_folk (hr.mono (by decide)) rfl (ac_cons (pv_name (pv 2)) (ac_nil)))) (ss_cons (s_if (t_w (w_or (t_not (t_val (PV.r (v_isi "list" (pr_name (pv 4)) (by simp) rfl T.m_isinstance rfl T.m_list bt_list)))) (w_or1 (t_cmp (c_ne hr.units) (pr_name (pv 4)) (PV.r (pv_name (pv 0))))))) (ss_one (s_ret (PV.r (pv_bl)))) (ss_nil)) (ss_cons (s_forL 1001 asIo_one rfl (pv 4) (fun lz => g_name (i := 5) sc_l_folk_so.nd rfl (Or.inl rfl)) (fun lz => ss_one (s_if (t_w (w_or (t_not (t_val (PV.r (v_isi "tuple" (PV.r (pv_name (pv 5))) (by simp) rfl T.m_isinstance rfl T.m_tuple bt_tuple)))) (w_or (t_not (t_val (r_callD G_l_whole (hr.mono (by decide)) rfl (a_cons (r_ix (PV.r (pv_name (pv 5))) (PV.r (pv_int))) (a_nil))))) (w_or1 (t_not (t_val (r_callD G_l_whole (hr.mono (by decide)) rfl (a_cons (r_ix (PV.r (pv_name (pv 5))) (PV.r (pv_int))) (a_nil))))))))) (ss_one (s_ret (PV.r (pv_bl)))) (ss_nil))) PassesOwn.never) (ss_one (s_append (pv 4) (v_tup (ac_cons (pv_int) (ac_cons (pv_int) (ac_nil))))))))) PassesOwn.never) (ss_one (s_ret (PV.r (pv_bl))))))))
theorem sc_law : FnScope ["_law_script", "_law_purse", "_law_folk_here", "_law_odd", "_law_at", "_law_some", "_law_text_here"] ["_law_script"] (defScope s_law) := ⟨rfl, rfl, rfl, by decide +kernel, rfl, by decide +kernel, by decide +kernel⟩
theorem ok_law {f : Addr} {fd : FuncData} (F : Fun K "law" "law" s_law f fd) (T : Txt mg) (G_l_digits : DefOk P w K mg base 1 "_law_digits" ["_law_script", "_law_at", "_law_parts"] (.lst .cl) F_l_digits) (G_l_folk : DefI P w K mg base 1 "_law_folk" ["_law_purse", "_law_most"] 0 (.lst .cl) FI_l_folk) (G_l_fraction : DefI P w K mg base 2 "_law_fraction" ["_law_purse"] 0 (.cl) FI_l_fraction) (G_p_fraction_text : DefOk P w K mg base 1 "fraction_text" ["fraction"] (.cl) F_p_fraction_text) (G_l_folk_so : DefOk P w K mg base 6 "_law_folk_so" ["_law_folk_here"] (.cl) F_l_folk_so) : FnOk P w K mg base CX0 7 f fd ["_law_script"] (spR K (.cl) F_law) :=
  fn_auto (k := 6) ⟨[(1, .lst .cl), (3, .lst .cl)], .cl⟩ F sc_law (by decide) B_law (fun cdv hk A outer s H E hr => ss_cons (s_setT (i := 1) sc_law.nd rfl (Or.inl rfl) (ft_callD G_l_digits (hr.mono (by decide)) rfl (ac_cons (pv_name (pv 0)) (ac_cons (pv_int) (ac_cons (pv_int) (ac_nil)))))) (ss_cons (s_setX (i := 2) sc_law.nd rfl (Or.inl rfl) (x_callIr G_l_folk (hr.mono (by decide)) rfl (pv 1) (ac_cons (pv_int) (ac_nil)))) (ss_cons (s_setO (i := 3) sc_law.nd rfl (Or.inl rfl) (PFr.cf (fr_list rfl T.m_list (PV.r (pv_name (pv 2)))))) (ss_cons (s_if (t_cmp (c_ne hr.units) (pr_name (pv 3)) (PFr.r (fr_lst (a_nil)))) (ss_cons (s_setX (i := 4) sc_law.nd rfl (Or.inl rfl) (x_modL (x_pop (pv 1)) (PV.r (v_callB (b_len) rfl T.m_len bt_len (a_cons (pr_name (pv 3)) (a_nil)))))) (ss_one (s_putX (pv 3) (PV.r (pv_name (pv 4))) (x_tup (ax_cons (PV.x (PR.clf (r_ix (r_ix (pr_name (pv 3)) (PV.r (pv_name (pv 4)))) (PV.r (pv_int))))) (ax_cons (x_ix (PFc.v (fc_lst (ac_cons (pv_int) (ac_cons (v_neg (PV.r (pv_int))) (ac_cons (v_sub (PV.r (pv_int)) (r_ix (r_ix (pr_name (pv 3)) (PV.r (pv_name (pv 4)))) (PV.r (pv_int)))) (ac_nil)))))) (x_modL (x_pop (pv 1)) (PV.r (pv_int)))) (ax_nil))))))) (ss_nil)) (ss_cons (@s_set _ _ _ _ _ _ 5 _ _ sc_law.nd rfl (Or.inl rfl) (PFt.v (ft_callN G_l_fraction (hr.mono (by decide)) rfl (PFt.fc (ft_callD G_l_digits (hr.mono (by decide)) rfl (ac_cons (pv_name (pv 0)) (ac_cons (pv_int) (ac_cons (pv_int) (ac_nil)))))) (ac_nil))) rfl rfl (by first | exact .inl rfl | exact .inr rfl | assumption)) (ss_cons (@s_set _ _ _ _ _ _ 6 _ _ sc_law.nd rfl (Or.inl rfl) (v_callD G_p_fraction_text (hr.mono (by decide)) rfl (ac_cons (pv_name (pv 5)) (ac_nil))) rfl rfl (by first | exact .inl rfl | exact .inr rfl | assumption)) (ss_cons (s_if (t_w (w_or (t_not (t_val (PV.r (v_isi "str" (PV.r (pv_name (pv 6))) (by simp) rfl T.m_isinstance rfl T.m_str bt_str)))) (w_or1 (t_cmp (c_ne hr.units) (PV.r (pv_name (pv 6))) (PV.r (v_addS (PV.r (v_callT (b_str) rfl T.m_str bt_str (a_cons (r_ix (PV.r (pv_name (pv 5))) (PV.r (pv_int))) (a_nil)))) (r_ix (PFr.r (fr_lst (a_cons (PV.r (v_addS (PV.r (pv_str)) (PV.r (v_callT (b_str) rfl T.m_str bt_str (a_cons (r_ix (PV.r (pv_name (pv 5))) (PV.r (pv_int))) (a_nil)))))) (a_cons (PV.r (pv_str)) (a_nil))))) (PV.r (v_callT (b_int) rfl T.m_int bt_int (a_cons (PV.r (v_cmp (c_eq hr.units) (r_ix (PV.r (pv_name (pv 5))) (PV.r (pv_int))) (PV.r (pv_int)))) (a_nil))))))))))) (ss_one (s_ret (PV.r (pv_bl)))) (ss_nil)) (ss_one (s_ret (r_and (r_callD G_l_folk_so (hr.mono (by decide)) rfl (a_cons (PV.r (pv_name (pv 2))) (a_nil))) (r_and (r_callD G_l_folk_so (hr.mono (by decide)) rfl (a_cons (pr_name (pv 3)) (a_nil))) (r_one (r_callD G_l_folk_so (hr.mono (by decide)) rfl (a_cons (PFr.r (fr_lst (a_nil))) (a_nil)))))))))))))))
end
theorem all_mk {l : PySem.W.OpenLaw} {w : World} {K : PySem.W.Frag} {h : Heap} {mg : Str → Option Value} {fa : Addr} (X : K.In h) (G : h.Ns mainGlobals mg) (hfa : mg "law" = some (.ref fa))
    (c_FIGURES : TxtAt K "FIGURES" (Str.ofString "0123456789"))
    (d0 : FnAt K "_law_digits" s_l_digits)
    (d1 : FnAt K "_law_folk" s_l_folk)
    (d2 : FnAt K "_law_divisor" s_l_divisor)
    (d3 : FnAt K "_law_fraction" s_l_fraction)
    (d4 : FnAt K "fraction_text" s_p_fraction_text)
    (d5 : FnAt K "folk_text" s_p_folk_text)
    (d6 : FnAt K "are_figures" s_p_are_figures)
    (d7 : FnAt K "number_in" s_p_number_in)
    (d8 : FnAt K "numbers_in" s_p_numbers_in)
    (d9 : FnAt K "one_in" s_p_one_in)
    (d10 : FnAt K "read_folk" s_p_read_folk)
    (d11 : FnAt K "_law_text" s_l_text)
    (d12 : FnAt K "_law_whole" s_l_whole)
    (d13 : FnAt K "_law_folk_so" s_l_folk_so)
    (d14 : FnAt K "law" s_law)
    (z_all : noNames K ["abs", "all", "bool", "int", "isinstance", "len", "list", "min", "range", "reversed", "str", "sum", "tuple"] = true)
    : ∃ fd : FuncData, (∀ (s : Shared) (v : Value), BindsTo s fd ⟨[v], []⟩ [("_law_script", v)]) ∧ ∀ base : Heap, K.In base → base.Ns mainGlobals mg → FnOk l.prog w K mg base CX0 7 fa fd ["_law_script"] (spR K .cl F_law) := by
  have T : Txt mg := ⟨noNames_get X G z_all 0 rfl, noNames_get X G z_all 1 rfl, noNames_get X G z_all 2 rfl, noNames_get X G z_all 3 rfl, noNames_get X G z_all 4 rfl, noNames_get X G z_all 5 rfl, noNames_get X G z_all 6 rfl, noNames_get X G z_all 7 rfl, noNames_get X G z_all 8 rfl, noNames_get X G z_all 9 rfl, noNames_get X G z_all 10 rfl, noNames_get X G z_all 11 rfl, noNames_get X G z_all 12 rfl⟩
  obtain ⟨tk_FIGURES, c_FIGURES⟩ := c_FIGURES
  have C_FIGURES := PySem.W.mg_of X G c_FIGURES
  have H_l_digits : ∀ base : Heap, DefOk l.prog w K mg base 1 "_law_digits" ["_law_script", "_law_at", "_law_parts"] (.lst .cl) F_l_digits := fun base => d0.ok X G (fun _ _ _ _ _ _ us hl => len3 (P := fun us => bindArgs _ ⟨us, []⟩ = pure (List.zip _ us)) hl fun _ _ _ => rfl) fun f fd a F => ok_l_digits F T
  have H_l_folk : ∀ base : Heap, DefI l.prog w K mg base 1 "_law_folk" ["_law_purse", "_law_most"] 0 (.lst .cl) FI_l_folk := fun base => d1.okI X G (fun _ _ _ _ _ _ us hl => len2 (P := fun us => bindArgs _ ⟨us, []⟩ = pure (List.zip _ us)) hl fun _ _ => rfl) fun f fd a F => ok_l_folk F T
  have H_l_divisor : ∀ base : Heap, DefOk l.prog w K mg base 1 "_law_divisor" ["_law_one", "_law_other"] (.cl) F_l_divisor := fun base => d2.ok X G (fun _ _ _ _ _ _ us hl => len2 (P := fun us => bindArgs _ ⟨us, []⟩ = pure (List.zip _ us)) hl fun _ _ => rfl) fun f fd a F => ok_l_divisor F T
  have H_l_fraction : ∀ base : Heap, DefI l.prog w K mg base 2 "_law_fraction" ["_law_purse"] 0 (.cl) FI_l_fraction := fun base => d3.okI X G (fun _ _ _ _ _ _ us hl => len1 (P := fun us => bindArgs _ ⟨us, []⟩ = pure (List.zip _ us)) hl fun _ => rfl) fun f fd a F => ok_l_fraction F T (H_l_divisor base)
  have H_p_fraction_text : ∀ base : Heap, DefOk l.prog w K mg base 1 "fraction_text" ["fraction"] (.cl) F_p_fraction_text := fun base => d4.ok X G (fun _ _ _ _ _ _ us hl => len1 (P := fun us => bindArgs _ ⟨us, []⟩ = pure (List.zip _ us)) hl fun _ => rfl) fun f fd a F => ok_p_fraction_text F T
  have H_p_folk_text : ∀ base : Heap, DefOk l.prog w K mg base 1 "folk_text" ["folk"] (.cl) F_p_folk_text := fun base => d5.ok X G (fun _ _ _ _ _ _ us hl => len1 (P := fun us => bindArgs _ ⟨us, []⟩ = pure (List.zip _ us)) hl fun _ => rfl) fun f fd a F => ok_p_folk_text F T
  have H_p_are_figures : ∀ base : Heap, DefOk l.prog w K mg base 1 "are_figures" ["text"] (.cl) F_p_are_figures := fun base => d6.ok X G (fun _ _ _ _ _ _ us hl => len1 (P := fun us => bindArgs _ ⟨us, []⟩ = pure (List.zip _ us)) hl fun _ => rfl) fun f fd a F => ok_p_are_figures F T  C_FIGURES
  have H_p_number_in : ∀ base : Heap, DefOk l.prog w K mg base 2 "number_in" ["word"] (.cl) F_p_number_in := fun base => d7.ok X G (fun _ _ _ _ _ _ us hl => len1 (P := fun us => bindArgs _ ⟨us, []⟩ = pure (List.zip _ us)) hl fun _ => rfl) fun f fd a F => ok_p_number_in F T (H_p_are_figures base)
  have H_p_numbers_in : ∀ base : Heap, DefOk l.prog w K mg base 3 "numbers_in" ["word", "sign"] (.cl) F_p_numbers_in := fun base => d8.ok X G (fun _ _ _ _ _ _ us hl => len2 (P := fun us => bindArgs _ ⟨us, []⟩ = pure (List.zip _ us)) hl fun _ _ => rfl) fun f fd a F => ok_p_numbers_in F T (H_p_number_in base)
  have H_p_one_in : ∀ base : Heap, DefOk l.prog w K mg base 4 "one_in" ["word"] (.cl) F_p_one_in := fun base => d9.ok X G (fun _ _ _ _ _ _ us hl => len1 (P := fun us => bindArgs _ ⟨us, []⟩ = pure (List.zip _ us)) hl fun _ => rfl) fun f fd a F => ok_p_one_in F T (H_p_numbers_in base)
  have H_p_read_folk : ∀ base : Heap, DefOk l.prog w K mg base 5 "read_folk" ["text"] (.lst .cl) F_p_read_folk := fun base => d10.ok X G (fun _ _ _ _ _ _ us hl => len1 (P := fun us => bindArgs _ ⟨us, []⟩ = pure (List.zip _ us)) hl fun _ => rfl) fun f fd a F => ok_p_read_folk F T (H_p_one_in base)
  have H_l_text : ∀ base : Heap, DefOk l.prog w K mg base 1 "_law_text" ["_law_folk_here"] (.cl) F_l_text := fun base => d11.ok X G (fun _ _ _ _ _ _ us hl => len1 (P := fun us => bindArgs _ ⟨us, []⟩ = pure (List.zip _ us)) hl fun _ => rfl) fun f fd a F => ok_l_text F T
  have H_l_whole : ∀ base : Heap, DefOk l.prog w K mg base 1 "_law_whole" ["_law_found"] (.cl) F_l_whole := fun base => d12.ok X G (fun _ _ _ _ _ _ us hl => len1 (P := fun us => bindArgs _ ⟨us, []⟩ = pure (List.zip _ us)) hl fun _ => rfl) fun f fd a F => ok_l_whole F T
  have H_l_folk_so : ∀ base : Heap, DefOk l.prog w K mg base 6 "_law_folk_so" ["_law_folk_here"] (.cl) F_l_folk_so := fun base => d13.ok X G (fun _ _ _ _ _ _ us hl => len1 (P := fun us => bindArgs _ ⟨us, []⟩ = pure (List.zip _ us)) hl fun _ => rfl) fun f fd a F => ok_l_folk_so F T (H_p_folk_text base) (H_p_read_folk base) (H_l_text base) (H_l_whole base)
  exact d14.law X G hfa (fun _ _ _ _ _ _ s v => .of_eq rfl) fun base f fd F => ok_law F T (H_l_digits base) (H_l_folk base) (H_l_fraction base) (H_p_fraction_text base) (H_l_folk_so base)
theorem lam0 : lamNames PySem.Challenge.rw_nearposts_k55_folk_written_and_read.prog = ([] : List Str) := by decide +kernel
theorem walk {l : PySem.W.OpenLaw} {q : Program} {loose : List Str} {XP : (Str → Option Value) → Heap → Prop} {YP : World → Heap → Prop} {d : DefRec} {K : Params → PySem.W.Frag} (hn : l.most = some 63) (hdf : d.params.defaults = []) (hq : ∀ y ∈ lamNames l.prog, ((recsOf q).find? fun e => e.name == y).isSome = true) (hTK : ∀ (w : World) (y : Str) (c p : Addr), y ∈ lamNames l.prog → PySem.W.tabIn (K w.params) y = some (c, p) → (K w.params).lookup p = none)
    (hY : ∀ (w : World) (h : Heap), YP w h → (K w.params).In h)
    (F : ∀ (w : World) (mg : Str → Option Value) (fa : Addr) (h : Heap), (K w.params).In h → h.Ns mainGlobals mg → mg d.name = some (.ref fa) →
      ∃ fd : FuncData, (∀ (s : Shared) (u : Value), BindsTo s fd ⟨[u], []⟩ [("_law_script", u)]) ∧ ∀ base : Heap, (K w.params).In base → base.Ns mainGlobals mg → FnOk l.prog w (K w.params) mg base CX0 7 fa fd ["_law_script"] (spR (K w.params) .cl F_law)) :
    PySem.W.WalkO q loose XP YP l.row.toRowW d [] (fun f vs => PySem.call f vs) :=
  L2.walk_ofT (n := 63) (k := 7) (x := "_law_script") (CX := fun _ => CX0) (sp := fun w => spR (K w.params) .cl F_law) hn (by decide) hdf ⟨rfl, by decide, by decide⟩ hY hq hTK F (fun _ H a ns hl hS => ⟨fun _ => False, [.list (ns.map .int)], .bool true, fun _ z => z.elim, by rw [del_false]; exact .cons (.lst hS (DenL.ints ns)) .nil, main ns hl, fun v as H' _ _ D => den_bl D.den⟩) fun _ _ _ _ _ z => z
end NW
open PySem PySem.W PyProof.Rows
set_option maxRecDepth 100000 in
set_option maxHeartbeats 0 in
theorem PySem.Challenge.cw_nearposts_k55_folk_written_and_read_holds : PySem.Challenge.rw_nearposts_k55_folk_written_and_read.Holds := by
  w_on; o_law; k_head; (case hw => w_witness2)
  k_fill
  refine NW.walk (l := PySem.Challenge.rw_nearposts_k55_folk_written_and_read) rfl rfl ?Q ?K (fun w h Y => PySem.W.kIn_of Y) ?F
  case Q => exact L2.lam_q (by rw [NW.lam0]; kernel_rfl)
  case K => exact fun w => L2.lam_k (by rw [NW.lam0]; kernel_rfl)
  case F =>
    intro w mg fa h KX G hmg
    refine' NW.all_mk KX G hmg ?c_FIGURES ?d0 ?d1 ?d2 ?d3 ?d4 ?d5 ?d6 ?d7 ?d8 ?d9 ?d10 ?d11 ?d12 ?d13 ?d14 ?z_all
    (case c_FIGURES => refine' L2.TxtAt.of ?ct; (case ct => k_is))
    (case d0 => refine' L2.FnAt.mk _ _ ?a (L2.fun_mk ?l ?c ?k); (case a => k_is); (case l => k_is); (case c => k_is); (case k => k_is))
    (case d1 => refine' L2.FnAt.mk _ _ ?a (L2.fun_mk ?l ?c ?k); (case a => k_is); (case l => k_is); (case c => k_is); (case k => k_is))
    (case d2 => refine' L2.FnAt.mk _ _ ?a (L2.fun_mk ?l ?c ?k); (case a => k_is); (case l => k_is); (case c => k_is); (case k => k_is))
    (case d3 => refine' L2.FnAt.mk _ _ ?a (L2.fun_mk ?l ?c ?k); (case a => k_is); (case l => k_is); (case c => k_is); (case k => k_is))
    (case d4 => refine' L2.FnAt.mk _ _ ?a (L2.fun_mk ?l ?c ?k); (case a => k_is); (case l => k_is); (case c => k_is); (case k => k_is))
    (case d5 => refine' L2.FnAt.mk _ _ ?a (L2.fun_mk ?l ?c ?k); (case a => k_is); (case l => k_is); (case c => k_is); (case k => k_is))
    (case d6 => refine' L2.FnAt.mk _ _ ?a (L2.fun_mk ?l ?c ?k); (case a => k_is); (case l => k_is); (case c => k_is); (case k => k_is))
    (case d7 => refine' L2.FnAt.mk _ _ ?a (L2.fun_mk ?l ?c ?k); (case a => k_is); (case l => k_is); (case c => k_is); (case k => k_is))
    (case d8 => refine' L2.FnAt.mk _ _ ?a (L2.fun_mk ?l ?c ?k); (case a => k_is); (case l => k_is); (case c => k_is); (case k => k_is))
    (case d9 => refine' L2.FnAt.mk _ _ ?a (L2.fun_mk ?l ?c ?k); (case a => k_is); (case l => k_is); (case c => k_is); (case k => k_is))
    (case d10 => refine' L2.FnAt.mk _ _ ?a (L2.fun_mk ?l ?c ?k); (case a => k_is); (case l => k_is); (case c => k_is); (case k => k_is))
    (case d11 => refine' L2.FnAt.mk _ _ ?a (L2.fun_mk ?l ?c ?k); (case a => k_is); (case l => k_is); (case c => k_is); (case k => k_is))
    (case d12 => refine' L2.FnAt.mk _ _ ?a (L2.fun_mk ?l ?c ?k); (case a => k_is); (case l => k_is); (case c => k_is); (case k => k_is))
    (case d13 => refine' L2.FnAt.mk _ _ ?a (L2.fun_mk ?l ?c ?k); (case a => k_is); (case l => k_is); (case c => k_is); (case k => k_is))
    (case d14 => refine' L2.FnAt.mk _ _ ?a (L2.fun_mk ?l ?c ?k); (case a => k_is); (case l => k_is); (case c => k_is); (case k => k_is))
    (case z_all => kernel_rfl)
