/-
  Lists of 3 numbers each, that are read.
-/
import Derived.Test.YtkdcffcgedhllaaV21
namespace Go.Proofs.Ytkdcffcgedhllaa
open Go.RowKit Nd

structure T3 where
  a : Int
  b : Int
  c : Int
def t30 : T3 := ⟨0, 0, 0⟩
/-- The numbers are of their kind. -/
structure InT3 (x : T3) : Prop where
  a1 : 0 ≤ x.a
  a2 : x.a ≤ 65535
  b1 : 0 ≤ x.b
  b2 : x.b ≤ 65535
  c1 : 0 ≤ x.c
  c2 : x.c ≤ 65535
structure CT3 (w : World) (g o : Nat) (s : T3) : Prop where
  c0 : w.cell? ⟨g, o, none⟩ = some (.int .u16 s.a)
  c1 : w.cell? ⟨g, o + 1, none⟩ = some (.int .u16 s.b)
  c2 : w.cell? ⟨g, o + 2, none⟩ = some (.int .u16 s.c)
  l : g < w.heap.size
theorem CT3.keep {gs : List Nat} {w w' : World} {g o : Nat} {s : T3} (h : CT3 w g o s) (hc : Chg gs w w') (hg : g ∉ gs) : CT3 w' g o s :=
  ⟨(hc.cell (p := ⟨g, _, none⟩) h.l hg).trans h.c0, (hc.cell (p := ⟨g, _, none⟩) h.l hg).trans h.c1, (hc.cell (p := ⟨g, _, none⟩) h.l hg).trans h.c2, Nat.lt_of_lt_of_le h.l hc.size⟩
theorem CT3.keep0 {w w' : World} {g o : Nat} {s : T3} (h : CT3 w g o s) (hc : Chg [] w w') : CT3 w' g o s := h.keep hc (by simp)
def ST3 (w : World) (A : Option Addr) (xs : List T3) : Prop :=
  0 < xs.length → ∃ g o, A = some ⟨g, o, none⟩ ∧ g < w.heap.size ∧ ∀ j, j < xs.length → CT3 w g (o + j * 3) (xs.getD j t30)
theorem ST3.nil (w : World) (A : Option Addr) : ST3 w A [] := fun h => absurd h (by simp)
theorem ST3.keep {gs : List Nat} {w w' : World} {A : Option Addr} {xs : List T3} (h : ST3 w A xs) (hc : Chg gs w w') (hg : Off gs A) : ST3 w' A xs := by
  intro hl
  obtain ⟨g, o, rfl, hlt, hcell⟩ := h hl
  exact ⟨g, o, rfl, Nat.lt_of_lt_of_le hlt hc.size, fun j hj => (hcell j hj).keep hc (hg _ rfl)⟩
theorem ST3.keep0 {w w' : World} {A : Option Addr} {xs : List T3} (h : ST3 w A xs) (hc : Chg [] w w') : ST3 w' A xs := h.keep hc (Off.nil A)
theorem ST3.keepL {gs : List Nat} {w w' : World} {A : Option Addr} {xs : List T3} {N : Nat} (h : ST3 w A xs) (hlow : 0 < xs.length → ∃ g o, A = some ⟨g, o, none⟩ ∧ g < N) (hc : Chg gs w w') (hg : ∀ x ∈ gs, N ≤ x) : ST3 w' A xs := by
  intro hl
  obtain ⟨g, o, e, hlt⟩ := hlow hl
  exact h.keep hc (by intro a ha hm; rw [e] at ha; cases ha; have := hg _ hm; dsimp only at this; omega) hl
theorem ST3.form {w : World} {A : Option Addr} {xs : List T3} (h : ST3 w A xs) (hl : 0 < xs.length) : ∃ g o, A = some ⟨g, o, none⟩ ∧ g < w.heap.size := by
  obtain ⟨g, o, e, hlt, _⟩ := h hl
  exact ⟨g, o, e, hlt⟩
theorem ST3.at_ {w : World} {g o : Nat} {xs : List T3} (h : ST3 w (some ⟨g, o, none⟩) xs) {j : Nat} (hj : j < xs.length) : CT3 w g (o + j * 3) (xs.getD j t30) := by
  obtain ⟨g', o', he, hlt, hcell⟩ := h (by omega)
  simp only [Option.some.injEq, Addr.mk.injEq, and_true] at he
  obtain ⟨rfl, rfl⟩ := he
  exact hcell j hj
theorem memT3 {l : List T3} {j : Nat} (h : j < l.length) : l.getD j t30 ∈ l := by
  rw [List.getD_eq_getElem?_getD, List.getElem?_eq_getElem h, Option.getD_some]; exact List.getElem_mem _
end Go.Proofs.Ytkdcffcgedhllaa
