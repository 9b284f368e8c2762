/-
  Qt: a struct of 5 cells in memory: a box, a slice that is read, a slice of the program's own.
-/
import Derived.Test.YtogciehmdlfkfaaGreatDoorV21
namespace Go.Proofs.YtogciehmdlfkfaaGreatDoor
open Go.RowKit Nd

structure Qt where
  cd : ByteArray
  dy : Int
  rt : Q3
def qt0 : Qt := ⟨⟨#[]⟩, 0, q0⟩
abbrev Qt.val (s : Qt) : Value := .agg #[.string s.cd, .int .i64 s.dy, .bool s.rt.neg, .string s.rt.num, .string s.rt.den]

structure BlkQt (w : World) (g : Nat) (v0 v1 v2 v3 v4 : Value) : Prop where
  c0 : w.cell? ⟨g, 0, none⟩ = some v0
  c1 : w.cell? ⟨g, 1, none⟩ = some v1
  c2 : w.cell? ⟨g, 2, none⟩ = some v2
  c3 : w.cell? ⟨g, 3, none⟩ = some v3
  c4 : w.cell? ⟨g, 4, none⟩ = some v4
  f0 : w.frozen? ⟨g, 0, none⟩ = false
  f1 : w.frozen? ⟨g, 1, none⟩ = false
  f2 : w.frozen? ⟨g, 2, none⟩ = false
  f3 : w.frozen? ⟨g, 3, none⟩ = false
  f4 : w.frozen? ⟨g, 4, none⟩ = false
  lt : g < w.heap.size
theorem BlkQt.alloc (w : World) (v0 v1 v2 v3 v4 : Value) (e : TypeId) : BlkQt (w.alloc (.cells #[v0, v1, v2, v3, v4] e)) w.heap.size v0 v1 v2 v3 v4 := by
  constructor <;> simp
theorem BlkQt.keep {gs : List Nat} {w w' : World} {g : Nat} {v0 v1 v2 v3 v4 : Value} (h : BlkQt w g v0 v1 v2 v3 v4) (hc : Chg gs w w') (hg : g ∉ gs) : BlkQt w' g v0 v1 v2 v3 v4 := by
  have hl := h.lt
  refine ⟨(hc.cell hl hg).trans h.c0, (hc.cell hl hg).trans h.c1, (hc.cell hl hg).trans h.c2, (hc.cell hl hg).trans h.c3, (hc.cell hl hg).trans h.c4, ?_, ?_, ?_, ?_, ?_, Nat.lt_of_lt_of_le hl hc.size⟩
  · exact (World.frozen?_of_block (hc.block _ hl hg)).trans h.f0
  · exact (World.frozen?_of_block (hc.block _ hl hg)).trans h.f1
  · exact (World.frozen?_of_block (hc.block _ hl hg)).trans h.f2
  · exact (World.frozen?_of_block (hc.block _ hl hg)).trans h.f3
  · exact (World.frozen?_of_block (hc.block _ hl hg)).trans h.f4
theorem BlkQt.keep0 {w w' : World} {g : Nat} {v0 v1 v2 v3 v4 : Value} (h : BlkQt w g v0 v1 v2 v3 v4) (hc : Chg [] w w') : BlkQt w' g v0 v1 v2 v3 v4 := h.keep hc (by simp)

structure CQt (w : World) (g o : Nat) (s : Qt) : Prop where
  c0 : w.cell? ⟨g, o, none⟩ = some (.string s.cd)
  c1 : w.cell? ⟨g, o + 1, none⟩ = some (.int .i64 s.dy)
  c2 : w.cell? ⟨g, o + 2, none⟩ = some (.bool s.rt.neg)
  c3 : w.cell? ⟨g, o + 3, none⟩ = some (.string s.rt.num)
  c4 : w.cell? ⟨g, o + 4, none⟩ = some (.string s.rt.den)
  l : g < w.heap.size
theorem CQt.keep {gs : List Nat} {w w' : World} {g o : Nat} {s : Qt} (h : CQt w g o s) (hc : Chg gs w w') (hg : g ∉ gs) : CQt w' g o s :=
  ⟨(hc.cell (p := ⟨g, _, none⟩) h.l hg).trans h.c0, (hc.cell (p := ⟨g, _, none⟩) h.l hg).trans h.c1, (hc.cell (p := ⟨g, _, none⟩) h.l hg).trans h.c2, (hc.cell (p := ⟨g, _, none⟩) h.l hg).trans h.c3, (hc.cell (p := ⟨g, _, none⟩) h.l hg).trans h.c4, Nat.lt_of_lt_of_le h.l hc.size⟩
theorem CQt.keep0 {w w' : World} {g o : Nat} {s : Qt} (h : CQt w g o s) (hc : Chg [] w w') : CQt w' g o s := h.keep hc (by simp)
def SQt (w : World) (A : Option Addr) (xs : List Qt) : Prop :=
  0 < xs.length → ∃ g o, A = some ⟨g, o, none⟩ ∧ g < w.heap.size ∧ ∀ j, j < xs.length → CQt w g (o + j * 5) (xs.getD j qt0)
theorem SQt.nil (w : World) (A : Option Addr) : SQt w A [] := fun h => absurd h (by simp)
theorem SQt.keep {gs : List Nat} {w w' : World} {A : Option Addr} {xs : List Qt} (h : SQt w A xs) (hc : Chg gs w w') (hg : Off gs A) : SQt w' A xs := by
  intro hl
  obtain ⟨g, o, rfl, hlt, hcell⟩ := h hl
  exact ⟨g, o, rfl, Nat.lt_of_lt_of_le hlt hc.size, fun j hj => (hcell j hj).keep hc (hg _ rfl)⟩
theorem SQt.keep0 {w w' : World} {A : Option Addr} {xs : List Qt} (h : SQt w A xs) (hc : Chg [] w w') : SQt w' A xs := h.keep hc (Off.nil A)
theorem SQt.keepL {gs : List Nat} {w w' : World} {A : Option Addr} {xs : List Qt} {N : Nat} (h : SQt w A xs) (hlow : 0 < xs.length → ∃ g o, A = some ⟨g, o, none⟩ ∧ g < N) (hc : Chg gs w w') (hg : ∀ x ∈ gs, N ≤ x) : SQt w' A xs := by
  intro hl
  obtain ⟨g, o, e, hlt⟩ := hlow hl
  exact h.keep hc (by intro a ha hm; rw [e] at ha; cases ha; have := hg _ hm; dsimp only at this; omega) hl
theorem SQt.form {w : World} {A : Option Addr} {xs : List Qt} (h : SQt w A xs) (hl : 0 < xs.length) : ∃ g o, A = some ⟨g, o, none⟩ ∧ g < w.heap.size := by
  obtain ⟨g, o, e, hlt, _⟩ := h hl
  exact ⟨g, o, e, hlt⟩
theorem SQt.at_ {w : World} {g o : Nat} {xs : List Qt} (h : SQt w (some ⟨g, o, none⟩) xs) {j : Nat} (hj : j < xs.length) : CQt w g (o + j * 5) (xs.getD j qt0) := by
  obtain ⟨g', o', he, hlt, hcell⟩ := h (by omega)
  simp only [Option.some.injEq, Addr.mk.injEq, and_true] at he
  obtain ⟨rfl, rfl⟩ := he
  exact hcell j hj
theorem SQt.st3 {w : World} {g o k : Nat} {xs : List Qt} (h : SQt w (some ⟨g, o, none⟩) xs) (hk : g ≠ k) (x y z : Value) : SQt (((w.setCell ⟨k, 0, none⟩ x).setCell ⟨k, 1, none⟩ y).setCell ⟨k, 2, none⟩ z) (some ⟨g, o, none⟩) xs :=
  h.keep ((Chg.refl [k] w).store3 (.inl (by simp)) x y z) (by intro a ha; cases ha; simpa using hk)
theorem SQt.take {w : World} {A : Option Addr} {xs : List Qt} (h : SQt w A xs) (k : Nat) : SQt w A (xs.take k) := by
  intro hl
  obtain ⟨g, o, e, hlt, hc⟩ := h (by rw [List.length_take] at hl; omega)
  refine ⟨g, o, e, hlt, fun j hj => ?_⟩
  rw [List.length_take] at hj
  have hg : (xs.take k).getD j qt0 = xs.getD j qt0 := by
    rw [List.getD_eq_getElem?_getD, List.getD_eq_getElem?_getD, List.getElem?_take_of_lt (by omega)]
  rw [hg]; exact hc j (by omega)
theorem memQt {l : List Qt} {j : Nat} (h : j < l.length) : l.getD j qt0 ∈ l := by
  rw [List.getD_eq_getElem?_getD, List.getElem?_eq_getElem h, Option.getD_some]; exact List.getElem_mem _
theorem take_snocQt (xs : List Qt) (k : Nat) (h : k < xs.length) : xs.take (k + 1) = xs.take k ++ [xs.getD k qt0] := by
  rw [List.take_add_one, List.getD_eq_getElem?_getD, List.getElem?_eq_getElem h]; rfl
theorem snoc_getQt (xs : List Qt) (s : Qt) (j : Nat) : (xs ++ [s]).getD j qt0 = if j < xs.length then xs.getD j qt0 else if j = xs.length then s else qt0 := by
  rw [List.getD_eq_getElem?_getD, List.getD_eq_getElem?_getD]
  split
  · rename_i h; rw [List.getElem?_append_left h]
  · rename_i h
    split
    · rename_i h2; subst h2; rw [List.getElem?_append_right (Nat.le_refl _), Nat.sub_self]; rfl
    · rename_i h2
      rw [List.getElem?_eq_none (by simp; omega)]; rfl

/-- The cells of elements one behind the other. -/
def csQt : List Qt → List Value
  | [] => []
  | x :: xs => .string x.cd :: .int .i64 x.dy :: .bool x.rt.neg :: .string x.rt.num :: .string x.rt.den :: csQt xs
theorem csQt_length : ∀ xs : List Qt, (csQt xs).length = xs.length * 5
  | [] => rfl
  | x :: xs => by simp only [csQt, List.length_cons, csQt_length xs]; omega
theorem csQt_append : ∀ xs ys : List Qt, csQt (xs ++ ys) = csQt xs ++ csQt ys
  | [], _ => rfl
  | x :: xs, ys => by simp only [List.cons_append, csQt, csQt_append xs ys]
theorem csQt_one : ∀ (xs : List Qt), ∀ u ∈ csQt xs, u.oneCell' = true
  | [], u, h => by cases h
  | x :: xs, u, h => by
    simp only [csQt, List.mem_cons] at h
    rcases h with rfl | rfl | rfl | rfl | rfl | h
    · rfl
    · rfl
    · rfl
    · rfl
    · rfl
    · exact csQt_one xs u h
theorem csQt_get : ∀ (xs : List Qt) (j : Nat), j < xs.length → (csQt xs)[j * 5]? = some (.string (xs.getD j qt0).cd) ∧ (csQt xs)[j * 5 + 1]? = some (.int .i64 (xs.getD j qt0).dy) ∧ (csQt xs)[j * 5 + 2]? = some (.bool (xs.getD j qt0).rt.neg) ∧ (csQt xs)[j * 5 + 3]? = some (.string (xs.getD j qt0).rt.num) ∧ (csQt xs)[j * 5 + 4]? = some (.string (xs.getD j qt0).rt.den)
  | [], j, h => absurd h (by simp)
  | x :: xs, 0, _ => by simp [csQt]
  | x :: xs, j + 1, h => by
    have := csQt_get xs j (by simpa using h)
    rw [show (j + 1) * 5 = j * 5 + 5 by omega]
    simp only [csQt, List.getElem?_cons_succ, List.getD_cons_succ, show j * 5 + 5 + 1 = j * 5 + 1 + 5 by omega, show j * 5 + 5 + 2 = j * 5 + 2 + 5 by omega, show j * 5 + 5 + 3 = j * 5 + 3 + 5 by omega, show j * 5 + 5 + 4 = j * 5 + 4 + 5 by omega]
    exact this
theorem csQt_split {xs : List Qt} {i : Nat} {u : Value} (h : (csQt xs)[i]? = some u) : ∃ j r, i = j * 5 + r ∧ r < 5 ∧ j < xs.length := by
  have hl : i < (csQt xs).length := by
    rcases Nat.lt_or_ge i (csQt xs).length with h1 | h1
    · exact h1
    · rw [List.getElem?_eq_none h1] at h; cases h
  rw [csQt_length] at hl
  exact ⟨i / 5, i % 5, by omega, by omega, by omega⟩
theorem add_atQt (g o n : Nat) : (⟨g, o, none⟩ : Addr).add n = ⟨g, o + n, none⟩ := by
  unfold Addr.add; split
  · subst n; rfl
  · rfl
theorem SQt.cells {w : World} {g o : Nat} {xs : List Qt} (h : SQt w (some ⟨g, o, none⟩) xs) : ∀ i u, (csQt xs)[i]? = some u → w.cell? ((⟨g, o, none⟩ : Addr).add i) = some u := by
  intro i u hu
  obtain ⟨j, r, rfl, hr, hj⟩ := csQt_split hu
  obtain ⟨a0, a1, a2, a3, a4, _⟩ := h.at_ hj
  obtain ⟨x0, x1, x2, x3, x4⟩ := csQt_get xs j hj
  rw [add_atQt]
  rcases (by omega : r = 0 ∨ r = 1 ∨ r = 2 ∨ r = 3 ∨ r = 4) with rfl | rfl | rfl | rfl | rfl
  · rw [Nat.add_zero] at hu ⊢; rw [x0] at hu; rw [a0]; exact hu
  · rw [x1] at hu; rw [← Nat.add_assoc, a1]; exact hu
  · rw [x2] at hu; rw [← Nat.add_assoc, a2]; exact hu
  · rw [x3] at hu; rw [← Nat.add_assoc, a3]; exact hu
  · rw [x4] at hu; rw [← Nat.add_assoc, a4]; exact hu
theorem SQt.of_cells {w : World} {g o : Nat} {xs : List Qt} (hlt : g < w.heap.size) (h : ∀ i u, (csQt xs)[i]? = some u → w.cell? ((⟨g, o, none⟩ : Addr).add i) = some u) : SQt w (some ⟨g, o, none⟩) xs := by
  intro _
  refine ⟨g, o, rfl, hlt, fun j hj => ?_⟩
  obtain ⟨x0, x1, x2, x3, x4⟩ := csQt_get xs j hj
  refine ⟨?_, ?_, ?_, ?_, ?_, hlt⟩
  · have := h _ _ x0; rwa [add_atQt] at this
  · have := h _ _ x1; rwa [add_atQt, ← Nat.add_assoc] at this
  · have := h _ _ x2; rwa [add_atQt, ← Nat.add_assoc] at this
  · have := h _ _ x3; rwa [add_atQt, ← Nat.add_assoc] at this
  · have := h _ _ x4; rwa [add_atQt, ← Nat.add_assoc] at this
section
variable (w : World)
end
end Go.Proofs.YtogciehmdlfkfaaGreatDoor
