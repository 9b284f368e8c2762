/-
  Lists of numbers in memory: a slice that is read, and a slice of the program's own.
-/
import Derived.Test.YtogciehmdlfkfaaGreatDoorGN
import Derived.Maps.AppendAt
namespace Go.Proofs.YtogciehmdlfkfaaGreatDoor
open Go.RowKit Nd

/-- The numbers xs can be read one behind the other from A on; nothing is asked of A if there are none. -/
def Rds (w : World) (A : Option Addr) (xs : List Q3) : Prop :=
  0 < xs.length → ∃ g o, A = some ⟨g, o, none⟩ ∧ g < w.heap.size ∧ ∀ j, j < xs.length →
    w.cell? ⟨g, o + j * 3, none⟩ = some (.bool (xs.getD j q0).neg) ∧ w.cell? ⟨g, o + j * 3 + 1, none⟩ = some (.string (xs.getD j q0).num) ∧ w.cell? ⟨g, o + j * 3 + 2, none⟩ = some (.string (xs.getD j q0).den)
/-- The block that a slice lies in is none of gs. -/
def Off (gs : List Nat) (A : Option Addr) : Prop := ∀ a, A = some a → a.block ∉ gs
theorem Off.nil (A : Option Addr) : Off [] A := fun _ _ h => by cases h
theorem Rds.nil (w : World) (A : Option Addr) : Rds w A [] := fun h => absurd h (by simp)
theorem Rds.keep {gs : List Nat} {w w' : World} {A : Option Addr} {xs : List Q3} (h : Rds w A xs) (hc : Chg gs w w') (hg : Off gs A) : Rds w' A xs := by
  intro hl
  obtain ⟨g, o, rfl, hlt, hcell⟩ := h hl
  have hn : g ∉ gs := hg _ rfl
  refine ⟨g, o, rfl, Nat.lt_of_lt_of_le hlt hc.size, fun j hj => ?_⟩
  obtain ⟨a, b, c⟩ := hcell j hj
  exact ⟨(hc.cell (p := ⟨g, _, none⟩) hlt hn).trans a, (hc.cell (p := ⟨g, _, none⟩) hlt hn).trans b, (hc.cell (p := ⟨g, _, none⟩) hlt hn).trans c⟩
theorem Rds.keep0 {w w' : World} {A : Option Addr} {xs : List Q3} (h : Rds w A xs) (hc : Chg [] w w') : Rds w' A xs := h.keep hc (Off.nil A)
theorem getD_take (xs : List Q3) {k j : Nat} (h : j < k) : (xs.take k).getD j q0 = xs.getD j q0 := by
  simp [List.getD_eq_getElem?_getD, h]
theorem getD_drop (xs : List Q3) (k j : Nat) : (xs.drop k).getD j q0 = xs.getD (k + j) q0 := by
  simp [List.getD_eq_getElem?_getD, List.getElem?_drop]
theorem Rds.take {w : World} {A : Option Addr} {xs : List Q3} (h : Rds w A xs) (k : Nat) : Rds w A (xs.take k) := by
  intro hl
  have hl2 : (xs.take k).length ≤ xs.length := by rw [List.length_take]; omega
  obtain ⟨g, o, rfl, hlt, hcell⟩ := h (by omega)
  refine ⟨g, o, rfl, hlt, fun j hj => ?_⟩
  rw [getD_take xs (by rw [List.length_take] at hj; omega)]
  exact hcell j (by omega)
theorem Rds.drop {w : World} {g o : Nat} {xs : List Q3} (h : Rds w (some ⟨g, o, none⟩) xs) (k : Nat) : Rds w (some ⟨g, o + k * 3, none⟩) (xs.drop k) := by
  intro hl
  rw [List.length_drop] at hl
  obtain ⟨g', o', he, hlt, hcell⟩ := h (by omega)
  simp only [Option.some.injEq, Addr.mk.injEq, and_true] at he
  obtain ⟨rfl, rfl⟩ := he
  refine ⟨g, o + k * 3, rfl, hlt, fun j hj => ?_⟩
  rw [List.length_drop] at hj
  rw [getD_drop, show o + k * 3 + j * 3 = o + (k + j) * 3 by omega]
  exact hcell (k + j) (by omega)
theorem Rds.at_ {w : World} {g o : Nat} {xs : List Q3} (h : Rds w (some ⟨g, o, none⟩) xs) {j : Nat} (hj : j < xs.length) :
    g < w.heap.size ∧ w.cell? ⟨g, o + j * 3, none⟩ = some (.bool (xs.getD j q0).neg) ∧ w.cell? ⟨g, o + j * 3 + 1, none⟩ = some (.string (xs.getD j q0).num) ∧ w.cell? ⟨g, o + j * 3 + 2, none⟩ = some (.string (xs.getD j q0).den) := by
  obtain ⟨g', o', he, hlt, hcell⟩ := h (by omega)
  simp only [Option.some.injEq, Addr.mk.injEq, and_true] at he
  obtain ⟨rfl, rfl⟩ := he
  exact ⟨hlt, hcell j hj⟩
theorem Rds.form {w : World} {A : Option Addr} {xs : List Q3} (h : Rds w A xs) (hl : 0 < xs.length) : ∃ g o, A = some ⟨g, o, none⟩ ∧ g < w.heap.size := by
  obtain ⟨g, o, e, hlt, _⟩ := h hl
  exact ⟨g, o, e, hlt⟩
theorem Rds.of_rats {w : World} {g : Nat} {xs : List Q3} (h : Rats w g xs) : Rds w (some ⟨g, 0, none⟩) xs := fun _ => ⟨g, 0, rfl, h.lt, fun j hj => by simpa using h.cells j hj⟩

/-- The cells of numbers one behind the other. -/
def cq : List Q3 → List Value
  | [] => []
  | x :: xs => .bool x.neg :: .string x.num :: .string x.den :: cq xs
theorem cq_length : ∀ xs : List Q3, (cq xs).length = xs.length * 3
  | [] => rfl
  | x :: xs => by simp only [cq, List.length_cons, cq_length xs]; omega
theorem cq_append : ∀ xs ys : List Q3, cq (xs ++ ys) = cq xs ++ cq ys
  | [], _ => rfl
  | x :: xs, ys => by simp only [List.cons_append, cq, cq_append xs ys]
theorem cq_one : ∀ (xs : List Q3), ∀ u ∈ cq xs, u.oneCell' = true
  | [], u, h => by cases h
  | x :: xs, u, h => by
    simp only [cq, List.mem_cons] at h
    rcases h with rfl | rfl | rfl | h
    · rfl
    · rfl
    · rfl
    · exact cq_one xs u h
theorem cq_get : ∀ (xs : List Q3) (j : Nat), j < xs.length → (cq xs)[j * 3]? = some (.bool (xs.getD j q0).neg) ∧ (cq xs)[j * 3 + 1]? = some (.string (xs.getD j q0).num) ∧ (cq xs)[j * 3 + 2]? = some (.string (xs.getD j q0).den)
  | [], j, h => absurd h (by simp)
  | x :: xs, 0, _ => by simp [cq]
  | x :: xs, j + 1, h => by
    have := cq_get xs j (by simpa using h)
    rw [show (j + 1) * 3 = j * 3 + 3 by omega]
    simp only [cq, List.getElem?_cons_succ, List.getD_cons_succ, show j * 3 + 3 + 1 = j * 3 + 1 + 3 by omega, show j * 3 + 3 + 2 = j * 3 + 2 + 3 by omega]
    exact this
theorem cq_three {xs : List Q3} {i : Nat} {u : Value} (h : (cq xs)[i]? = some u) : ∃ j r, i = j * 3 + r ∧ r < 3 ∧ j < xs.length := by
  have hl : i < (cq xs).length := by
    rcases Nat.lt_or_ge i (cq xs).length with h1 | h1
    · exact h1
    · rw [List.getElem?_eq_none h1] at h; cases h
  rw [cq_length] at hl
  exact ⟨i / 3, i % 3, by omega, by omega, by omega⟩
/-- What Rds says, by cells. -/
theorem Rds.cells {w : World} {g o : Nat} {xs : List Q3} (h : Rds w (some ⟨g, o, none⟩) xs) : ∀ i u, (cq xs)[i]? = some u → w.cell? ((⟨g, o, none⟩ : Addr).add i) = some u := by
  intro i u hu
  obtain ⟨j, r, rfl, hr, hj⟩ := cq_three hu
  obtain ⟨_, a, b, c⟩ := h.at_ hj
  obtain ⟨x, y, z⟩ := cq_get xs j hj
  have ha : ∀ n, (⟨g, o, none⟩ : Addr).add n = ⟨g, o + n, none⟩ := by
    intro n; unfold Addr.add; split
    · subst n; rfl
    · rfl
  rw [ha]
  rcases (by omega : r = 0 ∨ r = 1 ∨ r = 2) with rfl | rfl | rfl
  · rw [Nat.add_zero] at hu ⊢; rw [x] at hu; rw [a]; exact hu
  · rw [y] at hu; rw [← Nat.add_assoc, b]; exact hu
  · rw [z] at hu; rw [← Nat.add_assoc, c]; exact hu
theorem Rds.of_cells {w : World} {g o : Nat} {xs : List Q3} (hlt : g < w.heap.size) (h : ∀ i u, (cq xs)[i]? = some u → w.cell? ((⟨g, o, none⟩ : Addr).add i) = some u) : Rds w (some ⟨g, o, none⟩) xs := by
  intro _
  refine ⟨g, o, rfl, hlt, fun j hj => ?_⟩
  have ha : ∀ n, (⟨g, o, none⟩ : Addr).add n = ⟨g, o + n, none⟩ := by
    intro n; unfold Addr.add; split
    · subst n; rfl
    · rfl
  obtain ⟨x, y, z⟩ := cq_get xs j hj
  refine ⟨?_, ?_, ?_⟩
  · have := h _ _ x; rwa [ha] at this
  · have := h _ _ y; rwa [ha, ← Nat.add_assoc] at this
  · have := h _ _ z; rwa [ha, ← Nat.add_assoc] at this

/-- A slice of the program's own (nil, or from the head of a block on) that holds the numbers xs. -/
def Own3 (w : World) (v : Value) (xs : List Q3) : Prop := w.ownsRow 0 25 3 v xs.length (cq xs)
theorem Own3.nil (w : World) : Own3 w (.slice none 0 0) [] := World.ownsRow_nil _ _ _ _
theorem Own3.form {w : World} {v : Value} {xs : List Q3} (h : Own3 w v xs) : (v = .slice none 0 0 ∧ xs = []) ∨ ∃ g cap, v = .slice (some ⟨g, 0, none⟩) xs.length cap ∧ g < w.heap.size ∧ xs.length ≤ cap ∧ cap ≤ 9223372036854775807 ∧ Rds w (some ⟨g, 0, none⟩) xs := by
  have h0 := h
  rcases h.2 with ⟨rfl, h1⟩ | ⟨g, cap, cur, rfl, hb, hgg, h1, h2, _⟩
  · refine .inl ⟨rfl, ?_⟩
    have := cq_length xs
    rw [h1] at this
    exact List.eq_nil_of_length_eq_zero (by simp at this; omega)
  · have hlt := (World.ownsRow.lt h0 g rfl).2
    exact .inr ⟨g, cap, rfl, hlt, h1, by simpa [maxLen] using h2, Rds.of_cells hlt (World.ownsRow.cells h0 rfl)⟩
theorem Own3.rds {w : World} {v : Value} {xs : List Q3} (h : Own3 w v xs) : ∃ A cap, v = .slice A xs.length cap ∧ xs.length ≤ cap ∧ cap ≤ 9223372036854775807 ∧ Rds w A xs := by
  rcases h.form with ⟨rfl, rfl⟩ | ⟨g, cap, rfl, _, h1, h2, h3⟩
  · exact ⟨none, 0, rfl, Nat.le_refl _, by omega, Rds.nil _ _⟩
  · exact ⟨_, cap, rfl, h1, h2, h3⟩
/-- The own block of a slice value, if it has one, is none of gs. -/
def OffV (gs : List Nat) (v : Value) : Prop := ∀ g, v.ownBlock = some g → g ∉ gs
theorem OffV.nil (v : Value) : OffV [] v := fun _ _ h => by cases h
theorem Own3.keep {gs : List Nat} {w w' : World} {v : Value} {xs : List Q3} (h : Own3 w v xs) (hc : Chg gs w w') (hg : OffV gs v) : Own3 w' v xs := by
  have h0 := h
  refine ⟨h.1, ?_⟩
  rcases h.2 with h1 | ⟨g, cap, cur, rfl, hb, hgg, rest⟩
  · exact .inl h1
  · have hlt := (World.ownsRow.lt h0 g rfl).2
    have hn : g ∉ gs := hg g rfl
    exact .inr ⟨g, cap, cur, rfl, hb, (hc.block g hlt hn).trans hgg, rest⟩
theorem Own3.keep0 {w w' : World} {v : Value} {xs : List Q3} (h : Own3 w v xs) (hc : Chg [] w w') : Own3 w' v xs := h.keep hc (OffV.nil v)

theorem Tryz.infoRat : (Tryz.prog.info? 25).map (fun i => (i.zero, i.size, i.bytes)) = some (some (.agg #[.bool false, .string ⟨#[]⟩, .string ⟨#[]⟩]), 3, 40) := by kernel_rfl
section
variable (w : World)
end

end Go.Proofs.YtogciehmdlfkfaaGreatDoor
