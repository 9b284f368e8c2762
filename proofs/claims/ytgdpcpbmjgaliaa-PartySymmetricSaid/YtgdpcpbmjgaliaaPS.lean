/-
  Stk: a struct of 5 cells in memory: a box, a slice that is read, a slice of the program's own.
-/
import Derived.Test.YtgdpcpbmjgaliaaV21
namespace Go.Proofs.Ytgdpcpbmjgaliaa
open Go.RowKit Nd

structure Stk where
  ow : Int
  co : Int
  vt : Q3
def stk0 : Stk := ⟨0, 0, q0⟩
abbrev Stk.val (s : Stk) : Value := .agg #[.int .i64 s.ow, .int .i64 s.co, .bool s.vt.neg, .string s.vt.num, .string s.vt.den]

structure BlkStk (w : World) (g : Nat) (v0 v1 v2 v3 v4 : Value) : Prop where
  c0 : w.cell? ⟨g, 0, none⟩ = some v0
  c1 : w.cell? ⟨g, 1, none⟩ = some v1
  c2 : w.cell? ⟨g, 2, none⟩ = some v2
  c3 : w.cell? ⟨g, 3, none⟩ = some v3
  c4 : w.cell? ⟨g, 4, none⟩ = some v4
  f0 : w.frozen? ⟨g, 0, none⟩ = false
  f1 : w.frozen? ⟨g, 1, none⟩ = false
  f2 : w.frozen? ⟨g, 2, none⟩ = false
  f3 : w.frozen? ⟨g, 3, none⟩ = false
  f4 : w.frozen? ⟨g, 4, none⟩ = false
  lt : g < w.heap.size
theorem BlkStk.alloc (w : World) (v0 v1 v2 v3 v4 : Value) (e : TypeId) : BlkStk (w.alloc (.cells #[v0, v1, v2, v3, v4] e)) w.heap.size v0 v1 v2 v3 v4 := by
  constructor <;> simp
theorem BlkStk.keep {gs : List Nat} {w w' : World} {g : Nat} {v0 v1 v2 v3 v4 : Value} (h : BlkStk w g v0 v1 v2 v3 v4) (hc : Chg gs w w') (hg : g ∉ gs) : BlkStk w' g v0 v1 v2 v3 v4 := by
  have hl := h.lt
  refine ⟨(hc.cell hl hg).trans h.c0, (hc.cell hl hg).trans h.c1, (hc.cell hl hg).trans h.c2, (hc.cell hl hg).trans h.c3, (hc.cell hl hg).trans h.c4, ?_, ?_, ?_, ?_, ?_, Nat.lt_of_lt_of_le hl hc.size⟩
  · exact (World.frozen?_of_block (hc.block _ hl hg)).trans h.f0
  · exact (World.frozen?_of_block (hc.block _ hl hg)).trans h.f1
  · exact (World.frozen?_of_block (hc.block _ hl hg)).trans h.f2
  · exact (World.frozen?_of_block (hc.block _ hl hg)).trans h.f3
  · exact (World.frozen?_of_block (hc.block _ hl hg)).trans h.f4
theorem BlkStk.keep0 {w w' : World} {g : Nat} {v0 v1 v2 v3 v4 : Value} (h : BlkStk w g v0 v1 v2 v3 v4) (hc : Chg [] w w') : BlkStk w' g v0 v1 v2 v3 v4 := h.keep hc (by simp)

theorem Chg.stStk {gs : List Nat} {a w : World} (h : Chg gs a w) {g : Nat} (hg : g ∈ gs ∨ a.heap.size ≤ g) (v0 v1 v2 v3 v4 : Value) : Chg gs a (((((w.setCell ⟨g, 0, none⟩ v0).setCell ⟨g, 1, none⟩ v1).setCell ⟨g, 2, none⟩ v2).setCell ⟨g, 3, none⟩ v3).setCell ⟨g, 4, none⟩ v4) :=
  ((((h.setCell hg _).setCell hg _).setCell hg _).setCell hg _).setCell hg _
theorem BlkStk.sto {w : World} {g : Nat} {a0 a1 a2 a3 a4 : Value} (h : BlkStk w g a0 a1 a2 a3 a4) (v0 v1 v2 v3 v4 : Value) : BlkStk (((((w.setCell ⟨g, 0, none⟩ v0).setCell ⟨g, 1, none⟩ v1).setCell ⟨g, 2, none⟩ v2).setCell ⟨g, 3, none⟩ v3).setCell ⟨g, 4, none⟩ v4) g v0 v1 v2 v3 v4 := by
  obtain ⟨c0, c1, c2, c3, c4, f0, f1, f2, f3, f4, l⟩ := h
  refine ⟨?_, ?_, ?_, ?_, ?_, ?_, ?_, ?_, ?_, ?_, ?_⟩
  · simp [go_sem, c0]
  · simp [go_sem, c1]
  · simp [go_sem, c2]
  · simp [go_sem, c3]
  · simp [go_sem, c4]
  · rw [World.frozen?_setCell, World.frozen?_setCell, World.frozen?_setCell, World.frozen?_setCell, World.frozen?_setCell]; exact f0
  · rw [World.frozen?_setCell, World.frozen?_setCell, World.frozen?_setCell, World.frozen?_setCell, World.frozen?_setCell]; exact f1
  · rw [World.frozen?_setCell, World.frozen?_setCell, World.frozen?_setCell, World.frozen?_setCell, World.frozen?_setCell]; exact f2
  · rw [World.frozen?_setCell, World.frozen?_setCell, World.frozen?_setCell, World.frozen?_setCell, World.frozen?_setCell]; exact f3
  · rw [World.frozen?_setCell, World.frozen?_setCell, World.frozen?_setCell, World.frozen?_setCell, World.frozen?_setCell]; exact f4
  · simpa using l

structure CStk (w : World) (g o : Nat) (s : Stk) : Prop where
  c0 : w.cell? ⟨g, o, none⟩ = some (.int .i64 s.ow)
  c1 : w.cell? ⟨g, o + 1, none⟩ = some (.int .i64 s.co)
  c2 : w.cell? ⟨g, o + 2, none⟩ = some (.bool s.vt.neg)
  c3 : w.cell? ⟨g, o + 3, none⟩ = some (.string s.vt.num)
  c4 : w.cell? ⟨g, o + 4, none⟩ = some (.string s.vt.den)
  l : g < w.heap.size
theorem CStk.keep {gs : List Nat} {w w' : World} {g o : Nat} {s : Stk} (h : CStk w g o s) (hc : Chg gs w w') (hg : g ∉ gs) : CStk w' g o s :=
  ⟨(hc.cell (p := ⟨g, _, none⟩) h.l hg).trans h.c0, (hc.cell (p := ⟨g, _, none⟩) h.l hg).trans h.c1, (hc.cell (p := ⟨g, _, none⟩) h.l hg).trans h.c2, (hc.cell (p := ⟨g, _, none⟩) h.l hg).trans h.c3, (hc.cell (p := ⟨g, _, none⟩) h.l hg).trans h.c4, Nat.lt_of_lt_of_le h.l hc.size⟩
theorem CStk.keep0 {w w' : World} {g o : Nat} {s : Stk} (h : CStk w g o s) (hc : Chg [] w w') : CStk w' g o s := h.keep hc (by simp)
def SStk (w : World) (A : Option Addr) (xs : List Stk) : Prop :=
  0 < xs.length → ∃ g o, A = some ⟨g, o, none⟩ ∧ g < w.heap.size ∧ ∀ j, j < xs.length → CStk w g (o + j * 5) (xs.getD j stk0)
theorem SStk.nil (w : World) (A : Option Addr) : SStk w A [] := fun h => absurd h (by simp)
theorem SStk.keep {gs : List Nat} {w w' : World} {A : Option Addr} {xs : List Stk} (h : SStk w A xs) (hc : Chg gs w w') (hg : Off gs A) : SStk w' A xs := by
  intro hl
  obtain ⟨g, o, rfl, hlt, hcell⟩ := h hl
  exact ⟨g, o, rfl, Nat.lt_of_lt_of_le hlt hc.size, fun j hj => (hcell j hj).keep hc (hg _ rfl)⟩
theorem SStk.keep0 {w w' : World} {A : Option Addr} {xs : List Stk} (h : SStk w A xs) (hc : Chg [] w w') : SStk w' A xs := h.keep hc (Off.nil A)
theorem SStk.keepL {gs : List Nat} {w w' : World} {A : Option Addr} {xs : List Stk} {N : Nat} (h : SStk w A xs) (hlow : 0 < xs.length → ∃ g o, A = some ⟨g, o, none⟩ ∧ g < N) (hc : Chg gs w w') (hg : ∀ x ∈ gs, N ≤ x) : SStk w' A xs := by
  intro hl
  obtain ⟨g, o, e, hlt⟩ := hlow hl
  exact h.keep hc (by intro a ha hm; rw [e] at ha; cases ha; have := hg _ hm; dsimp only at this; omega) hl
theorem SStk.form {w : World} {A : Option Addr} {xs : List Stk} (h : SStk w A xs) (hl : 0 < xs.length) : ∃ g o, A = some ⟨g, o, none⟩ ∧ g < w.heap.size := by
  obtain ⟨g, o, e, hlt, _⟩ := h hl
  exact ⟨g, o, e, hlt⟩
theorem SStk.at_ {w : World} {g o : Nat} {xs : List Stk} (h : SStk w (some ⟨g, o, none⟩) xs) {j : Nat} (hj : j < xs.length) : CStk w g (o + j * 5) (xs.getD j stk0) := by
  obtain ⟨g', o', he, hlt, hcell⟩ := h (by omega)
  simp only [Option.some.injEq, Addr.mk.injEq, and_true] at he
  obtain ⟨rfl, rfl⟩ := he
  exact hcell j hj
theorem SStk.st3 {w : World} {g o k : Nat} {xs : List Stk} (h : SStk w (some ⟨g, o, none⟩) xs) (hk : g ≠ k) (x y z : Value) : SStk (((w.setCell ⟨k, 0, none⟩ x).setCell ⟨k, 1, none⟩ y).setCell ⟨k, 2, none⟩ z) (some ⟨g, o, none⟩) xs :=
  h.keep ((Chg.refl [k] w).store3 (.inl (by simp)) x y z) (by intro a ha; cases ha; simpa using hk)
theorem SStk.take {w : World} {A : Option Addr} {xs : List Stk} (h : SStk w A xs) (k : Nat) : SStk w A (xs.take k) := by
  intro hl
  obtain ⟨g, o, e, hlt, hc⟩ := h (by rw [List.length_take] at hl; omega)
  refine ⟨g, o, e, hlt, fun j hj => ?_⟩
  rw [List.length_take] at hj
  have hg : (xs.take k).getD j stk0 = xs.getD j stk0 := by
    rw [List.getD_eq_getElem?_getD, List.getD_eq_getElem?_getD, List.getElem?_take_of_lt (by omega)]
  rw [hg]; exact hc j (by omega)
theorem memStk {l : List Stk} {j : Nat} (h : j < l.length) : l.getD j stk0 ∈ l := by
  rw [List.getD_eq_getElem?_getD, List.getElem?_eq_getElem h, Option.getD_some]; exact List.getElem_mem _
theorem take_snocStk (xs : List Stk) (k : Nat) (h : k < xs.length) : xs.take (k + 1) = xs.take k ++ [xs.getD k stk0] := by
  rw [List.take_add_one, List.getD_eq_getElem?_getD, List.getElem?_eq_getElem h]; rfl
theorem snoc_getStk (xs : List Stk) (s : Stk) (j : Nat) : (xs ++ [s]).getD j stk0 = if j < xs.length then xs.getD j stk0 else if j = xs.length then s else stk0 := by
  rw [List.getD_eq_getElem?_getD, List.getD_eq_getElem?_getD]
  split
  · rename_i h; rw [List.getElem?_append_left h]
  · rename_i h
    split
    · rename_i h2; subst h2; rw [List.getElem?_append_right (Nat.le_refl _), Nat.sub_self]; rfl
    · rename_i h2
      rw [List.getElem?_eq_none (by simp; omega)]; rfl

/-- The cells of elements one behind the other. -/
def csStk : List Stk → List Value
  | [] => []
  | x :: xs => .int .i64 x.ow :: .int .i64 x.co :: .bool x.vt.neg :: .string x.vt.num :: .string x.vt.den :: csStk xs
theorem csStk_length : ∀ xs : List Stk, (csStk xs).length = xs.length * 5
  | [] => rfl
  | x :: xs => by simp only [csStk, List.length_cons, csStk_length xs]; omega
theorem csStk_append : ∀ xs ys : List Stk, csStk (xs ++ ys) = csStk xs ++ csStk ys
  | [], _ => rfl
  | x :: xs, ys => by simp only [List.cons_append, csStk, csStk_append xs ys]
theorem csStk_one : ∀ (xs : List Stk), ∀ u ∈ csStk xs, u.oneCell' = true
  | [], u, h => by cases h
  | x :: xs, u, h => by
    simp only [csStk, List.mem_cons] at h
    rcases h with rfl | rfl | rfl | rfl | rfl | h
    · rfl
    · rfl
    · rfl
    · rfl
    · rfl
    · exact csStk_one xs u h
theorem csStk_get : ∀ (xs : List Stk) (j : Nat), j < xs.length → (csStk xs)[j * 5]? = some (.int .i64 (xs.getD j stk0).ow) ∧ (csStk xs)[j * 5 + 1]? = some (.int .i64 (xs.getD j stk0).co) ∧ (csStk xs)[j * 5 + 2]? = some (.bool (xs.getD j stk0).vt.neg) ∧ (csStk xs)[j * 5 + 3]? = some (.string (xs.getD j stk0).vt.num) ∧ (csStk xs)[j * 5 + 4]? = some (.string (xs.getD j stk0).vt.den)
  | [], j, h => absurd h (by simp)
  | x :: xs, 0, _ => by simp [csStk]
  | x :: xs, j + 1, h => by
    have := csStk_get xs j (by simpa using h)
    rw [show (j + 1) * 5 = j * 5 + 5 by omega]
    simp only [csStk, List.getElem?_cons_succ, List.getD_cons_succ, show j * 5 + 5 + 1 = j * 5 + 1 + 5 by omega, show j * 5 + 5 + 2 = j * 5 + 2 + 5 by omega, show j * 5 + 5 + 3 = j * 5 + 3 + 5 by omega, show j * 5 + 5 + 4 = j * 5 + 4 + 5 by omega]
    exact this
theorem csStk_split {xs : List Stk} {i : Nat} {u : Value} (h : (csStk xs)[i]? = some u) : ∃ j r, i = j * 5 + r ∧ r < 5 ∧ j < xs.length := by
  have hl : i < (csStk xs).length := by
    rcases Nat.lt_or_ge i (csStk xs).length with h1 | h1
    · exact h1
    · rw [List.getElem?_eq_none h1] at h; cases h
  rw [csStk_length] at hl
  exact ⟨i / 5, i % 5, by omega, by omega, by omega⟩
theorem add_atStk (g o n : Nat) : (⟨g, o, none⟩ : Addr).add n = ⟨g, o + n, none⟩ := by
  unfold Addr.add; split
  · subst n; rfl
  · rfl
theorem SStk.cells {w : World} {g o : Nat} {xs : List Stk} (h : SStk w (some ⟨g, o, none⟩) xs) : ∀ i u, (csStk xs)[i]? = some u → w.cell? ((⟨g, o, none⟩ : Addr).add i) = some u := by
  intro i u hu
  obtain ⟨j, r, rfl, hr, hj⟩ := csStk_split hu
  obtain ⟨a0, a1, a2, a3, a4, _⟩ := h.at_ hj
  obtain ⟨x0, x1, x2, x3, x4⟩ := csStk_get xs j hj
  rw [add_atStk]
  rcases (by omega : r = 0 ∨ r = 1 ∨ r = 2 ∨ r = 3 ∨ r = 4) with rfl | rfl | rfl | rfl | rfl
  · rw [Nat.add_zero] at hu ⊢; rw [x0] at hu; rw [a0]; exact hu
  · rw [x1] at hu; rw [← Nat.add_assoc, a1]; exact hu
  · rw [x2] at hu; rw [← Nat.add_assoc, a2]; exact hu
  · rw [x3] at hu; rw [← Nat.add_assoc, a3]; exact hu
  · rw [x4] at hu; rw [← Nat.add_assoc, a4]; exact hu
theorem SStk.of_cells {w : World} {g o : Nat} {xs : List Stk} (hlt : g < w.heap.size) (h : ∀ i u, (csStk xs)[i]? = some u → w.cell? ((⟨g, o, none⟩ : Addr).add i) = some u) : SStk w (some ⟨g, o, none⟩) xs := by
  intro _
  refine ⟨g, o, rfl, hlt, fun j hj => ?_⟩
  obtain ⟨x0, x1, x2, x3, x4⟩ := csStk_get xs j hj
  refine ⟨?_, ?_, ?_, ?_, ?_, hlt⟩
  · have := h _ _ x0; rwa [add_atStk] at this
  · have := h _ _ x1; rwa [add_atStk, ← Nat.add_assoc] at this
  · have := h _ _ x2; rwa [add_atStk, ← Nat.add_assoc] at this
  · have := h _ _ x3; rwa [add_atStk, ← Nat.add_assoc] at this
  · have := h _ _ x4; rwa [add_atStk, ← Nat.add_assoc] at this
theorem sStk_new (w : World) (s : Stk) : SStk (w.alloc (.cells #[.int .i64 s.ow, .int .i64 s.co, .bool s.vt.neg, .string s.vt.num, .string s.vt.den] 36)) (some ⟨w.heap.size, 0, none⟩) [s] := by
  have b := BlkStk.alloc w (.int .i64 s.ow) (.int .i64 s.co) (.bool s.vt.neg) (.string s.vt.num) (.string s.vt.den) 36
  intro _
  refine ⟨_, 0, rfl, b.lt, fun j hj => ?_⟩
  obtain rfl : j = 0 := by simp at hj; omega
  exact ⟨b.c0, b.c1, b.c2, b.c3, b.c4, b.lt⟩

/-- A slice of the program's own (nil, or from the head of a block on) that holds the elements xs. -/
def OwnStk (w : World) (v : Value) (xs : List Stk) : Prop := w.ownsRow 0 36 5 v xs.length (csStk xs)
theorem OwnStk.nil (w : World) : OwnStk w (.slice none 0 0) [] := World.ownsRow_nil _ _ _ _
theorem OwnStk.form {w : World} {v : Value} {xs : List Stk} (h : OwnStk w v xs) : (v = .slice none 0 0 ∧ xs = []) ∨ ∃ g cap, v = .slice (some ⟨g, 0, none⟩) xs.length cap ∧ g < w.heap.size ∧ xs.length ≤ cap ∧ cap ≤ 9223372036854775807 ∧ SStk w (some ⟨g, 0, none⟩) xs := by
  have h0 := h
  rcases h.2 with ⟨rfl, h1⟩ | ⟨g, cap, cur, rfl, hb, hgg, h1, h2, _⟩
  · refine .inl ⟨rfl, ?_⟩
    have := csStk_length xs
    rw [h1] at this
    exact List.eq_nil_of_length_eq_zero (by simp at this; omega)
  · have hlt := (World.ownsRow.lt h0 g rfl).2
    exact .inr ⟨g, cap, rfl, hlt, h1, by simpa [maxLen] using h2, SStk.of_cells hlt (World.ownsRow.cells h0 rfl)⟩
theorem OwnStk.rds {w : World} {v : Value} {xs : List Stk} (h : OwnStk w v xs) : ∃ A cap, v = .slice A xs.length cap ∧ xs.length ≤ cap ∧ cap ≤ 9223372036854775807 ∧ SStk w A xs := by
  rcases h.form with ⟨rfl, rfl⟩ | ⟨g, cap, rfl, _, h1, h2, h3⟩
  · exact ⟨none, 0, rfl, Nat.le_refl _, by omega, SStk.nil _ _⟩
  · exact ⟨_, cap, rfl, h1, h2, h3⟩
theorem OwnStk.keep {gs : List Nat} {w w' : World} {v : Value} {xs : List Stk} (h : OwnStk w v xs) (hc : Chg gs w w') (hg : OffV gs v) : OwnStk w' v xs := by
  have h0 := h
  refine ⟨h.1, ?_⟩
  rcases h.2 with h1 | ⟨g, cap, cur, rfl, hb, hgg, rest⟩
  · exact .inl h1
  · have hlt := (World.ownsRow.lt h0 g rfl).2
    have hn : g ∉ gs := hg g rfl
    exact .inr ⟨g, cap, cur, rfl, hb, (hc.block g hlt hn).trans hgg, rest⟩
theorem OwnStk.keep0 {w w' : World} {v : Value} {xs : List Stk} (h : OwnStk w v xs) (hc : Chg [] w w') : OwnStk w' v xs := h.keep hc (OffV.nil v)

theorem infoStk : (Try.prog.info? 36).map (fun i => (i.zero, i.size, i.bytes)) = some (some (.agg #[.int .i64 0, .int .i64 0, .bool false, .string ⟨#[]⟩, .string ⟨#[]⟩]), 5, 56) := by kernel_rfl
theorem underStk : Try.prog.underlying 23 = some (.slice 36) := Try.underlying23

section
variable (w : World)
/-- Append of one element to a slice of the program's own. -/
theorem run_appendStk (ty : TypeId) (v : Value) (xs : List Stk) (hown : OwnStk w v xs) (ad : Addr) (c : Nat) (y : Stk) (hr : SStk w (some ad) [y]) (hb : xs.length + 1 ≤ 1000000000) :
    ∃ v' w', (Builtin.append_ #[23, 23] ty #[v, .slice (some ad) 1 c]).run Try.prog w = .ok v' w' ∧ OwnStk w' v' (xs ++ [y]) ∧ Chg v.ownBlock.toList w w' ∧ (v'.ownBlock = v.ownBlock ∨ v'.ownBlock = some w.heap.size) := by
  obtain ⟨i, hi, hz0, hz1, hz2⟩ := info_parts infoStk
  have hlen : (xs ++ [y]).length = xs.length + 1 := List.length_append
  have hcells : ∀ j u, (csStk [y])[j]? = some u → w.cell? (ad.add j) = some u := by
    intro j u hu
    obtain ⟨g, o, h, _⟩ := hr.form (by simp)
    simp only [Option.some.injEq] at h
    subst h
    exact hr.cells j u hu
  obtain ⟨v', w', hrun, h2, h3, _, h5⟩ := run_append_own_at (P := Try.prog) w 0 23 ty 36 i _ 5 56 underStk hi hz0 hz1 hz2 rfl (by omega) v xs.length (csStk xs) hown ad 1 c (csStk [y]) (csStk_length [y]) hcells (csStk_one [y]) (by simp only [maxLen]; omega) (by omega) (Nat.zero_le _)
  refine ⟨v', w', hrun, ?_, Chg.of_grownv h3 (fun k hk => by rw [hk]; simp), h5⟩
  unfold OwnStk
  rw [hlen, csStk_append]; exact h2
theorem wp_appendStk {o : Oper} {a : Act} {K : Act → World → Prop} {Q : Exit → Act → World → Prop} (s x : Operand) (ho : o.op = .call { callee := .builtin .append, args := #[s, x], argTypes := #[23, 23] })
    (v : Value) (xs : List Stk) (hs : a.eval s = v) (hown : OwnStk w v xs) (ad : Addr) (c : Nat) (y : Stk) (hx : a.eval x = .slice (some ad) 1 c) (hr : SStk w (some ad) [y]) (hb : xs.length + 1 ≤ 1000000000)
    (h : ∀ v' w', OwnStk w' v' (xs ++ [y]) → Chg v.ownBlock.toList w w' → (v'.ownBlock = v.ownBlock ∨ v'.ownBlock = some w.heap.size) → K (a.put o.dst v') w') : Oper.wp Try.prog o a w K Q := by
  obtain ⟨v', w', hrun, h2, h3, h4⟩ := run_appendStk w o.type v xs hown ad c y hr hb
  unfold Oper.wp execOp
  simp only [ho, resolve, invoke, builtin, Sem.run_bind, Sem.run_pure, Result.andThen_ok, List.map_toArray, List.map_cons, List.map_nil, hs, hx, hrun]
  exact h v' w' h2 h3 h4
theorem wpList_appendStk {ops : Array Oper} {rest : List Oper} {o : Oper} {a : Act} {Q : Exit → Act → World → Prop} (hgd : o.guard = none) (s x : Operand) (ho : o.op = .call { callee := .builtin .append, args := #[s, x], argTypes := #[23, 23] })
    (v : Value) (xs : List Stk) (hs : a.eval s = v) (hown : OwnStk w v xs) (ad : Addr) (c : Nat) (y : Stk) (hx : a.eval x = .slice (some ad) 1 c) (hr : SStk w (some ad) [y]) (hb : xs.length + 1 ≤ 1000000000)
    (h : ∀ v' w', OwnStk w' v' (xs ++ [y]) → Chg v.ownBlock.toList w w' → (v'.ownBlock = v.ownBlock ∨ v'.ownBlock = some w.heap.size) → wpList Try.prog ops Q rest (a.put o.dst v') w') : wpList Try.prog ops Q (o :: rest) a w :=
  wpList_plain hgd fun _ hK => wp_appendStk w s x ho v xs hs hown ad c y hx hr hb fun v' w' h2 h3 h4 => hK _ _ (h v' w' h2 h3 h4)
theorem step_appendStk {ops : Array Oper} {o : Oper} {a : Act} {K : Act → World → Prop} {Q : Exit → Act → World → Prop} {E : Prop} (hgd : o.guard = none) (s x : Operand) (ho : o.op = .call { callee := .builtin .append, args := #[s, x], argTypes := #[23, 23] })
    (v : Value) (xs : List Stk) (hs : a.eval s = v) (hown : OwnStk w v xs) (ad : Addr) (c : Nat) (y : Stk) (hx : a.eval x = .slice (some ad) 1 c) (hr : SStk w (some ad) [y]) (hb : xs.length + 1 ≤ 1000000000)
    (h : ∀ v' w', OwnStk w' v' (xs ++ [y]) → Chg v.ownBlock.toList w w' → (v'.ownBlock = v.ownBlock ∨ v'.ownBlock = some w.heap.size) → K (a.put o.dst v') w') :
    if Region.wanted o (yielded ops a.tmps) = true then Oper.wp Try.prog o a w K Q else E := by
  have hw : Region.wanted o (yielded ops a.tmps) = true := by simp [Region.wanted, hgd]
  rw [if_pos hw]
  exact wp_appendStk w s x ho v xs hs hown ad c y hx hr hb h
end
end Go.Proofs.Ytgdpcpbmjgaliaa
