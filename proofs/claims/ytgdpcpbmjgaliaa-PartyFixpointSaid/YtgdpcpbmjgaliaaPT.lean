/-
  Ti: a struct of 2 cells in memory: a box, a slice that is read, a slice of the program's own.
-/
import Derived.Test.YtgdpcpbmjgaliaaPS
namespace Go.Proofs.Ytgdpcpbmjgaliaa
open Go.RowKit Nd

structure Ti where
  a : Int
  b : Int
def ti0 : Ti := ⟨0, 0⟩
abbrev Ti.val (s : Ti) : Value := .agg #[.int .i64 s.a, .int .i64 s.b]

structure BlkTi (w : World) (g : Nat) (v0 v1 : Value) : Prop where
  c0 : w.cell? ⟨g, 0, none⟩ = some v0
  c1 : w.cell? ⟨g, 1, none⟩ = some v1
  f0 : w.frozen? ⟨g, 0, none⟩ = false
  f1 : w.frozen? ⟨g, 1, none⟩ = false
  lt : g < w.heap.size
theorem BlkTi.alloc (w : World) (v0 v1 : Value) (e : TypeId) : BlkTi (w.alloc (.cells #[v0, v1] e)) w.heap.size v0 v1 := by
  constructor <;> simp
theorem BlkTi.keep {gs : List Nat} {w w' : World} {g : Nat} {v0 v1 : Value} (h : BlkTi w g v0 v1) (hc : Chg gs w w') (hg : g ∉ gs) : BlkTi w' g v0 v1 := by
  have hl := h.lt
  refine ⟨(hc.cell hl hg).trans h.c0, (hc.cell hl hg).trans h.c1, ?_, ?_, Nat.lt_of_lt_of_le hl hc.size⟩
  · exact (World.frozen?_of_block (hc.block _ hl hg)).trans h.f0
  · exact (World.frozen?_of_block (hc.block _ hl hg)).trans h.f1
theorem BlkTi.keep0 {w w' : World} {g : Nat} {v0 v1 : Value} (h : BlkTi w g v0 v1) (hc : Chg [] w w') : BlkTi w' g v0 v1 := h.keep hc (by simp)

theorem Chg.stTi {gs : List Nat} {a w : World} (h : Chg gs a w) {g : Nat} (hg : g ∈ gs ∨ a.heap.size ≤ g) (v0 v1 : Value) : Chg gs a ((w.setCell ⟨g, 0, none⟩ v0).setCell ⟨g, 1, none⟩ v1) :=
  (h.setCell hg _).setCell hg _
theorem BlkTi.sto {w : World} {g : Nat} {a0 a1 : Value} (h : BlkTi w g a0 a1) (v0 v1 : Value) : BlkTi ((w.setCell ⟨g, 0, none⟩ v0).setCell ⟨g, 1, none⟩ v1) g v0 v1 := by
  obtain ⟨c0, c1, f0, f1, l⟩ := h
  refine ⟨?_, ?_, ?_, ?_, ?_⟩
  · simp [go_sem, c0]
  · simp [go_sem, c1]
  · rw [World.frozen?_setCell, World.frozen?_setCell]; exact f0
  · rw [World.frozen?_setCell, World.frozen?_setCell]; exact f1
  · simpa using l

structure CTi (w : World) (g o : Nat) (s : Ti) : Prop where
  c0 : w.cell? ⟨g, o, none⟩ = some (.int .i64 s.a)
  c1 : w.cell? ⟨g, o + 1, none⟩ = some (.int .i64 s.b)
  l : g < w.heap.size
theorem CTi.keep {gs : List Nat} {w w' : World} {g o : Nat} {s : Ti} (h : CTi w g o s) (hc : Chg gs w w') (hg : g ∉ gs) : CTi w' g o s :=
  ⟨(hc.cell (p := ⟨g, _, none⟩) h.l hg).trans h.c0, (hc.cell (p := ⟨g, _, none⟩) h.l hg).trans h.c1, Nat.lt_of_lt_of_le h.l hc.size⟩
theorem CTi.keep0 {w w' : World} {g o : Nat} {s : Ti} (h : CTi w g o s) (hc : Chg [] w w') : CTi w' g o s := h.keep hc (by simp)
def STi (w : World) (A : Option Addr) (xs : List Ti) : Prop :=
  0 < xs.length → ∃ g o, A = some ⟨g, o, none⟩ ∧ g < w.heap.size ∧ ∀ j, j < xs.length → CTi w g (o + j * 2) (xs.getD j ti0)
theorem STi.nil (w : World) (A : Option Addr) : STi w A [] := fun h => absurd h (by simp)
theorem STi.keep {gs : List Nat} {w w' : World} {A : Option Addr} {xs : List Ti} (h : STi w A xs) (hc : Chg gs w w') (hg : Off gs A) : STi w' A xs := by
  intro hl
  obtain ⟨g, o, rfl, hlt, hcell⟩ := h hl
  exact ⟨g, o, rfl, Nat.lt_of_lt_of_le hlt hc.size, fun j hj => (hcell j hj).keep hc (hg _ rfl)⟩
theorem STi.keep0 {w w' : World} {A : Option Addr} {xs : List Ti} (h : STi w A xs) (hc : Chg [] w w') : STi w' A xs := h.keep hc (Off.nil A)
theorem STi.keepL {gs : List Nat} {w w' : World} {A : Option Addr} {xs : List Ti} {N : Nat} (h : STi w A xs) (hlow : 0 < xs.length → ∃ g o, A = some ⟨g, o, none⟩ ∧ g < N) (hc : Chg gs w w') (hg : ∀ x ∈ gs, N ≤ x) : STi w' A xs := by
  intro hl
  obtain ⟨g, o, e, hlt⟩ := hlow hl
  exact h.keep hc (by intro a ha hm; rw [e] at ha; cases ha; have := hg _ hm; dsimp only at this; omega) hl
theorem STi.form {w : World} {A : Option Addr} {xs : List Ti} (h : STi w A xs) (hl : 0 < xs.length) : ∃ g o, A = some ⟨g, o, none⟩ ∧ g < w.heap.size := by
  obtain ⟨g, o, e, hlt, _⟩ := h hl
  exact ⟨g, o, e, hlt⟩
theorem STi.at_ {w : World} {g o : Nat} {xs : List Ti} (h : STi w (some ⟨g, o, none⟩) xs) {j : Nat} (hj : j < xs.length) : CTi w g (o + j * 2) (xs.getD j ti0) := by
  obtain ⟨g', o', he, hlt, hcell⟩ := h (by omega)
  simp only [Option.some.injEq, Addr.mk.injEq, and_true] at he
  obtain ⟨rfl, rfl⟩ := he
  exact hcell j hj
theorem STi.st3 {w : World} {g o k : Nat} {xs : List Ti} (h : STi w (some ⟨g, o, none⟩) xs) (hk : g ≠ k) (x y z : Value) : STi (((w.setCell ⟨k, 0, none⟩ x).setCell ⟨k, 1, none⟩ y).setCell ⟨k, 2, none⟩ z) (some ⟨g, o, none⟩) xs :=
  h.keep ((Chg.refl [k] w).store3 (.inl (by simp)) x y z) (by intro a ha; cases ha; simpa using hk)
theorem STi.take {w : World} {A : Option Addr} {xs : List Ti} (h : STi w A xs) (k : Nat) : STi w A (xs.take k) := by
  intro hl
  obtain ⟨g, o, e, hlt, hc⟩ := h (by rw [List.length_take] at hl; omega)
  refine ⟨g, o, e, hlt, fun j hj => ?_⟩
  rw [List.length_take] at hj
  have hg : (xs.take k).getD j ti0 = xs.getD j ti0 := by
    rw [List.getD_eq_getElem?_getD, List.getD_eq_getElem?_getD, List.getElem?_take_of_lt (by omega)]
  rw [hg]; exact hc j (by omega)
theorem memTi {l : List Ti} {j : Nat} (h : j < l.length) : l.getD j ti0 ∈ l := by
  rw [List.getD_eq_getElem?_getD, List.getElem?_eq_getElem h, Option.getD_some]; exact List.getElem_mem _
theorem take_snocTi (xs : List Ti) (k : Nat) (h : k < xs.length) : xs.take (k + 1) = xs.take k ++ [xs.getD k ti0] := by
  rw [List.take_add_one, List.getD_eq_getElem?_getD, List.getElem?_eq_getElem h]; rfl
theorem snoc_getTi (xs : List Ti) (s : Ti) (j : Nat) : (xs ++ [s]).getD j ti0 = if j < xs.length then xs.getD j ti0 else if j = xs.length then s else ti0 := by
  rw [List.getD_eq_getElem?_getD, List.getD_eq_getElem?_getD]
  split
  · rename_i h; rw [List.getElem?_append_left h]
  · rename_i h
    split
    · rename_i h2; subst h2; rw [List.getElem?_append_right (Nat.le_refl _), Nat.sub_self]; rfl
    · rename_i h2
      rw [List.getElem?_eq_none (by simp; omega)]; rfl

/-- The cells of elements one behind the other. -/
def csTi : List Ti → List Value
  | [] => []
  | x :: xs => .int .i64 x.a :: .int .i64 x.b :: csTi xs
theorem csTi_length : ∀ xs : List Ti, (csTi xs).length = xs.length * 2
  | [] => rfl
  | x :: xs => by simp only [csTi, List.length_cons, csTi_length xs]; omega
theorem csTi_append : ∀ xs ys : List Ti, csTi (xs ++ ys) = csTi xs ++ csTi ys
  | [], _ => rfl
  | x :: xs, ys => by simp only [List.cons_append, csTi, csTi_append xs ys]
theorem csTi_one : ∀ (xs : List Ti), ∀ u ∈ csTi xs, u.oneCell' = true
  | [], u, h => by cases h
  | x :: xs, u, h => by
    simp only [csTi, List.mem_cons] at h
    rcases h with rfl | rfl | h
    · rfl
    · rfl
    · exact csTi_one xs u h
theorem csTi_get : ∀ (xs : List Ti) (j : Nat), j < xs.length → (csTi xs)[j * 2]? = some (.int .i64 (xs.getD j ti0).a) ∧ (csTi xs)[j * 2 + 1]? = some (.int .i64 (xs.getD j ti0).b)
  | [], j, h => absurd h (by simp)
  | x :: xs, 0, _ => by simp [csTi]
  | x :: xs, j + 1, h => by
    have := csTi_get xs j (by simpa using h)
    rw [show (j + 1) * 2 = j * 2 + 2 by omega]
    simp only [csTi, List.getElem?_cons_succ, List.getD_cons_succ, show j * 2 + 2 + 1 = j * 2 + 1 + 2 by omega]
    exact this
theorem csTi_split {xs : List Ti} {i : Nat} {u : Value} (h : (csTi xs)[i]? = some u) : ∃ j r, i = j * 2 + r ∧ r < 2 ∧ j < xs.length := by
  have hl : i < (csTi xs).length := by
    rcases Nat.lt_or_ge i (csTi xs).length with h1 | h1
    · exact h1
    · rw [List.getElem?_eq_none h1] at h; cases h
  rw [csTi_length] at hl
  exact ⟨i / 2, i % 2, by omega, by omega, by omega⟩
theorem add_atTi (g o n : Nat) : (⟨g, o, none⟩ : Addr).add n = ⟨g, o + n, none⟩ := by
  unfold Addr.add; split
  · subst n; rfl
  · rfl
theorem STi.cells {w : World} {g o : Nat} {xs : List Ti} (h : STi w (some ⟨g, o, none⟩) xs) : ∀ i u, (csTi xs)[i]? = some u → w.cell? ((⟨g, o, none⟩ : Addr).add i) = some u := by
  intro i u hu
  obtain ⟨j, r, rfl, hr, hj⟩ := csTi_split hu
  obtain ⟨a0, a1, _⟩ := h.at_ hj
  obtain ⟨x0, x1⟩ := csTi_get xs j hj
  rw [add_atTi]
  rcases (by omega : r = 0 ∨ r = 1) with rfl | rfl
  · rw [Nat.add_zero] at hu ⊢; rw [x0] at hu; rw [a0]; exact hu
  · rw [x1] at hu; rw [← Nat.add_assoc, a1]; exact hu
theorem STi.of_cells {w : World} {g o : Nat} {xs : List Ti} (hlt : g < w.heap.size) (h : ∀ i u, (csTi xs)[i]? = some u → w.cell? ((⟨g, o, none⟩ : Addr).add i) = some u) : STi w (some ⟨g, o, none⟩) xs := by
  intro _
  refine ⟨g, o, rfl, hlt, fun j hj => ?_⟩
  obtain ⟨x0, x1⟩ := csTi_get xs j hj
  refine ⟨?_, ?_, hlt⟩
  · have := h _ _ x0; rwa [add_atTi] at this
  · have := h _ _ x1; rwa [add_atTi, ← Nat.add_assoc] at this
theorem sTi_new (w : World) (s : Ti) : STi (w.alloc (.cells #[.int .i64 s.a, .int .i64 s.b] 38)) (some ⟨w.heap.size, 0, none⟩) [s] := by
  have b := BlkTi.alloc w (.int .i64 s.a) (.int .i64 s.b) 38
  intro _
  refine ⟨_, 0, rfl, b.lt, fun j hj => ?_⟩
  obtain rfl : j = 0 := by simp at hj; omega
  exact ⟨b.c0, b.c1, b.lt⟩

/-- A slice of the program's own (nil, or from the head of a block on) that holds the elements xs. -/
def OwnTi (w : World) (v : Value) (xs : List Ti) : Prop := w.ownsRow 0 38 2 v xs.length (csTi xs)
theorem OwnTi.nil (w : World) : OwnTi w (.slice none 0 0) [] := World.ownsRow_nil _ _ _ _
theorem OwnTi.form {w : World} {v : Value} {xs : List Ti} (h : OwnTi w v xs) : (v = .slice none 0 0 ∧ xs = []) ∨ ∃ g cap, v = .slice (some ⟨g, 0, none⟩) xs.length cap ∧ g < w.heap.size ∧ xs.length ≤ cap ∧ cap ≤ 9223372036854775807 ∧ STi w (some ⟨g, 0, none⟩) xs := by
  have h0 := h
  rcases h.2 with ⟨rfl, h1⟩ | ⟨g, cap, cur, rfl, hb, hgg, h1, h2, _⟩
  · refine .inl ⟨rfl, ?_⟩
    have := csTi_length xs
    rw [h1] at this
    exact List.eq_nil_of_length_eq_zero (by simp at this; omega)
  · have hlt := (World.ownsRow.lt h0 g rfl).2
    exact .inr ⟨g, cap, rfl, hlt, h1, by simpa [maxLen] using h2, STi.of_cells hlt (World.ownsRow.cells h0 rfl)⟩
theorem OwnTi.rds {w : World} {v : Value} {xs : List Ti} (h : OwnTi w v xs) : ∃ A cap, v = .slice A xs.length cap ∧ xs.length ≤ cap ∧ cap ≤ 9223372036854775807 ∧ STi w A xs := by
  rcases h.form with ⟨rfl, rfl⟩ | ⟨g, cap, rfl, _, h1, h2, h3⟩
  · exact ⟨none, 0, rfl, Nat.le_refl _, by omega, STi.nil _ _⟩
  · exact ⟨_, cap, rfl, h1, h2, h3⟩
theorem OwnTi.keep {gs : List Nat} {w w' : World} {v : Value} {xs : List Ti} (h : OwnTi w v xs) (hc : Chg gs w w') (hg : OffV gs v) : OwnTi w' v xs := by
  have h0 := h
  refine ⟨h.1, ?_⟩
  rcases h.2 with h1 | ⟨g, cap, cur, rfl, hb, hgg, rest⟩
  · exact .inl h1
  · have hlt := (World.ownsRow.lt h0 g rfl).2
    have hn : g ∉ gs := hg g rfl
    exact .inr ⟨g, cap, cur, rfl, hb, (hc.block g hlt hn).trans hgg, rest⟩
theorem OwnTi.keep0 {w w' : World} {v : Value} {xs : List Ti} (h : OwnTi w v xs) (hc : Chg [] w w') : OwnTi w' v xs := h.keep hc (OffV.nil v)

theorem infoTi : (Try.prog.info? 38).map (fun i => (i.zero, i.size, i.bytes)) = some (some (.agg #[.int .i64 0, .int .i64 0]), 2, 16) := by kernel_rfl
theorem underTi : Try.prog.underlying 24 = some (.slice 38) := Try.underlying24

section
variable (w : World)
/-- Append of one element to a slice of the program's own. -/
theorem run_appendTi (ty : TypeId) (v : Value) (xs : List Ti) (hown : OwnTi w v xs) (ad : Addr) (c : Nat) (y : Ti) (hr : STi w (some ad) [y]) (hb : xs.length + 1 ≤ 1000000000) :
    ∃ v' w', (Builtin.append_ #[24, 24] ty #[v, .slice (some ad) 1 c]).run Try.prog w = .ok v' w' ∧ OwnTi w' v' (xs ++ [y]) ∧ Chg v.ownBlock.toList w w' ∧ (v'.ownBlock = v.ownBlock ∨ v'.ownBlock = some w.heap.size) := by
  obtain ⟨i, hi, hz0, hz1, hz2⟩ := info_parts infoTi
  have hlen : (xs ++ [y]).length = xs.length + 1 := List.length_append
  have hcells : ∀ j u, (csTi [y])[j]? = some u → w.cell? (ad.add j) = some u := by
    intro j u hu
    obtain ⟨g, o, h, _⟩ := hr.form (by simp)
    simp only [Option.some.injEq] at h
    subst h
    exact hr.cells j u hu
  obtain ⟨v', w', hrun, h2, h3, _, h5⟩ := run_append_own_at (P := Try.prog) w 0 24 ty 38 i _ 2 16 underTi hi hz0 hz1 hz2 rfl (by omega) v xs.length (csTi xs) hown ad 1 c (csTi [y]) (csTi_length [y]) hcells (csTi_one [y]) (by simp only [maxLen]; omega) (by omega) (Nat.zero_le _)
  refine ⟨v', w', hrun, ?_, Chg.of_grownv h3 (fun k hk => by rw [hk]; simp), h5⟩
  unfold OwnTi
  rw [hlen, csTi_append]; exact h2
theorem wp_appendTi {o : Oper} {a : Act} {K : Act → World → Prop} {Q : Exit → Act → World → Prop} (s x : Operand) (ho : o.op = .call { callee := .builtin .append, args := #[s, x], argTypes := #[24, 24] })
    (v : Value) (xs : List Ti) (hs : a.eval s = v) (hown : OwnTi w v xs) (ad : Addr) (c : Nat) (y : Ti) (hx : a.eval x = .slice (some ad) 1 c) (hr : STi w (some ad) [y]) (hb : xs.length + 1 ≤ 1000000000)
    (h : ∀ v' w', OwnTi w' v' (xs ++ [y]) → Chg v.ownBlock.toList w w' → (v'.ownBlock = v.ownBlock ∨ v'.ownBlock = some w.heap.size) → K (a.put o.dst v') w') : Oper.wp Try.prog o a w K Q := by
  obtain ⟨v', w', hrun, h2, h3, h4⟩ := run_appendTi w o.type v xs hown ad c y hr hb
  unfold Oper.wp execOp
  simp only [ho, resolve, invoke, builtin, Sem.run_bind, Sem.run_pure, Result.andThen_ok, List.map_toArray, List.map_cons, List.map_nil, hs, hx, hrun]
  exact h v' w' h2 h3 h4
theorem wpList_appendTi {ops : Array Oper} {rest : List Oper} {o : Oper} {a : Act} {Q : Exit → Act → World → Prop} (hgd : o.guard = none) (s x : Operand) (ho : o.op = .call { callee := .builtin .append, args := #[s, x], argTypes := #[24, 24] })
    (v : Value) (xs : List Ti) (hs : a.eval s = v) (hown : OwnTi w v xs) (ad : Addr) (c : Nat) (y : Ti) (hx : a.eval x = .slice (some ad) 1 c) (hr : STi w (some ad) [y]) (hb : xs.length + 1 ≤ 1000000000)
    (h : ∀ v' w', OwnTi w' v' (xs ++ [y]) → Chg v.ownBlock.toList w w' → (v'.ownBlock = v.ownBlock ∨ v'.ownBlock = some w.heap.size) → wpList Try.prog ops Q rest (a.put o.dst v') w') : wpList Try.prog ops Q (o :: rest) a w :=
  wpList_plain hgd fun _ hK => wp_appendTi w s x ho v xs hs hown ad c y hx hr hb fun v' w' h2 h3 h4 => hK _ _ (h v' w' h2 h3 h4)
theorem step_appendTi {ops : Array Oper} {o : Oper} {a : Act} {K : Act → World → Prop} {Q : Exit → Act → World → Prop} {E : Prop} (hgd : o.guard = none) (s x : Operand) (ho : o.op = .call { callee := .builtin .append, args := #[s, x], argTypes := #[24, 24] })
    (v : Value) (xs : List Ti) (hs : a.eval s = v) (hown : OwnTi w v xs) (ad : Addr) (c : Nat) (y : Ti) (hx : a.eval x = .slice (some ad) 1 c) (hr : STi w (some ad) [y]) (hb : xs.length + 1 ≤ 1000000000)
    (h : ∀ v' w', OwnTi w' v' (xs ++ [y]) → Chg v.ownBlock.toList w w' → (v'.ownBlock = v.ownBlock ∨ v'.ownBlock = some w.heap.size) → K (a.put o.dst v') w') :
    if Region.wanted o (yielded ops a.tmps) = true then Oper.wp Try.prog o a w K Q else E := by
  have hw : Region.wanted o (yielded ops a.tmps) = true := by simp [Region.wanted, hgd]
  rw [if_pos hw]
  exact wp_appendTi w s x ho v xs hs hown ad c y hx hr hb h
end
end Go.Proofs.Ytgdpcpbmjgaliaa
