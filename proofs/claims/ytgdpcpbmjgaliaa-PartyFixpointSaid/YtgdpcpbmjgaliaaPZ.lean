/-
  Zn: a struct of 1 cells in memory: a box, a slice that is read, a slice of the program's own.
-/
import Derived.Test.YtgdpcpbmjgaliaaPT
namespace Go.Proofs.Ytgdpcpbmjgaliaa
open Go.RowKit Nd

structure Zn where
  x : Int
def zn0 : Zn := ⟨0⟩
abbrev Zn.val (s : Zn) : Value := .agg #[.int .i64 s.x]

structure BlkZn (w : World) (g : Nat) (v0 : Value) : Prop where
  c0 : w.cell? ⟨g, 0, none⟩ = some v0
  f0 : w.frozen? ⟨g, 0, none⟩ = false
  lt : g < w.heap.size
theorem BlkZn.alloc (w : World) (v0 : Value) (e : TypeId) : BlkZn (w.alloc (.cells #[v0] e)) w.heap.size v0 := by
  constructor <;> simp
theorem BlkZn.keep {gs : List Nat} {w w' : World} {g : Nat} {v0 : Value} (h : BlkZn w g v0) (hc : Chg gs w w') (hg : g ∉ gs) : BlkZn w' g v0 := by
  have hl := h.lt
  refine ⟨(hc.cell hl hg).trans h.c0, ?_, Nat.lt_of_lt_of_le hl hc.size⟩
  · exact (World.frozen?_of_block (hc.block _ hl hg)).trans h.f0
theorem BlkZn.keep0 {w w' : World} {g : Nat} {v0 : Value} (h : BlkZn w g v0) (hc : Chg [] w w') : BlkZn w' g v0 := h.keep hc (by simp)

theorem Chg.stZn {gs : List Nat} {a w : World} (h : Chg gs a w) {g : Nat} (hg : g ∈ gs ∨ a.heap.size ≤ g) (v0 : Value) : Chg gs a (w.setCell ⟨g, 0, none⟩ v0) :=
  h.setCell hg _
theorem BlkZn.sto {w : World} {g : Nat} {a0 : Value} (h : BlkZn w g a0) (v0 : Value) : BlkZn (w.setCell ⟨g, 0, none⟩ v0) g v0 := by
  obtain ⟨c0, f0, l⟩ := h
  refine ⟨?_, ?_, ?_⟩
  · simp [go_sem, c0]
  · rw [World.frozen?_setCell]; exact f0
  · simpa using l

structure CZn (w : World) (g o : Nat) (s : Zn) : Prop where
  c0 : w.cell? ⟨g, o, none⟩ = some (.int .i64 s.x)
  l : g < w.heap.size
theorem CZn.keep {gs : List Nat} {w w' : World} {g o : Nat} {s : Zn} (h : CZn w g o s) (hc : Chg gs w w') (hg : g ∉ gs) : CZn w' g o s :=
  ⟨(hc.cell (p := ⟨g, _, none⟩) h.l hg).trans h.c0, Nat.lt_of_lt_of_le h.l hc.size⟩
theorem CZn.keep0 {w w' : World} {g o : Nat} {s : Zn} (h : CZn w g o s) (hc : Chg [] w w') : CZn w' g o s := h.keep hc (by simp)
def SZn (w : World) (A : Option Addr) (xs : List Zn) : Prop :=
  0 < xs.length → ∃ g o, A = some ⟨g, o, none⟩ ∧ g < w.heap.size ∧ ∀ j, j < xs.length → CZn w g (o + j * 1) (xs.getD j zn0)
theorem SZn.nil (w : World) (A : Option Addr) : SZn w A [] := fun h => absurd h (by simp)
theorem SZn.keep {gs : List Nat} {w w' : World} {A : Option Addr} {xs : List Zn} (h : SZn w A xs) (hc : Chg gs w w') (hg : Off gs A) : SZn w' A xs := by
  intro hl
  obtain ⟨g, o, rfl, hlt, hcell⟩ := h hl
  exact ⟨g, o, rfl, Nat.lt_of_lt_of_le hlt hc.size, fun j hj => (hcell j hj).keep hc (hg _ rfl)⟩
theorem SZn.keep0 {w w' : World} {A : Option Addr} {xs : List Zn} (h : SZn w A xs) (hc : Chg [] w w') : SZn w' A xs := h.keep hc (Off.nil A)
theorem SZn.keepL {gs : List Nat} {w w' : World} {A : Option Addr} {xs : List Zn} {N : Nat} (h : SZn w A xs) (hlow : 0 < xs.length → ∃ g o, A = some ⟨g, o, none⟩ ∧ g < N) (hc : Chg gs w w') (hg : ∀ x ∈ gs, N ≤ x) : SZn w' A xs := by
  intro hl
  obtain ⟨g, o, e, hlt⟩ := hlow hl
  exact h.keep hc (by intro a ha hm; rw [e] at ha; cases ha; have := hg _ hm; dsimp only at this; omega) hl
theorem SZn.form {w : World} {A : Option Addr} {xs : List Zn} (h : SZn w A xs) (hl : 0 < xs.length) : ∃ g o, A = some ⟨g, o, none⟩ ∧ g < w.heap.size := by
  obtain ⟨g, o, e, hlt, _⟩ := h hl
  exact ⟨g, o, e, hlt⟩
theorem SZn.at_ {w : World} {g o : Nat} {xs : List Zn} (h : SZn w (some ⟨g, o, none⟩) xs) {j : Nat} (hj : j < xs.length) : CZn w g (o + j * 1) (xs.getD j zn0) := by
  obtain ⟨g', o', he, hlt, hcell⟩ := h (by omega)
  simp only [Option.some.injEq, Addr.mk.injEq, and_true] at he
  obtain ⟨rfl, rfl⟩ := he
  exact hcell j hj
theorem SZn.st3 {w : World} {g o k : Nat} {xs : List Zn} (h : SZn w (some ⟨g, o, none⟩) xs) (hk : g ≠ k) (x y z : Value) : SZn (((w.setCell ⟨k, 0, none⟩ x).setCell ⟨k, 1, none⟩ y).setCell ⟨k, 2, none⟩ z) (some ⟨g, o, none⟩) xs :=
  h.keep ((Chg.refl [k] w).store3 (.inl (by simp)) x y z) (by intro a ha; cases ha; simpa using hk)
theorem SZn.take {w : World} {A : Option Addr} {xs : List Zn} (h : SZn w A xs) (k : Nat) : SZn w A (xs.take k) := by
  intro hl
  obtain ⟨g, o, e, hlt, hc⟩ := h (by rw [List.length_take] at hl; omega)
  refine ⟨g, o, e, hlt, fun j hj => ?_⟩
  rw [List.length_take] at hj
  have hg : (xs.take k).getD j zn0 = xs.getD j zn0 := by
    rw [List.getD_eq_getElem?_getD, List.getD_eq_getElem?_getD, List.getElem?_take_of_lt (by omega)]
  rw [hg]; exact hc j (by omega)
theorem memZn {l : List Zn} {j : Nat} (h : j < l.length) : l.getD j zn0 ∈ l := by
  rw [List.getD_eq_getElem?_getD, List.getElem?_eq_getElem h, Option.getD_some]; exact List.getElem_mem _
theorem take_snocZn (xs : List Zn) (k : Nat) (h : k < xs.length) : xs.take (k + 1) = xs.take k ++ [xs.getD k zn0] := by
  rw [List.take_add_one, List.getD_eq_getElem?_getD, List.getElem?_eq_getElem h]; rfl
theorem snoc_getZn (xs : List Zn) (s : Zn) (j : Nat) : (xs ++ [s]).getD j zn0 = if j < xs.length then xs.getD j zn0 else if j = xs.length then s else zn0 := by
  rw [List.getD_eq_getElem?_getD, List.getD_eq_getElem?_getD]
  split
  · rename_i h; rw [List.getElem?_append_left h]
  · rename_i h
    split
    · rename_i h2; subst h2; rw [List.getElem?_append_right (Nat.le_refl _), Nat.sub_self]; rfl
    · rename_i h2
      rw [List.getElem?_eq_none (by simp; omega)]; rfl

/-- The cells of elements one behind the other. -/
def csZn : List Zn → List Value
  | [] => []
  | x :: xs => .int .i64 x.x :: csZn xs
theorem csZn_length : ∀ xs : List Zn, (csZn xs).length = xs.length * 1
  | [] => rfl
  | x :: xs => by simp only [csZn, List.length_cons, csZn_length xs]; omega
theorem csZn_append : ∀ xs ys : List Zn, csZn (xs ++ ys) = csZn xs ++ csZn ys
  | [], _ => rfl
  | x :: xs, ys => by simp only [List.cons_append, csZn, csZn_append xs ys]
theorem csZn_one : ∀ (xs : List Zn), ∀ u ∈ csZn xs, u.oneCell' = true
  | [], u, h => by cases h
  | x :: xs, u, h => by
    simp only [csZn, List.mem_cons] at h
    rcases h with rfl | h
    · rfl
    · exact csZn_one xs u h
theorem csZn_get : ∀ (xs : List Zn) (j : Nat), j < xs.length → (csZn xs)[j * 1]? = some (.int .i64 (xs.getD j zn0).x)
  | [], j, h => absurd h (by simp)
  | x :: xs, 0, _ => by simp [csZn]
  | x :: xs, j + 1, h => by
    have := csZn_get xs j (by simpa using h)
    rw [show (j + 1) * 1 = j * 1 + 1 by omega]
    simp only [csZn, List.getElem?_cons_succ, List.getD_cons_succ, ]
    exact this
theorem csZn_split {xs : List Zn} {i : Nat} {u : Value} (h : (csZn xs)[i]? = some u) : ∃ j r, i = j * 1 + r ∧ r < 1 ∧ j < xs.length := by
  have hl : i < (csZn xs).length := by
    rcases Nat.lt_or_ge i (csZn xs).length with h1 | h1
    · exact h1
    · rw [List.getElem?_eq_none h1] at h; cases h
  rw [csZn_length] at hl
  exact ⟨i / 1, i % 1, by omega, by omega, by omega⟩
theorem add_atZn (g o n : Nat) : (⟨g, o, none⟩ : Addr).add n = ⟨g, o + n, none⟩ := by
  unfold Addr.add; split
  · subst n; rfl
  · rfl
theorem SZn.cells {w : World} {g o : Nat} {xs : List Zn} (h : SZn w (some ⟨g, o, none⟩) xs) : ∀ i u, (csZn xs)[i]? = some u → w.cell? ((⟨g, o, none⟩ : Addr).add i) = some u := by
  intro i u hu
  obtain ⟨j, r, rfl, hr, hj⟩ := csZn_split hu
  obtain ⟨a0, _⟩ := h.at_ hj
  have x0 := csZn_get xs j hj
  rw [add_atZn]
  obtain rfl : r = 0 := by omega
  · rw [Nat.add_zero] at hu ⊢; rw [x0] at hu; rw [a0]; exact hu
theorem SZn.of_cells {w : World} {g o : Nat} {xs : List Zn} (hlt : g < w.heap.size) (h : ∀ i u, (csZn xs)[i]? = some u → w.cell? ((⟨g, o, none⟩ : Addr).add i) = some u) : SZn w (some ⟨g, o, none⟩) xs := by
  intro _
  refine ⟨g, o, rfl, hlt, fun j hj => ?_⟩
  have x0 := csZn_get xs j hj
  refine ⟨?_, hlt⟩
  · have := h _ _ x0; rwa [add_atZn] at this
theorem sZn_new (w : World) (s : Zn) : SZn (w.alloc (.cells #[.int .i64 s.x] 3)) (some ⟨w.heap.size, 0, none⟩) [s] := by
  have b := BlkZn.alloc w (.int .i64 s.x) 3
  intro _
  refine ⟨_, 0, rfl, b.lt, fun j hj => ?_⟩
  obtain rfl : j = 0 := by simp at hj; omega
  exact ⟨b.c0, b.lt⟩

/-- A slice of the program's own (nil, or from the head of a block on) that holds the elements xs. -/
def OwnZn (w : World) (v : Value) (xs : List Zn) : Prop := w.ownsRow 0 3 1 v xs.length (csZn xs)
theorem OwnZn.nil (w : World) : OwnZn w (.slice none 0 0) [] := World.ownsRow_nil _ _ _ _
theorem OwnZn.form {w : World} {v : Value} {xs : List Zn} (h : OwnZn w v xs) : (v = .slice none 0 0 ∧ xs = []) ∨ ∃ g cap, v = .slice (some ⟨g, 0, none⟩) xs.length cap ∧ g < w.heap.size ∧ xs.length ≤ cap ∧ cap ≤ 9223372036854775807 ∧ SZn w (some ⟨g, 0, none⟩) xs := by
  have h0 := h
  rcases h.2 with ⟨rfl, h1⟩ | ⟨g, cap, cur, rfl, hb, hgg, h1, h2, _⟩
  · refine .inl ⟨rfl, ?_⟩
    have := csZn_length xs
    rw [h1] at this
    exact List.eq_nil_of_length_eq_zero (by simp at this; omega)
  · have hlt := (World.ownsRow.lt h0 g rfl).2
    exact .inr ⟨g, cap, rfl, hlt, h1, by simpa [maxLen] using h2, SZn.of_cells hlt (World.ownsRow.cells h0 rfl)⟩
theorem OwnZn.rds {w : World} {v : Value} {xs : List Zn} (h : OwnZn w v xs) : ∃ A cap, v = .slice A xs.length cap ∧ xs.length ≤ cap ∧ cap ≤ 9223372036854775807 ∧ SZn w A xs := by
  rcases h.form with ⟨rfl, rfl⟩ | ⟨g, cap, rfl, _, h1, h2, h3⟩
  · exact ⟨none, 0, rfl, Nat.le_refl _, by omega, SZn.nil _ _⟩
  · exact ⟨_, cap, rfl, h1, h2, h3⟩
theorem OwnZn.keep {gs : List Nat} {w w' : World} {v : Value} {xs : List Zn} (h : OwnZn w v xs) (hc : Chg gs w w') (hg : OffV gs v) : OwnZn w' v xs := by
  have h0 := h
  refine ⟨h.1, ?_⟩
  rcases h.2 with h1 | ⟨g, cap, cur, rfl, hb, hgg, rest⟩
  · exact .inl h1
  · have hlt := (World.ownsRow.lt h0 g rfl).2
    have hn : g ∉ gs := hg g rfl
    exact .inr ⟨g, cap, cur, rfl, hb, (hc.block g hlt hn).trans hgg, rest⟩
theorem OwnZn.keep0 {w w' : World} {v : Value} {xs : List Zn} (h : OwnZn w v xs) (hc : Chg [] w w') : OwnZn w' v xs := h.keep hc (OffV.nil v)

theorem infoZn : (Try.prog.info? 3).map (fun i => (i.zero, i.size, i.bytes)) = some (some (.int .i64 0), 1, 8) := by kernel_rfl
theorem underZn : Try.prog.underlying 22 = some (.slice 3) := Try.underlying22

section
variable (w : World)
/-- Append of one element to a slice of the program's own. -/
theorem run_appendZn (ty : TypeId) (v : Value) (xs : List Zn) (hown : OwnZn w v xs) (ad : Addr) (c : Nat) (y : Zn) (hr : SZn w (some ad) [y]) (hb : xs.length + 1 ≤ 1000000000) :
    ∃ v' w', (Builtin.append_ #[22, 22] ty #[v, .slice (some ad) 1 c]).run Try.prog w = .ok v' w' ∧ OwnZn w' v' (xs ++ [y]) ∧ Chg v.ownBlock.toList w w' ∧ (v'.ownBlock = v.ownBlock ∨ v'.ownBlock = some w.heap.size) := by
  obtain ⟨i, hi, hz0, hz1, hz2⟩ := info_parts infoZn
  have hlen : (xs ++ [y]).length = xs.length + 1 := List.length_append
  have hcells : ∀ j u, (csZn [y])[j]? = some u → w.cell? (ad.add j) = some u := by
    intro j u hu
    obtain ⟨g, o, h, _⟩ := hr.form (by simp)
    simp only [Option.some.injEq] at h
    subst h
    exact hr.cells j u hu
  obtain ⟨v', w', hrun, h2, h3, _, h5⟩ := run_append_own_at (P := Try.prog) w 0 22 ty 3 i _ 1 8 underZn hi hz0 hz1 hz2 rfl (by omega) v xs.length (csZn xs) hown ad 1 c (csZn [y]) (csZn_length [y]) hcells (csZn_one [y]) (by simp only [maxLen]; omega) (by omega) (Nat.zero_le _)
  refine ⟨v', w', hrun, ?_, Chg.of_grownv h3 (fun k hk => by rw [hk]; simp), h5⟩
  unfold OwnZn
  rw [hlen, csZn_append]; exact h2
theorem wp_appendZn {o : Oper} {a : Act} {K : Act → World → Prop} {Q : Exit → Act → World → Prop} (s x : Operand) (ho : o.op = .call { callee := .builtin .append, args := #[s, x], argTypes := #[22, 22] })
    (v : Value) (xs : List Zn) (hs : a.eval s = v) (hown : OwnZn w v xs) (ad : Addr) (c : Nat) (y : Zn) (hx : a.eval x = .slice (some ad) 1 c) (hr : SZn w (some ad) [y]) (hb : xs.length + 1 ≤ 1000000000)
    (h : ∀ v' w', OwnZn w' v' (xs ++ [y]) → Chg v.ownBlock.toList w w' → (v'.ownBlock = v.ownBlock ∨ v'.ownBlock = some w.heap.size) → K (a.put o.dst v') w') : Oper.wp Try.prog o a w K Q := by
  obtain ⟨v', w', hrun, h2, h3, h4⟩ := run_appendZn w o.type v xs hown ad c y hr hb
  unfold Oper.wp execOp
  simp only [ho, resolve, invoke, builtin, Sem.run_bind, Sem.run_pure, Result.andThen_ok, List.map_toArray, List.map_cons, List.map_nil, hs, hx, hrun]
  exact h v' w' h2 h3 h4
theorem wpList_appendZn {ops : Array Oper} {rest : List Oper} {o : Oper} {a : Act} {Q : Exit → Act → World → Prop} (hgd : o.guard = none) (s x : Operand) (ho : o.op = .call { callee := .builtin .append, args := #[s, x], argTypes := #[22, 22] })
    (v : Value) (xs : List Zn) (hs : a.eval s = v) (hown : OwnZn w v xs) (ad : Addr) (c : Nat) (y : Zn) (hx : a.eval x = .slice (some ad) 1 c) (hr : SZn w (some ad) [y]) (hb : xs.length + 1 ≤ 1000000000)
    (h : ∀ v' w', OwnZn w' v' (xs ++ [y]) → Chg v.ownBlock.toList w w' → (v'.ownBlock = v.ownBlock ∨ v'.ownBlock = some w.heap.size) → wpList Try.prog ops Q rest (a.put o.dst v') w') : wpList Try.prog ops Q (o :: rest) a w :=
  wpList_plain hgd fun _ hK => wp_appendZn w s x ho v xs hs hown ad c y hx hr hb fun v' w' h2 h3 h4 => hK _ _ (h v' w' h2 h3 h4)
theorem step_appendZn {ops : Array Oper} {o : Oper} {a : Act} {K : Act → World → Prop} {Q : Exit → Act → World → Prop} {E : Prop} (hgd : o.guard = none) (s x : Operand) (ho : o.op = .call { callee := .builtin .append, args := #[s, x], argTypes := #[22, 22] })
    (v : Value) (xs : List Zn) (hs : a.eval s = v) (hown : OwnZn w v xs) (ad : Addr) (c : Nat) (y : Zn) (hx : a.eval x = .slice (some ad) 1 c) (hr : SZn w (some ad) [y]) (hb : xs.length + 1 ≤ 1000000000)
    (h : ∀ v' w', OwnZn w' v' (xs ++ [y]) → Chg v.ownBlock.toList w w' → (v'.ownBlock = v.ownBlock ∨ v'.ownBlock = some w.heap.size) → K (a.put o.dst v') w') :
    if Region.wanted o (yielded ops a.tmps) = true then Oper.wp Try.prog o a w K Q else E := by
  have hw : Region.wanted o (yielded ops a.tmps) = true := by simp [Region.wanted, hgd]
  rw [if_pos hw]
  exact wp_appendZn w s x ho v xs hs hown ad c y hx hr hb h
end
end Go.Proofs.Ytgdpcpbmjgaliaa
