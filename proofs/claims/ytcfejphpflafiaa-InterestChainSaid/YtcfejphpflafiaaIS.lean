/-
  Lists of steps of an interest rate in memory: a slice that is read, a slice of the program's own, a box of one step.
-/
import Derived.Test.YtcfejphpflafiaaV21
import Derived.Test.YtcfejphpflafiaaIM
namespace Go.Proofs.Ytcfejphpflafiaa
open Go.RowKit Nd

/-- A step of an interest rate as data. -/
structure St where
  fr : Int
  rt : Q3
def s0 : St := ⟨0, q0⟩
/-- The step as a value. -/
abbrev St.val (s : St) : Value := .agg #[.int .i64 s.fr, .bool s.rt.neg, .string s.rt.num, .string s.rt.den]
/-- Its number. -/
def St.q (s : St) : Int × Rat := (s.fr, ratOf s.rt)
def slQ (l : List St) : Stp := l.map St.q

structure Blk4 (w : World) (g : Nat) (a b c d : Value) : Prop where
  c0 : w.cell? ⟨g, 0, none⟩ = some a
  c1 : w.cell? ⟨g, 1, none⟩ = some b
  c2 : w.cell? ⟨g, 2, none⟩ = some c
  c3 : w.cell? ⟨g, 3, none⟩ = some d
  f0 : w.frozen? ⟨g, 0, none⟩ = false
  f1 : w.frozen? ⟨g, 1, none⟩ = false
  f2 : w.frozen? ⟨g, 2, none⟩ = false
  f3 : w.frozen? ⟨g, 3, none⟩ = false
  lt : g < w.heap.size
theorem Blk4.alloc (w : World) (a b c d : Value) (e : TypeId) : Blk4 (w.alloc (.cells #[a, b, c, d] e)) w.heap.size a b c d := by
  constructor <;> simp
theorem Blk4.keep {gs : List Nat} {w w' : World} {g : Nat} {a b c d : Value} (h : Blk4 w g a b c d) (hc : Chg gs w w') (hg : g ∉ gs) : Blk4 w' g a b c d := by
  have hl := h.lt
  refine ⟨(hc.cell hl hg).trans h.c0, (hc.cell hl hg).trans h.c1, (hc.cell hl hg).trans h.c2, (hc.cell hl hg).trans h.c3, ?_, ?_, ?_, ?_, Nat.lt_of_lt_of_le hl hc.size⟩
  · exact (World.frozen?_of_block (hc.block _ hl hg)).trans h.f0
  · exact (World.frozen?_of_block (hc.block _ hl hg)).trans h.f1
  · exact (World.frozen?_of_block (hc.block _ hl hg)).trans h.f2
  · exact (World.frozen?_of_block (hc.block _ hl hg)).trans h.f3

/-- The four cells of step j. -/
structure Cs (w : World) (g o : Nat) (s : St) : Prop where
  a : w.cell? ⟨g, o, none⟩ = some (.int .i64 s.fr)
  b : w.cell? ⟨g, o + 1, none⟩ = some (.bool s.rt.neg)
  c : w.cell? ⟨g, o + 2, none⟩ = some (.string s.rt.num)
  d : w.cell? ⟨g, o + 3, none⟩ = some (.string s.rt.den)
  l : g < w.heap.size
theorem Cs.keep {gs : List Nat} {w w' : World} {g o : Nat} {s : St} (h : Cs w g o s) (hc : Chg gs w w') (hg : g ∉ gs) : Cs w' g o s :=
  ⟨(hc.cell (p := ⟨g, _, none⟩) h.l hg).trans h.a, (hc.cell (p := ⟨g, _, none⟩) h.l hg).trans h.b, (hc.cell (p := ⟨g, _, none⟩) h.l hg).trans h.c, (hc.cell (p := ⟨g, _, none⟩) h.l hg).trans h.d, Nat.lt_of_lt_of_le h.l hc.size⟩
theorem Cs.keep0 {w w' : World} {g o : Nat} {s : St} (h : Cs w g o s) (hc : Chg [] w w') : Cs w' g o s := h.keep hc (by simp)
/-- The steps xs can be read one behind the other from A on; nothing is asked of A if there are none. -/
def Sds (w : World) (A : Option Addr) (xs : List St) : Prop :=
  0 < xs.length → ∃ g o, A = some ⟨g, o, none⟩ ∧ g < w.heap.size ∧ ∀ j, j < xs.length → Cs w g (o + j * 4) (xs.getD j s0)
theorem Sds.nil (w : World) (A : Option Addr) : Sds w A [] := fun h => absurd h (by simp)
theorem Sds.keep {gs : List Nat} {w w' : World} {A : Option Addr} {xs : List St} (h : Sds w A xs) (hc : Chg gs w w') (hg : Off gs A) : Sds w' A xs := by
  intro hl
  obtain ⟨g, o, rfl, hlt, hcell⟩ := h hl
  exact ⟨g, o, rfl, Nat.lt_of_lt_of_le hlt hc.size, fun j hj => (hcell j hj).keep hc (hg _ rfl)⟩
theorem Sds.keep0 {w w' : World} {A : Option Addr} {xs : List St} (h : Sds w A xs) (hc : Chg [] w w') : Sds w' A xs := h.keep hc (Off.nil A)
theorem Sds.form {w : World} {A : Option Addr} {xs : List St} (h : Sds w A xs) (hl : 0 < xs.length) : ∃ g o, A = some ⟨g, o, none⟩ ∧ g < w.heap.size := by
  obtain ⟨g, o, e, hlt, _⟩ := h hl
  exact ⟨g, o, e, hlt⟩
theorem Sds.at_ {w : World} {g o : Nat} {xs : List St} (h : Sds w (some ⟨g, o, none⟩) xs) {j : Nat} (hj : j < xs.length) : Cs w g (o + j * 4) (xs.getD j s0) := by
  obtain ⟨g', o', he, hlt, hcell⟩ := h (by omega)
  simp only [Option.some.injEq, Addr.mk.injEq, and_true] at he
  obtain ⟨rfl, rfl⟩ := he
  exact hcell j hj

theorem Sds.st3 {w : World} {g o k : Nat} {xs : List St} (h : Sds w (some ⟨g, o, none⟩) xs) (hk : g ≠ k) (x y z : Value) : Sds (((w.setCell ⟨k, 0, none⟩ x).setCell ⟨k, 1, none⟩ y).setCell ⟨k, 2, none⟩ z) (some ⟨g, o, none⟩) xs :=
  h.keep ((Chg.refl [k] w).store3 (.inl (by simp)) x y z) (by intro a ha; cases ha; simpa using hk)

/-- The cells of steps one behind the other. -/
def cs : List St → List Value
  | [] => []
  | x :: xs => .int .i64 x.fr :: .bool x.rt.neg :: .string x.rt.num :: .string x.rt.den :: cs xs
theorem cs_length : ∀ xs : List St, (cs xs).length = xs.length * 4
  | [] => rfl
  | x :: xs => by simp only [cs, List.length_cons, cs_length xs]; omega
theorem cs_append : ∀ xs ys : List St, cs (xs ++ ys) = cs xs ++ cs ys
  | [], _ => rfl
  | x :: xs, ys => by simp only [List.cons_append, cs, cs_append xs ys]
theorem cs_one : ∀ (xs : List St), ∀ u ∈ cs xs, u.oneCell' = true
  | [], u, h => by cases h
  | x :: xs, u, h => by
    simp only [cs, List.mem_cons] at h
    rcases h with rfl | rfl | rfl | rfl | h
    · rfl
    · rfl
    · rfl
    · rfl
    · exact cs_one xs u h
theorem cs_get : ∀ (xs : List St) (j : Nat), j < xs.length → (cs xs)[j * 4]? = some (.int .i64 (xs.getD j s0).fr) ∧ (cs xs)[j * 4 + 1]? = some (.bool (xs.getD j s0).rt.neg) ∧ (cs xs)[j * 4 + 2]? = some (.string (xs.getD j s0).rt.num) ∧ (cs xs)[j * 4 + 3]? = some (.string (xs.getD j s0).rt.den)
  | [], j, h => absurd h (by simp)
  | x :: xs, 0, _ => by simp [cs]
  | x :: xs, j + 1, h => by
    have := cs_get xs j (by simpa using h)
    rw [show (j + 1) * 4 = j * 4 + 4 by omega]
    simp only [cs, List.getElem?_cons_succ, List.getD_cons_succ, show j * 4 + 4 + 1 = j * 4 + 1 + 4 by omega, show j * 4 + 4 + 2 = j * 4 + 2 + 4 by omega, show j * 4 + 4 + 3 = j * 4 + 3 + 4 by omega]
    exact this
theorem cs_four {xs : List St} {i : Nat} {u : Value} (h : (cs xs)[i]? = some u) : ∃ j r, i = j * 4 + r ∧ r < 4 ∧ j < xs.length := by
  have hl : i < (cs xs).length := by
    rcases Nat.lt_or_ge i (cs xs).length with h1 | h1
    · exact h1
    · rw [List.getElem?_eq_none h1] at h; cases h
  rw [cs_length] at hl
  exact ⟨i / 4, i % 4, by omega, by omega, by omega⟩
theorem add_at (g o n : Nat) : (⟨g, o, none⟩ : Addr).add n = ⟨g, o + n, none⟩ := by
  unfold Addr.add; split
  · subst n; rfl
  · rfl
theorem Sds.cells {w : World} {g o : Nat} {xs : List St} (h : Sds w (some ⟨g, o, none⟩) xs) : ∀ i u, (cs xs)[i]? = some u → w.cell? ((⟨g, o, none⟩ : Addr).add i) = some u := by
  intro i u hu
  obtain ⟨j, r, rfl, hr, hj⟩ := cs_four hu
  obtain ⟨a, b, c, d, _⟩ := h.at_ hj
  obtain ⟨x, y, z, v⟩ := cs_get xs j hj
  rw [add_at]
  rcases (by omega : r = 0 ∨ r = 1 ∨ r = 2 ∨ r = 3) with rfl | rfl | rfl | rfl
  · rw [Nat.add_zero] at hu ⊢; rw [x] at hu; rw [a]; exact hu
  · rw [y] at hu; rw [← Nat.add_assoc, b]; exact hu
  · rw [z] at hu; rw [← Nat.add_assoc, c]; exact hu
  · rw [v] at hu; rw [← Nat.add_assoc, d]; exact hu
theorem Sds.of_cells {w : World} {g o : Nat} {xs : List St} (hlt : g < w.heap.size) (h : ∀ i u, (cs xs)[i]? = some u → w.cell? ((⟨g, o, none⟩ : Addr).add i) = some u) : Sds w (some ⟨g, o, none⟩) xs := by
  intro _
  refine ⟨g, o, rfl, hlt, fun j hj => ?_⟩
  obtain ⟨x, y, z, v⟩ := cs_get xs j hj
  refine ⟨?_, ?_, ?_, ?_, hlt⟩
  · have := h _ _ x; rwa [add_at] at this
  · have := h _ _ y; rwa [add_at, ← Nat.add_assoc] at this
  · have := h _ _ z; rwa [add_at, ← Nat.add_assoc] at this
  · have := h _ _ v; rwa [add_at, ← Nat.add_assoc] at this

/-- A slice of the program's own (nil, or from the head of a block on) that holds the steps xs. -/
def Own4 (w : World) (v : Value) (xs : List St) : Prop := w.ownsRow 0 49 4 v xs.length (cs xs)
theorem Own4.nil (w : World) : Own4 w (.slice none 0 0) [] := World.ownsRow_nil _ _ _ _
theorem Own4.form {w : World} {v : Value} {xs : List St} (h : Own4 w v xs) : (v = .slice none 0 0 ∧ xs = []) ∨ ∃ g cap, v = .slice (some ⟨g, 0, none⟩) xs.length cap ∧ g < w.heap.size ∧ xs.length ≤ cap ∧ cap ≤ 9223372036854775807 ∧ Sds w (some ⟨g, 0, none⟩) xs := by
  have h0 := h
  rcases h.2 with ⟨rfl, h1⟩ | ⟨g, cap, cur, rfl, hb, hgg, h1, h2, _⟩
  · refine .inl ⟨rfl, ?_⟩
    have := cs_length xs
    rw [h1] at this
    exact List.eq_nil_of_length_eq_zero (by simp at this; omega)
  · have hlt := (World.ownsRow.lt h0 g rfl).2
    exact .inr ⟨g, cap, rfl, hlt, h1, by simpa [maxLen] using h2, Sds.of_cells hlt (World.ownsRow.cells h0 rfl)⟩
theorem Own4.sds {w : World} {v : Value} {xs : List St} (h : Own4 w v xs) : ∃ A cap, v = .slice A xs.length cap ∧ xs.length ≤ cap ∧ cap ≤ 9223372036854775807 ∧ Sds w A xs := by
  rcases h.form with ⟨rfl, rfl⟩ | ⟨g, cap, rfl, _, h1, h2, h3⟩
  · exact ⟨none, 0, rfl, Nat.le_refl _, by omega, Sds.nil _ _⟩
  · exact ⟨_, cap, rfl, h1, h2, h3⟩
theorem Own4.keep {gs : List Nat} {w w' : World} {v : Value} {xs : List St} (h : Own4 w v xs) (hc : Chg gs w w') (hg : OffV gs v) : Own4 w' v xs := by
  have h0 := h
  refine ⟨h.1, ?_⟩
  rcases h.2 with h1 | ⟨g, cap, cur, rfl, hb, hgg, rest⟩
  · exact .inl h1
  · have hlt := (World.ownsRow.lt h0 g rfl).2
    have hn : g ∉ gs := hg g rfl
    exact .inr ⟨g, cap, cur, rfl, hb, (hc.block g hlt hn).trans hgg, rest⟩
theorem Own4.keep0 {w w' : World} {v : Value} {xs : List St} (h : Own4 w v xs) (hc : Chg [] w w') : Own4 w' v xs := h.keep hc (OffV.nil v)

theorem infoStep : (Try.prog.info? 49).map (fun i => (i.zero, i.size, i.bytes)) = some (some (.agg #[.int .i64 0, .bool false, .string ⟨#[]⟩, .string ⟨#[]⟩]), 4, 48) := by kernel_rfl
theorem underSteps : Try.prog.underlying 22 = some (.slice 49) := Try.underlying22

section
variable (w : World)
/-- Append of one step to a slice of the program's own. -/
theorem run_append4 (ty : TypeId) (v : Value) (xs : List St) (hown : Own4 w v xs) (ad : Addr) (c : Nat) (y : St) (hr : Sds w (some ad) [y]) (hb : xs.length + 1 ≤ 1000000000) :
    ∃ v' w', (Builtin.append_ #[22, 22] ty #[v, .slice (some ad) 1 c]).run Try.prog w = .ok v' w' ∧ Own4 w' v' (xs ++ [y]) ∧ Chg v.ownBlock.toList w w' ∧ (v'.ownBlock = v.ownBlock ∨ v'.ownBlock = some w.heap.size) := by
  obtain ⟨i, hi, hz0, hz1, hz2⟩ := info_parts infoStep
  have hlen : (xs ++ [y]).length = xs.length + 1 := List.length_append
  have hcells : ∀ j u, (cs [y])[j]? = some u → w.cell? (ad.add j) = some u := by
    intro j u hu
    obtain ⟨g, o, h, _⟩ := hr.form (by simp)
    simp only [Option.some.injEq] at h
    subst h
    exact hr.cells j u hu
  obtain ⟨v', w', hrun, h2, h3, _, h5⟩ := run_append_own_at (P := Try.prog) w 0 22 ty 49 i _ 4 48 underSteps hi hz0 hz1 hz2 rfl (by omega) v xs.length (cs xs) hown ad 1 c (cs [y]) (cs_length [y]) hcells (cs_one [y]) (by simp only [maxLen]; omega) (by omega) (Nat.zero_le _)
  refine ⟨v', w', hrun, ?_, Chg.of_grownv h3 (fun k hk => by rw [hk]; simp), h5⟩
  unfold Own4
  rw [hlen, cs_append]; exact h2
theorem wp_append4 {o : Oper} {a : Act} {K : Act → World → Prop} {Q : Exit → Act → World → Prop} (s x : Operand) (ho : o.op = .call { callee := .builtin .append, args := #[s, x], argTypes := #[22, 22] })
    (v : Value) (xs : List St) (hs : a.eval s = v) (hown : Own4 w v xs) (ad : Addr) (c : Nat) (y : St) (hx : a.eval x = .slice (some ad) 1 c) (hr : Sds w (some ad) [y]) (hb : xs.length + 1 ≤ 1000000000)
    (h : ∀ v' w', Own4 w' v' (xs ++ [y]) → Chg v.ownBlock.toList w w' → (v'.ownBlock = v.ownBlock ∨ v'.ownBlock = some w.heap.size) → K (a.put o.dst v') w') : Oper.wp Try.prog o a w K Q := by
  obtain ⟨v', w', hrun, h2, h3, h4⟩ := run_append4 w o.type v xs hown ad c y hr hb
  unfold Oper.wp execOp
  simp only [ho, resolve, invoke, builtin, Sem.run_bind, Sem.run_pure, Result.andThen_ok, List.map_toArray, List.map_cons, List.map_nil, hs, hx, hrun]
  exact h v' w' h2 h3 h4
theorem wpList_append4 {ops : Array Oper} {rest : List Oper} {o : Oper} {a : Act} {Q : Exit → Act → World → Prop} (hgd : o.guard = none) (s x : Operand) (ho : o.op = .call { callee := .builtin .append, args := #[s, x], argTypes := #[22, 22] })
    (v : Value) (xs : List St) (hs : a.eval s = v) (hown : Own4 w v xs) (ad : Addr) (c : Nat) (y : St) (hx : a.eval x = .slice (some ad) 1 c) (hr : Sds w (some ad) [y]) (hb : xs.length + 1 ≤ 1000000000)
    (h : ∀ v' w', Own4 w' v' (xs ++ [y]) → Chg v.ownBlock.toList w w' → (v'.ownBlock = v.ownBlock ∨ v'.ownBlock = some w.heap.size) → wpList Try.prog ops Q rest (a.put o.dst v') w') : wpList Try.prog ops Q (o :: rest) a w :=
  wpList_plain hgd fun _ hK => wp_append4 w s x ho v xs hs hown ad c y hx hr hb fun v' w' h2 h3 h4 => hK _ _ (h v' w' h2 h3 h4)
end
end Go.Proofs.Ytcfejphpflafiaa
