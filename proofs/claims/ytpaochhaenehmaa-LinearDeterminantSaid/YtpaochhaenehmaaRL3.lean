/-
  The builtin copy of numbers; matrices of the program's own that grow by append.
-/
import Derived.Test.YtpaochhaenehmaaGX
import Derived.Laws.IdiomCopy
namespace Go.Proofs.Ytpaochhaenehmaa
open Go.RowKit Nd

/-- zs with xs laid over it from place o on. -/
def fillL : List Q3 → Nat → List Q3 → List Q3
  | zs, _, [] => zs
  | zs, o, x :: xs => fillL (zs.set o x) (o + 1) xs
theorem fillL_length : ∀ (xs zs : List Q3) (o : Nat), (fillL zs o xs).length = zs.length
  | [], _, _ => rfl
  | x :: xs, zs, o => by rw [fillL, fillL_length xs, List.length_set]
theorem fillL_get : ∀ (xs zs : List Q3) (o j : Nat), o + xs.length ≤ zs.length → (fillL zs o xs).getD j q0 = if o ≤ j ∧ j < o + xs.length then xs.getD (j - o) q0 else zs.getD j q0
  | [], zs, o, j, _ => by rw [fillL, if_neg (by simp only [List.length_nil]; omega)]
  | x :: xs, zs, o, j, h => by
    rw [List.length_cons] at h
    rw [fillL, fillL_get xs (zs.set o x) (o + 1) j (by rw [List.length_set]; omega), getD_setM zs q0 x (by omega)]
    by_cases h1 : j = o
    · subst h1; rw [if_neg (by omega), if_pos rfl, if_pos (by simp)]; simp
    · by_cases h2 : o + 1 ≤ j ∧ j < o + 1 + xs.length
      · rw [if_pos h2, if_pos (by rw [List.length_cons]; omega), show j - o = (j - (o + 1)) + 1 by omega, List.getD_cons_succ]
      · rw [if_neg h2, if_neg h1, if_neg (by rw [List.length_cons]; omega)]
theorem Nums.fill {g cap : Nat} : ∀ (xs : List Q3) (zs : List Q3) (o : Nat) (w : World), Nums w g cap zs → o + xs.length ≤ zs.length → Nums (w.setCells g (o * 3) (cq xs)) g cap (fillL zs o xs)
  | [], zs, o, w, h, _ => h
  | x :: xs, zs, o, w, h, hl => by
    rw [List.length_cons] at hl
    have h2 := Nums.fill xs (zs.set o x) (o + 1) _ (h.store (i := o) (by omega) x) (by rw [List.length_set]; omega)
    rw [show (o + 1) * 3 = o * 3 + 1 + 1 + 1 by omega] at h2
    simpa only [cq, World.setCells, fillL] using h2
theorem Chg.setCells {gs : List Nat} {a : World} {g : Nat} (hg : g ∈ gs ∨ a.heap.size ≤ g) : ∀ (vs : List Value) (o : Nat) (w : World), Chg gs a w → Chg gs a (w.setCells g o vs)
  | [], _, _, h => h
  | v :: vs, o, w, h => by
    rw [World.setCells]
    exact Chg.setCells hg vs (o + 1) _ (h.setCell (p := ⟨g, o, none⟩) hg v)

/-- 'copy' of a row of numbers to the head of a block of the program's own. -/
theorem wpList_copy3 (w : World) {ops : Array Oper} {rest : List Oper} {o : Oper} {a : Act} {Q : Exit → Act → World → Prop} (hgd : o.guard = none) (d s : Operand)
    (ho : o.op = .call { callee := .builtin .copy, args := #[d, s], argTypes := #[33, 33] })
    (g c dl : Nat) (zs : List Q3) (hz : Nums w g c zs) (A : Option Addr) (n ca : Nat) (xs : List Q3) (hd : a.eval d = .slice (some ⟨g, 0, none⟩) dl c) (hs : a.eval s = .slice A n ca) (hdl : zs.length = dl) (hn : xs.length = n) (hle : n ≤ dl) (hr : Rds w A xs)
    (h : ∀ w', Nums w' g c (fillL zs 0 xs) → Chg [g] w w' → wpList Try.prog ops Q rest (a.put o.dst (goInt n)) w') : wpList Try.prog ops Q (o :: rest) a w := by
  obtain ⟨i, hi, hz0, hz1, hz2⟩ := info_parts Try.infoRat
  refine wpList_plain hgd fun K hK => ?_
  subst hn hdl
  have hmin : Nat.min xs.length zs.length = xs.length := Nat.min_eq_left hle
  have hrun : (Builtin.copy_ #[33, 33] o.type #[.slice (some ⟨g, 0, none⟩) zs.length c, .slice A xs.length ca]).run Try.prog w = .ok (goInt xs.length) (w.setCells g 0 (cq xs)) := by
    have hst := run_storeCells_cells (P := Try.prog) g 0 (cq xs) 0 w
      (fun j hj => by
        obtain ⟨k, r, rfl, hr3, hk⟩ := cq_three (List.getElem?_eq_getElem hj)
        obtain ⟨a0, a1, a2⟩ := hz.rds.zero_at (j := k) (by omega)
        simp only [Nat.zero_add, Nat.add_zero]
        rcases (by omega : r = 0 ∨ r = 1 ∨ r = 2) with rfl | rfl | rfl
        · rw [Nat.add_zero, a0]; rfl
        · rw [a1]; rfl
        · rw [a2]; rfl)
      (fun j _ => hz.frozen _) (cq_one xs)
    rcases A with _ | ad
    · have hx0 : xs = [] := by
        rcases Nat.eq_zero_or_pos xs.length with h0 | h0
        · exact List.eq_nil_of_length_eq_zero h0
        · obtain ⟨g, o, h, _⟩ := hr h0; cases h
      subst hx0
      simp [Builtin.copy_, run_underlying Try.under3, Builtin.lenOf, Builtin.firstCells, sizeOf, typeInfo, hi, storeCells, cq, World.setCells]
    · have hl := run_loadCells_list (P := Try.prog) w ad (cq xs) (fun j u hu => by
        rcases Nat.eq_zero_or_pos xs.length with h0 | h0
        · have hx0 : xs = [] := List.eq_nil_of_length_eq_zero h0
          subst hx0; simp [cq] at hu
        · obtain ⟨g9, o9, h9, _⟩ := hr.form h0
          simp only [Option.some.injEq] at h9
          subst h9
          exact hr.cells j u hu)
      rw [cq_length] at hl
      simp [Builtin.copy_, run_underlying Try.under3, Builtin.lenOf, Builtin.firstCells, sizeOf, typeInfo, hi, hz1, hmin, hl, hst]
  unfold Oper.wp
  simp [execOp, ho, resolve, invoke, builtin, hd, hs, hrun, Result.andThen]
  exact hK _ _ (h _ (by simpa using hz.fill xs zs 0 w (by omega)) (Chg.setCells (.inl (by simp)) _ _ _ (Chg.refl _ _)))

/-! ### matrices that grow -/
/-- A slice of slices of the program's own (nil, or from the head of a block on) with the rows M; no row lies in its block nor in one of gs. -/
structure MutV (w : World) (gs : List Nat) (v : Value) (M : List (List Q3)) : Prop where
  ex : ∃ hs : List Value, hs.length = M.length ∧ w.ownsRow 0 33 1 v M.length hs ∧ ∀ i, i < M.length → Slot w (v.ownBlock.toList ++ gs) (hs.getD i (.bool false)) (M.getD i [])
theorem MutV.nil (w : World) (gs : List Nat) : MutV w gs (.slice none 0 0) [] := ⟨[], rfl, World.ownsRow_nil _ _ _ _, fun i h => absurd h (by simp)⟩
theorem Mut.toV {w : World} {gs : List Nat} {g cap : Nat} {M : List (List Q3)} (h : Mut w gs g cap M) : MutV w gs (.slice (some ⟨g, 0, none⟩) M.length cap) M := by
  obtain ⟨hs, e, h1, h2⟩ := h.ex
  refine ⟨hs, e, ?_, fun i hi => by simpa [Value.ownBlock] using h2 i hi⟩
  unfold Hdr at h1
  rw [← e]; exact h1
theorem MutV.form {w : World} {gs : List Nat} {v : Value} {M : List (List Q3)} (h : MutV w gs v M) : (v = .slice none 0 0 ∧ M = []) ∨ ∃ g cap, v = .slice (some ⟨g, 0, none⟩) M.length cap ∧ Mut w gs g cap M := by
  obtain ⟨hs, e, h1, h2⟩ := h.ex
  rcases h1.2 with ⟨rfl, h3⟩ | ⟨g, cap, cur, rfl, hb, hgg, h3, h4, h5⟩
  · refine .inl ⟨rfl, ?_⟩
    exact List.eq_nil_of_length_eq_zero h3
  · refine .inr ⟨g, cap, rfl, hs, e, ?_, fun i hi => by simpa [Value.ownBlock] using h2 i hi⟩
    unfold Hdr
    rw [e]; exact h1
theorem MutV.keep0 {w w' : World} {gs : List Nat} {v : Value} {M : List (List Q3)} (h : MutV w gs v M) (hc : Chg [] w w') : MutV w' gs v M := by
  rcases h.form with ⟨rfl, rfl⟩ | ⟨g, cap, rfl, hM⟩
  · exact MutV.nil _ _
  · exact (hM.keep0 hc).toV
theorem MutV.mtx {w : World} {gs : List Nat} {v : Value} {M : List (List Q3)} (h : MutV w gs v M) : ∃ A cap, v = .slice A M.length cap ∧ M.length ≤ cap ∧ cap ≤ 9223372036854775807 ∧ Mtx w A M := by
  rcases h.form with ⟨rfl, rfl⟩ | ⟨g, cap, rfl, hM⟩
  · exact ⟨none, 0, rfl, Nat.le_refl _, by omega, Mtx.nil _ _⟩
  · exact ⟨_, cap, rfl, hM.fits.1, hM.fits.2, hM.mtx⟩
theorem getD_snocM {α : Type} (l : List α) (x d : α) (i : Nat) : (l ++ [x]).getD i d = if i = l.length then x else l.getD i d := by
  simp only [List.getD_eq_getElem?_getD]
  by_cases h : i = l.length
  · subst h; simp
  · rw [if_neg h]
    rcases Nat.lt_or_ge i l.length with h1 | h1
    · rw [List.getElem?_append_left h1]
    · rw [List.getElem?_eq_none (by simp; omega), List.getElem?_eq_none h1]
theorem run_appendM (w : World) (ty : TypeId) (gs : List Nat) (v : Value) (M : List (List Q3)) (hM : MutV w gs v M) (ad : Addr) (c : Nat) (B : Option Addr) (cb : Nat) (xs : List Q3) (hcell : w.cell? ad = some (.slice B xs.length cb)) (h1 : xs.length ≤ cb) (h2 : cb ≤ 9223372036854775807) (hx : Rds w B xs) (hoff : 0 < xs.length → Off (v.ownBlock.toList ++ gs) B) (hb : M.length ≤ 1000000) :
    ∃ v' w', (Builtin.append_ #[22, 22] ty #[v, .slice (some ad) 1 c]).run Try.prog w = .ok v' w' ∧ MutV w' gs v' (M ++ [xs]) ∧ Chg v.ownBlock.toList w w' ∧ (v'.ownBlock = v.ownBlock ∨ v'.ownBlock = some w.heap.size) := by
  obtain ⟨i, hi, hz0, hz1, hz2⟩ := info_parts Try.infoRats
  obtain ⟨hs, e, hown, hsl⟩ := hM.ex
  obtain ⟨v', w', hrun, g2, g3, _, g5⟩ := run_append_own_at (P := Try.prog) w 0 22 ty 33 i _ 1 24 Try.underlying22 hi hz0 hz1 hz2 rfl (by omega) v M.length hs hown ad 1 c [.slice B xs.length cb] rfl
    (fun j u hu => by
      cases j with
      | zero => simp at hu; subst hu; rw [show ad.add 0 = ad from by simp [Addr.add]]; exact hcell
      | succ j => simp at hu) (by intro u hu; simp at hu; subst hu; rfl) (by simp only [maxLen]; omega) (by omega) (Nat.zero_le _)
  have hch : Chg v.ownBlock.toList w w' := Chg.of_grownv g3 (fun k hk => by rw [hk]; simp)
  refine ⟨v', w', hrun, ⟨hs ++ [.slice B xs.length cb], by simp [e], by rw [List.length_append, List.length_singleton]; exact g2, fun j hj => ?_⟩, hch, g5⟩
  rw [List.length_append, List.length_singleton] at hj
  have key : ∀ {u : Value} {ys : List Q3}, Slot w (v.ownBlock.toList ++ gs) u ys → Slot w' (v'.ownBlock.toList ++ gs) u ys := by
    intro u ys h
    obtain ⟨B9, c9, rfl, a1, a2, a3, a4⟩ := h.ex
    refine ⟨B9, c9, rfl, a1, a2, a3.keepN hch (fun hl a ha hm => a4 hl a ha (List.mem_append_left _ hm)), fun hl a ha hm => ?_⟩
    rcases List.mem_append.1 hm with h5 | h5
    · rcases g5 with h6 | h6
      · rw [h6] at h5; exact a4 hl a ha (List.mem_append_left _ h5)
      · rw [h6] at h5
        simp at h5
        obtain ⟨g9, o9, he, hlt⟩ := a3.form hl
        rw [he] at ha; cases ha
        simp only at h5
        omega
    · exact a4 hl a ha (List.mem_append_right _ h5)
  rw [getD_snocM, getD_snocM, e]
  by_cases hje : j = M.length
  · rw [if_pos hje, if_pos hje]
    exact key ⟨B, cb, rfl, h1, h2, hx, hoff⟩
  · rw [if_neg hje, if_neg hje]
    exact key (hsl j (by omega))
theorem wpList_appendM (w : World) {ops : Array Oper} {rest : List Oper} {o : Oper} {a : Act} {Q : Exit → Act → World → Prop} (hgd : o.guard = none) (s x : Operand) (ho : o.op = .call { callee := .builtin .append, args := #[s, x], argTypes := #[22, 22] })
    (gs : List Nat) (v : Value) (M : List (List Q3)) (hs : a.eval s = v) (hM : MutV w gs v M) (ad : Addr) (c : Nat) (B : Option Addr) (n cb : Nat) (xs : List Q3) (hx : a.eval x = .slice (some ad) 1 c) (hcell : w.cell? ad = some (.slice B n cb)) (hn : xs.length = n) (h1 : n ≤ cb) (h2 : cb ≤ 9223372036854775807) (hr : Rds w B xs) (hoff : 0 < xs.length → Off (v.ownBlock.toList ++ gs) B) (hb : M.length ≤ 1000000)
    (h : ∀ v' w', MutV w' gs v' (M ++ [xs]) → Chg v.ownBlock.toList w w' → (v'.ownBlock = v.ownBlock ∨ v'.ownBlock = some w.heap.size) → wpList Try.prog ops Q rest (a.put o.dst v') w') : wpList Try.prog ops Q (o :: rest) a w := by
  subst hn
  refine wpList_plain hgd fun K hK => ?_
  obtain ⟨v', w', hrun, g2, g3, g4⟩ := run_appendM w o.type gs v M hM ad c B cb xs hcell h1 h2 hr hoff hb
  unfold Oper.wp execOp
  simp only [ho, resolve, invoke, builtin, Sem.run_bind, Sem.run_pure, Result.andThen_ok, List.map_toArray, List.map_cons, List.map_nil, hs, hx, hrun]
  exact hK _ _ (h v' w' g2 g3 g4)

end Go.Proofs.Ytpaochhaenehmaa
