/-
  The reference's Solution, Solve.
-/
import Derived.Test.YtpaochhaenehmaaLA22
import Derived.Test.YtpaochhaenehmaaLM4
namespace Go.Proofs.Ytpaochhaenehmaa
open Go.RowKit Nd

theorem wp_appendM (w : World) {o : Oper} {a : Act} {K : Act → World → Prop} {Q : Exit → Act → World → Prop} (s x : Operand) (ho : o.op = .call { callee := .builtin .append, args := #[s, x], argTypes := #[22, 22] })
    (gs : List Nat) (v : Value) (M : List (List Q3)) (hs : a.eval s = v) (hM : MutV w gs v M) (ad : Addr) (c : Nat) (B : Option Addr) (n cb : Nat) (xs : List Q3) (hx : a.eval x = .slice (some ad) 1 c) (hcell : w.cell? ad = some (.slice B n cb)) (hn : xs.length = n) (h1 : n ≤ cb) (h2 : cb ≤ 9223372036854775807) (hr : Rds w B xs) (hoff : 0 < xs.length → Off (v.ownBlock.toList ++ gs) B) (hb : M.length ≤ 1000000)
    (h : ∀ v' w', MutV w' gs v' (M ++ [xs]) → Chg v.ownBlock.toList w w' → (v'.ownBlock = v.ownBlock ∨ v'.ownBlock = some w.heap.size) → K (a.put o.dst v') w') : Oper.wp Try.prog o a w K Q := by
  subst hn
  obtain ⟨v', w', hrun, g2, g3, g4⟩ := run_appendM w o.type gs v M hM ad c B cb xs hcell h1 h2 hr hoff hb
  unfold Oper.wp execOp
  simp only [ho, resolve, invoke, builtin, Sem.run_bind, Sem.run_pure, Result.andThen_ok, List.map_toArray, List.map_cons, List.map_nil, hs, hx, hrun]
  exact h _ _ g2 g3 g4
theorem step_appendM (w : World) {ops : Array Oper} {o : Oper} {a : Act} {K : Act → World → Prop} {Q : Exit → Act → World → Prop} {E : Prop} (hgd : o.guard = none) (s x : Operand) (ho : o.op = .call { callee := .builtin .append, args := #[s, x], argTypes := #[22, 22] })
    (gs : List Nat) (v : Value) (M : List (List Q3)) (hs : a.eval s = v) (hM : MutV w gs v M) (ad : Addr) (c : Nat) (B : Option Addr) (n cb : Nat) (xs : List Q3) (hx : a.eval x = .slice (some ad) 1 c) (hcell : w.cell? ad = some (.slice B n cb)) (hn : xs.length = n) (h1 : n ≤ cb) (h2 : cb ≤ 9223372036854775807) (hr : Rds w B xs) (hoff : 0 < xs.length → Off (v.ownBlock.toList ++ gs) B) (hb : M.length ≤ 1000000)
    (h : ∀ v' w', MutV w' gs v' (M ++ [xs]) → Chg v.ownBlock.toList w w' → (v'.ownBlock = v.ownBlock ∨ v'.ownBlock = some w.heap.size) → K (a.put o.dst v') w') :
    if Region.wanted o (yielded ops a.tmps) = true then Oper.wp Try.prog o a w K Q else E := by
  have hw : Region.wanted o (yielded ops a.tmps) = true := by simp [Region.wanted, hgd]
  rw [if_pos hw]
  exact wp_appendM w s x ho gs v M hs hM ad c B n cb xs hx hcell hn h1 h2 hr hoff hb h

/-- What Solution answers. -/
def SolR (F : Nat → Nat → Rat) (n K : Nat) (e : Ending) (w' : World) : Prop :=
  if (ech F n n).2.length = n then ∃ v zs, e = .returned (.tuple #[v, .bool true]) ∧ Own3 w' v zs ∧ Row1 zs (fun r => (ech F n n).1 r n) n K
  else e = .returned (.tuple #[.slice none 0 0, .bool false])
theorem aug_vals {M2 Ma : List (List Q3)} {xs : List Q3} {Q : Nat → Nat → Rat} {p : Nat → Rat} {n k : Nat} (hv : Vals M2 Q n n k) (hx : Row1 xs p n k) (hl : Ma.length = n) (h : ∀ t, t < n → Ma.getD t [] = M2.getD t [] ++ [xs.getD t q0]) : Vals Ma (fun i j => if j < n then Q i j else p i) n (n + 1) k := by
  refine ⟨hl, fun i hi => by rw [h i hi, List.length_append, hv.row i hi]; rfl, fun i hi j hj => ?_⟩
  rw [h i hi]
  by_cases hjn : j < n
  · simp only [hjn, if_true]
    have := hv.val i hi j hjn
    rwa [show (M2.getD i [] ++ [xs.getD i q0]).getD j q0 = (M2.getD i []).getD j q0 by
      simp only [List.getD_eq_getElem?_getD]; rw [List.getElem?_append_left (by have := hv.row i hi; simp only [List.getD_eq_getElem?_getD] at this; omega)]]
  · obtain rfl : j = n := by omega
    simp only [Nat.lt_irrefl, if_false]
    have := hx.val i hi
    have e : (M2.getD i [] ++ [xs.getD i q0]).getD j q0 = xs.getD i q0 := by
      have h9 := hv.row i hi
      rw [getD_snocM, h9, if_pos rfl]
    rw [e]; exact this

end Go.Proofs.Ytpaochhaenehmaa
