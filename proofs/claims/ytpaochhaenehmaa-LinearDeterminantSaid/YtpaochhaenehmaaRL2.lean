/-
  Slices of the program's own: numbers (made, stored into), and slices of numbers (made, stored into, appended to).
-/
import Derived.Test.YtpaochhaenehmaaLX1
namespace Go.Proofs.Ytpaochhaenehmaa
open Go.RowKit Nd

theorem cq_set : ∀ (xs : List Q3) (i : Nat) (z : Q3), i < xs.length → cq (xs.set i z) = (((cq xs).set (i * 3) (.bool z.neg)).set (i * 3 + 1) (.string z.num)).set (i * 3 + 2) (.string z.den)
  | [], i, z, h => absurd h (by simp)
  | x :: xs, 0, z, _ => rfl
  | x :: xs, i + 1, z, h => by
    have := cq_set xs i z (by simpa using h)
    rw [List.set_cons_succ]
    simp only [cq]
    rw [this, show (i + 1) * 3 = i * 3 + 1 + 1 + 1 by omega, show i * 3 + 1 + 1 + 1 + 1 = (i * 3 + 1) + 1 + 1 + 1 by omega, show i * 3 + 1 + 1 + 1 + 2 = (i * 3 + 2) + 1 + 1 + 1 by omega]
    simp only [List.set_cons_succ]
/-- Block g, of capacity cap, holds the numbers xs from its head on; it is the program's own. -/
def Nums (w : World) (g cap : Nat) (xs : List Q3) : Prop := Own3 w (.slice (some ⟨g, 0, none⟩) xs.length cap) xs
section
variable {w w' : World} {g cap : Nat} {xs : List Q3}
theorem Nums.lt (h : Nums w g cap xs) : g < w.heap.size := (World.ownsRow.lt h g rfl).2
theorem Nums.frozen (h : Nums w g cap xs) (j : Nat) : w.frozen? ⟨g, j, none⟩ = false := World.ownsRow.frozenAt h j
theorem Nums.fits (h : Nums w g cap xs) : xs.length ≤ cap ∧ cap ≤ 9223372036854775807 := by
  rcases Own3.form h with ⟨h1, _⟩ | ⟨g', cap', h1, _, h2, h3, _⟩
  · cases h1
  · simp only [Value.slice.injEq, Option.some.injEq, Addr.mk.injEq, and_true, true_and] at h1
    obtain ⟨rfl, rfl⟩ := h1
    exact ⟨h2, h3⟩
theorem Nums.rds (h : Nums w g cap xs) : Rds w (some ⟨g, 0, none⟩) xs := Rds.of_cells h.lt (World.ownsRow.cells h rfl)
theorem Nums.keep {gs : List Nat} (h : Nums w g cap xs) (hc : Chg gs w w') (hg : g ∉ gs) : Nums w' g cap xs :=
  Own3.keep h hc (fun k hk => by simp [Value.ownBlock] at hk; subst hk; exact hg)
theorem Nums.store (h : Nums w g cap xs) {i : Nat} (hi : i < xs.length) (z : Q3) :
    Nums (((w.setCell ⟨g, i * 3, none⟩ (.bool z.neg)).setCell ⟨g, i * 3 + 1, none⟩ (.string z.num)).setCell ⟨g, i * 3 + 2, none⟩ (.string z.den)) g cap (xs.set i z) := by
  have h1 := (World.ownsRow.stored h (i * 3) (.bool z.neg)).1
  have h2 := (World.ownsRow.stored h1 (i * 3 + 1) (.string z.num)).1
  have h3 := (World.ownsRow.stored h2 (i * 3 + 2) (.string z.den)).1
  unfold Nums Own3
  rw [cq_set xs i z hi, List.length_set]
  exact h3
end
theorem Rds.zero_at {w : World} {g : Nat} {xs : List Q3} (h : Rds w (some ⟨g, 0, none⟩) xs) {j : Nat} (hj : j < xs.length) :
    w.cell? ⟨g, j * 3, none⟩ = some (.bool (xs.getD j q0).neg) ∧ w.cell? ⟨g, j * 3 + 1, none⟩ = some (.string (xs.getD j q0).num) ∧ w.cell? ⟨g, j * 3 + 2, none⟩ = some (.string (xs.getD j q0).den) := by
  have := h.at_ hj
  simp only [Nat.zero_add] at this
  exact this.2

theorem made3 (n : Nat) : (madeCells (Value.agg #[.bool false, .string ⟨#[]⟩, .string ⟨#[]⟩]).cells (n * 3)).toList = cq (List.replicate n q0) := by
  have hc : (Value.agg #[.bool false, .string ⟨#[]⟩, .string ⟨#[]⟩]).cells = #[.bool false, .string ⟨#[]⟩, .string ⟨#[]⟩] := rfl
  rw [hc]
  apply List.ext_getElem?
  intro i
  by_cases hi : i < n * 3
  · obtain ⟨j, r, rfl, hr, hj⟩ : ∃ j r, i = j * 3 + r ∧ r < 3 ∧ j < n := ⟨i / 3, i % 3, by omega, by omega, by omega⟩
    obtain ⟨e0, e1, e2⟩ := cq_get (List.replicate n q0) j (by simpa using hj)
    have hq : (List.replicate n q0).getD j q0 = q0 := by simp [List.getD_eq_getElem?_getD, hj]
    rw [hq] at e0 e1 e2
    rcases (by omega : r = 0 ∨ r = 1 ∨ r = 2) with rfl | rfl | rfl
    · rw [Nat.add_zero, e0]; simp [madeCells, show j * 3 < n * 3 by omega, q0]
    · rw [e1]; simp [madeCells, show j * 3 + 1 < n * 3 by omega, q0, Nat.mul_add_mod_self_right]
    · rw [e2]; simp [madeCells, show j * 3 + 2 < n * 3 by omega, q0, Nat.mul_add_mod_self_right]
  · rw [List.getElem?_eq_none (by rw [Array.length_toList, size_madeCells]; omega), List.getElem?_eq_none (by rw [cq_length]; simp; omega)]
/-- 'make([]api.Rat, n)'. -/
theorem wpList_make3 (w : World) {ops : Array Oper} {rest : List Oper} {o : Oper} {a : Act} {Q : Exit → Act → World → Prop}
    (hg : o.guard = none) (l c : Operand) (hop : o.op = Op.makeSlice 33 l c) (L C : Int) (n : Nat) (hl : a.eval l = .int .i64 L) (hc : a.eval c = .int .i64 C) (hL : L = (n : Int)) (hC : C = (n : Int)) (hn : n ≤ 1000000)
    (hK : ∀ w', Nums w' w.heap.size n (List.replicate n q0) → Chg [] w w' → wpList Try.prog ops Q rest (a.put o.dst (.slice (some ⟨w.heap.size, 0, none⟩) n n)) w') :
    wpList Try.prog ops Q (o :: rest) a w := by
  obtain ⟨i, hi, hz0, hz1, hz2⟩ := info_parts Try.infoRat
  refine wpList_plain hg fun K hK' => ?_
  subst hL
  subst hC
  have hrun := run_make (P := Try.prog) w 33 26 i _ Try.under3 hi hz0 .i64 .i64 n n (by omega) (by omega) (by rw [hz2]; omega) (by omega)
  unfold Oper.wp
  simp [execOp, hop, hl, hc, hrun, Result.andThen]
  refine hK' _ _ (hK _ ?_ ((Chg.refl _ _).alloc _))
  have hlen : (List.replicate n q0).length = n := by simp
  have hown : (w.alloc (.cells (madeCells (Value.agg #[.bool false, .string ⟨#[]⟩, .string ⟨#[]⟩]).cells (n * i.size)) 26)).ownsRow 0 26 3 (.slice (some ⟨w.heap.size, 0, none⟩) n n) n (madeCells (Value.agg #[.bool false, .string ⟨#[]⟩, .string ⟨#[]⟩]).cells (n * i.size)).toList :=
    World.ownsRow_lit w _ n (Nat.zero_le _) (by simp only [maxLen]; omega) (by rw [size_madeCells, hz1])
  rw [hz1] at hown ⊢
  rw [made3] at hown
  unfold Nums Own3
  rw [hlen]
  exact hown

/-! ### slices of slices -/
theorem Try.infoRats : (Try.prog.info? 33).map (fun i => (i.zero, i.size, i.bytes)) = some (some (.slice none 0 0), 1, 24) := by kernel_rfl
/-- Block g, of capacity cap, holds the slices hs from its head on; it is the program's own. -/
def Hdr (w : World) (g cap : Nat) (hs : List Value) : Prop := w.ownsRow 0 33 1 (.slice (some ⟨g, 0, none⟩) hs.length cap) hs.length hs
section
variable {w w' : World} {g cap : Nat} {hs : List Value}
theorem Hdr.lt (h : Hdr w g cap hs) : g < w.heap.size := (World.ownsRow.lt h g rfl).2
theorem Hdr.frozen (h : Hdr w g cap hs) (j : Nat) : w.frozen? ⟨g, j, none⟩ = false := World.ownsRow.frozenAt h j
theorem Hdr.cell (h : Hdr w g cap hs) {j : Nat} (hj : j < hs.length) : w.cell? ⟨g, j, none⟩ = some (hs.getD j (.bool false)) := by
  rw [World.ownsRow.cellAt h j (by omega), List.getD_eq_getElem?_getD, List.getElem?_eq_getElem hj]; rfl
theorem Hdr.keep {gs : List Nat} (h : Hdr w g cap hs) (hc : Chg gs w w') (hg : g ∉ gs) : Hdr w' g cap hs := by
  have hlt := h.lt
  refine ⟨h.1, ?_⟩
  rcases h.2 with hn | ⟨g', cap', cur, hv, hb, hgg, rest⟩
  · simp at hn
  · simp only [Value.slice.injEq, Option.some.injEq, Addr.mk.injEq, and_true, true_and] at hv
    obtain ⟨rfl, rfl⟩ := hv
    exact .inr ⟨g, cap, cur, rfl, hb, (hc.block g hlt hg).trans hgg, rest⟩
theorem Hdr.store (h : Hdr w g cap hs) (j : Nat) (v : Value) : Hdr (w.setCell ⟨g, j, none⟩ v) g cap (hs.set j v) := by
  have := (World.ownsRow.stored h j v).1
  unfold Hdr
  rw [List.length_set]
  exact this
theorem Hdr.fits (h : Hdr w g cap hs) : hs.length ≤ cap ∧ cap ≤ 9223372036854775807 := by
  rcases h.2 with hn | ⟨g', cap', cur, hv, hb, hgg, h1, h2, _⟩
  · simp at hn
  · simp only [Value.slice.injEq, Option.some.injEq, Addr.mk.injEq, and_true, true_and] at hv
    obtain ⟨rfl, rfl⟩ := hv
    exact ⟨h1, by simpa [maxLen] using h2⟩
end
theorem Rds.keepN {gs : List Nat} {w w' : World} {A : Option Addr} {xs : List Q3} (h : Rds w A xs) (hc : Chg gs w w') (hg : 0 < xs.length → Off gs A) : Rds w' A xs := fun hl => (h.keep hc (hg hl)) hl
/-- The slice v holds the row xs; its block is none of gs. -/
structure Slot (w : World) (gs : List Nat) (v : Value) (xs : List Q3) : Prop where
  ex : ∃ B c, v = .slice B xs.length c ∧ xs.length ≤ c ∧ c ≤ 9223372036854775807 ∧ Rds w B xs ∧ (0 < xs.length → Off gs B)
theorem Slot.keep {w w' : World} {gs hs : List Nat} {v : Value} {xs : List Q3} (h : Slot w gs v xs) (hc : Chg hs w w') (hh : ∀ x, x ∈ hs → x ∈ gs) : Slot w' gs v xs := by
  obtain ⟨B, c, e, h1, h2, h3, h4⟩ := h.ex
  exact ⟨B, c, e, h1, h2, h3.keepN hc (fun hl a ha hm => h4 hl a ha (hh _ hm)), h4⟩
/-- A matrix of the program's own: block g holds the slices; no row lies in g, none in a block of gs. -/
structure Mut (w : World) (gs : List Nat) (g cap : Nat) (M : List (List Q3)) : Prop where
  ex : ∃ hs : List Value, hs.length = M.length ∧ Hdr w g cap hs ∧ ∀ i, i < M.length → Slot w (g :: gs) (hs.getD i (.bool false)) (M.getD i [])
section
variable {w w' : World} {gs : List Nat} {g cap : Nat} {M : List (List Q3)}
theorem Mut.lt (h : Mut w gs g cap M) : g < w.heap.size := by obtain ⟨hs, _, h1, _⟩ := h.ex; exact h1.lt
theorem Mut.frozen (h : Mut w gs g cap M) (j : Nat) : w.frozen? ⟨g, j, none⟩ = false := by obtain ⟨hs, _, h1, _⟩ := h.ex; exact h1.frozen j
theorem Mut.fits (h : Mut w gs g cap M) : M.length ≤ cap ∧ cap ≤ 9223372036854775807 := by obtain ⟨hs, e, h1, _⟩ := h.ex; rw [← e]; exact h1.fits
theorem Mut.keepg {hs : List Nat} (h : Mut w gs g cap M) (hc : Chg hs w w') (hg : g ∉ hs) (hh : ∀ x, x ∈ hs → x ∈ gs) : Mut w' gs g cap M := by
  obtain ⟨l, e, h1, h2⟩ := h.ex
  exact ⟨l, e, h1.keep hc hg, fun i hi => (h2 i hi).keep hc (fun x hx => List.mem_cons_of_mem _ (hh x hx))⟩
theorem Mut.keep0 (h : Mut w gs g cap M) (hc : Chg [] w w') : Mut w' gs g cap M := h.keepg hc (by simp) (fun _ h => by cases h)
/-- Other blocks to keep off: new ones. -/
theorem Mut.regs {hs : List Nat} (h : Mut w gs g cap M) (hh : ∀ x, x ∈ hs → x ∈ gs ∨ w.heap.size ≤ x) : Mut w hs g cap M := by
  obtain ⟨l, e, h1, h2⟩ := h.ex
  refine ⟨l, e, h1, fun i hi => ?_⟩
  obtain ⟨B, c, e2, a, b, d, f⟩ := (h2 i hi).ex
  refine ⟨B, c, e2, a, b, d, fun hl a ha hm => ?_⟩
  obtain ⟨g2, o2, he, hlt⟩ := d.form hl
  rw [he] at ha
  cases ha
  rcases List.mem_cons.1 hm with h3 | h3
  · exact f hl _ he (by rw [h3]; exact List.mem_cons_self ..)
  · rcases hh _ h3 with h5 | h5
    · exact f hl _ he (List.mem_cons_of_mem _ h5)
    · have h6 : w.heap.size ≤ g2 := h5
      omega
theorem Mut.at_ (h : Mut w gs g cap M) {i : Nat} (hi : i < M.length) :
    ∃ B c, w.cell? ⟨g, i, none⟩ = some (.slice B (M.getD i []).length c) ∧ (M.getD i []).length ≤ c ∧ c ≤ 9223372036854775807 ∧ Rds w B (M.getD i []) ∧ (0 < (M.getD i []).length → Off (g :: gs) B) := by
  obtain ⟨hs, e, h1, h2⟩ := h.ex
  obtain ⟨B, c, e2, a, b, d, f⟩ := (h2 i hi).ex
  exact ⟨B, c, by rw [h1.cell (by omega), e2], a, b, d, f⟩
theorem Mut.mtx (h : Mut w gs g cap M) : Mtx w (some ⟨g, 0, none⟩) M := by
  intro _
  refine ⟨g, 0, rfl, h.lt, fun i hi => ?_⟩
  obtain ⟨B, c, a, b, d, e, _⟩ := h.at_ hi
  exact ⟨B, c, by rw [Nat.zero_add]; exact a, b, d, e⟩
end
theorem getD_setM {α : Type} (l : List α) (d v : α) {i j : Nat} (hj : j < l.length) : (l.set j v).getD i d = if i = j then v else l.getD i d := by
  simp only [List.getD_eq_getElem?_getD, List.getElem?_set]
  by_cases h : i = j
  · subst h; simp [hj]
  · simp [h, Ne.symm h]
theorem Mut.store {w : World} {gs : List Nat} {g cap : Nat} {M : List (List Q3)} (h : Mut w gs g cap M) {i : Nat} (hi : i < M.length) {B : Option Addr} {c : Nat} {xs : List Q3} (h1 : xs.length ≤ c) (h2 : c ≤ 9223372036854775807) (h3 : Rds w B xs) (h4 : 0 < xs.length → Off (g :: gs) B) :
    Mut (w.setCell ⟨g, i, none⟩ (.slice B xs.length c)) gs g cap (M.set i xs) := by
  obtain ⟨hs, e, g1, g2⟩ := h.ex
  have hc : Chg [g] w (w.setCell ⟨g, i, none⟩ (.slice B xs.length c)) := (Chg.refl [g] w).setCell (.inl (by simp)) _
  have hsub : ∀ x, x ∈ [g] → x ∈ g :: gs := fun x hx => by simp at hx; subst hx; exact List.mem_cons_self ..
  refine ⟨hs.set i (.slice B xs.length c), by simp [e], g1.store i _, fun j hj => ?_⟩
  rw [List.length_set] at hj
  rw [getD_setM hs (.bool false) _ (by omega), getD_setM M [] _ hi]
  by_cases hji : j = i
  · rw [if_pos hji, if_pos hji]
    exact ⟨B, c, rfl, h1, h2, h3.keepN hc (fun hl a ha hm => h4 hl a ha (hsub _ hm)), h4⟩
  · rw [if_neg hji, if_neg hji]
    exact (g2 j hj).keep hc hsub
theorem Off.of_new {g k : Nat} (hk : g < k) : Off [g] (some ⟨k, 0, none⟩) := by
  intro a ha hm
  cases ha
  simp at hm
  omega
/-- 'make([][]api.Rat, n)'. -/
theorem wpList_makeM (w : World) {ops : Array Oper} {rest : List Oper} {o : Oper} {a : Act} {Q : Exit → Act → World → Prop}
    (hg : o.guard = none) (l c : Operand) (hop : o.op = Op.makeSlice 22 l c) (L C : Int) (n : Nat) (hl : a.eval l = .int .i64 L) (hc : a.eval c = .int .i64 C) (hL : L = (n : Int)) (hC : C = (n : Int)) (hn : n ≤ 1000000)
    (gs : List Nat) (hK : ∀ w', Mut w' gs w.heap.size n (List.replicate n []) → Chg [] w w' → wpList Try.prog ops Q rest (a.put o.dst (.slice (some ⟨w.heap.size, 0, none⟩) n n)) w') :
    wpList Try.prog ops Q (o :: rest) a w := by
  obtain ⟨i, hi, hz0, hz1, hz2⟩ := info_parts Try.infoRats
  refine wpList_plain hg fun K hK' => ?_
  subst hL
  subst hC
  have hrun := run_make (P := Try.prog) w 22 33 i _ Try.underlying22 hi hz0 .i64 .i64 n n (by omega) (by omega) (by rw [hz2]; omega) (by omega)
  unfold Oper.wp
  simp [execOp, hop, hl, hc, hrun, Result.andThen]
  refine hK' _ _ (hK _ ?_ ((Chg.refl _ _).alloc _))
  have hown : (w.alloc (.cells (madeCells (Value.slice none 0 0).cells (n * i.size)) 33)).ownsRow 0 33 1 (.slice (some ⟨w.heap.size, 0, none⟩) n n) n (madeCells (Value.slice none 0 0).cells (n * i.size)).toList :=
    World.ownsRow_lit w _ n (Nat.zero_le _) (by simp only [maxLen]; omega) (by rw [size_madeCells, hz1])
  have hl2 : (madeCells (Value.slice none 0 0).cells (n * i.size)).toList = List.replicate n (.slice none 0 0) := by rw [hz1, Nat.mul_one]; exact toList_madeCells_one _ _
  rw [hl2] at hown
  refine ⟨List.replicate n (.slice none 0 0), by simp, by unfold Hdr; rw [List.length_replicate]; exact hown, fun j hj => ?_⟩
  have hj2 : j < n := by simpa using hj
  have e1 : (List.replicate n (Value.slice none 0 0)).getD j (.bool false) = .slice none 0 0 := by simp [List.getD_eq_getElem?_getD, hj2]
  have e2 : (List.replicate n ([] : List Q3)).getD j [] = [] := by simp [List.getD_eq_getElem?_getD, hj2]
  rw [e1, e2]
  exact ⟨none, 0, rfl, Nat.le_refl _, by omega, Rds.nil _ _, fun _ a ha => by cases ha⟩

end Go.Proofs.Ytpaochhaenehmaa
