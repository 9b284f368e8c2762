/-
  Apportion: blocks of elements of one cell, written and read; make.
-/
import Derived.Test.YtgdpcpbmjgaliaaV21
import Derived.Test.YtgdpcpbmjgaliaaGS
import Derived.Test.YtgdpcpbmjgaliaaAM2
import Derived.BigQuiet
import Derived.Deep.RegionHeld3
import Derived.Lib.MinMax
import Derived.Laws.OwnMore
namespace Go.Proofs.Ytgdpcpbmjgaliaa
open Go.RowKit Nd

theorem Blk3.keep0 {w w' : World} {g : Nat} {a b c : Value} (h : Blk3 w g a b c) (hc : Chg [] w w') : Blk3 w' g a b c := h.keep hc (by simp)
/-- A cell that can be read. -/
structure C1 (w : World) (g j : Nat) (v : Value) : Prop where
  c0 : w.cell? ⟨g, j, none⟩ = some v
  l : g < w.heap.size
theorem C1.keep {gs : List Nat} {w w' : World} {g j : Nat} {v : Value} (h : C1 w g j v) (hc : Chg gs w w') (hg : g ∉ gs) : C1 w' g j v :=
  ⟨(hc.cell (p := ⟨g, _, none⟩) h.l hg).trans h.c0, Nat.lt_of_lt_of_le h.l hc.size⟩
theorem C1.keep0 {w w' : World} {g j : Nat} {v : Value} (h : C1 w g j v) (hc : Chg [] w w') : C1 w' g j v := h.keep hc (by simp)
/-- Block g holds n elements, f of the place, and can be written. -/
structure Fb (w : World) (g n : Nat) (f : Nat → Value) : Prop where
  cell : ∀ j, j < n → w.cell? ⟨g, j, none⟩ = some (f j)
  frz : ∀ j, j < n → w.frozen? ⟨g, j, none⟩ = false
  lt : g < w.heap.size
theorem Fb.keep {gs : List Nat} {w w' : World} {g n : Nat} {f : Nat → Value} (h : Fb w g n f) (hc : Chg gs w w') (hg : g ∉ gs) : Fb w' g n f :=
  ⟨fun j hj => (hc.cell (p := ⟨g, j, none⟩) h.lt hg).trans (h.cell j hj), fun j hj => (World.frozen?_of_block (hc.block _ h.lt hg)).trans (h.frz j hj), Nat.lt_of_lt_of_le h.lt hc.size⟩
theorem Fb.keep0 {w w' : World} {g n : Nat} {f : Nat → Value} (h : Fb w g n f) (hc : Chg [] w w') : Fb w' g n f := h.keep hc (by simp)
theorem Fb.congr {w : World} {g n : Nat} {f f' : Nat → Value} (h : Fb w g n f) (he : ∀ j, j < n → f j = f' j) : Fb w g n f' :=
  ⟨fun j hj => by rw [← he j hj]; exact h.cell j hj, h.frz, h.lt⟩
theorem Fb.store {w : World} {g n : Nat} {f : Nat → Value} (h : Fb w g n f) {j : Nat} (hj : j < n) (v : Value) (f' : Nat → Value) (h1 : f' j = v) (h2 : ∀ i, i < n → i ≠ j → f' i = f i) : Fb (w.setCell ⟨g, j, none⟩ v) g n f' where
  cell i hi := by
    by_cases e : i = j
    · subst e; rw [h1]; simp [go_sem, h.cell i hi]
    · rw [h2 i hi e, ← h.cell i hi]; simp [go_sem]
  frz i hi := by rw [World.frozen?_setCell]; exact h.frz i hi
  lt := by simpa using h.lt
theorem Fb.sto {w : World} {g n h : Nat} {f : Nat → Value} (hf : Fb w g n f) (hg : g ≠ h) (j : Nat) (v : Value) : Fb (w.setCell ⟨h, j, none⟩ v) g n f :=
  hf.keep ((Chg.refl [h] w).setCell (p := ⟨h, j, none⟩) (.inl (by simp)) v) (by simpa using hg)
theorem Rds.sto {w : World} {g o h : Nat} {xs : List Q3} (hx : Rds w (some ⟨g, o, none⟩) xs) (hg : g ≠ h) (j : Nat) (v : Value) : Rds (w.setCell ⟨h, j, none⟩ v) (some ⟨g, o, none⟩) xs :=
  hx.keep ((Chg.refl [h] w).setCell (p := ⟨h, j, none⟩) (.inl (by simp)) v) (by intro a ha; cases ha; simpa using hg)
/-- A function changed at one place. -/
def upd {α : Type} (f : Nat → α) (j : Nat) (v : α) : Nat → α := fun i => if i = j then v else f i
theorem upd_at {α : Type} (f : Nat → α) (j : Nat) (v : α) : upd f j v j = v := if_pos rfl
theorem upd_ne {α : Type} (f : Nat → α) {i j : Nat} (v : α) (h : i ≠ j) : upd f j v i = f i := if_neg h

/-- 'make([]T, n)', of elements of one cell. -/
theorem run_makeF {P : Program} (w : World) (t e : TypeId) (i : TypeInfo) (z : Value) (h1 : P.underlying t = some (.slice e)) (h2 : P.info? e = some i) (h3 : i.zero = some z) (h4 : i.size = 1) (hz : z.cells = #[z])
    (kl kc : IntKind) (n : Nat) (b2 : i.bytes * n ≤ 281474976710656) (b3 : n ≤ 9223372036854775807) :
    ∃ w', (Instr.makeSlice t (.int kl (n : Int)) (.int kc (n : Int))).run P w = .ok (.slice (some ⟨w.heap.size, 0, none⟩) n n) w' ∧ Fb w' w.heap.size n (fun _ => z) ∧ Chg [] w w' := by
  have hb : (i.bytes : Int) * (n : Int) ≤ 281474976710656 := by
    have h : ((i.bytes * n : Nat) : Int) ≤ 281474976710656 := by omega
    rwa [Int.natCast_mul] at h
  have hrun := run_make (P := P) w t e i z h1 h2 h3 kl kc n n (by omega) (by omega) hb (by omega)
  simp only [Int.toNat_natCast] at hrun
  refine ⟨_, hrun, ?_, (Chg.refl _ _).alloc _⟩
  rw [h4, Nat.mul_one, hz]
  have hl : (madeCells #[z] n).toList = List.replicate n z := toList_madeCells_one _ _
  have hsz : (madeCells #[z] n).size = n := by have := congrArg List.length hl; simpa using this
  refine ⟨fun j hj => ?_, fun j hj => ?_, by simp⟩
  · have hg : (madeCells #[z] n)[j]? = some z := by
      rw [← Array.getElem?_toList, hl, List.getElem?_replicate, if_pos hj]
    simp [hg]
  · simp
theorem wpList_makeF {P : Program} (w : World) {ops : Array Oper} {rest : List Oper} {o : Oper} {a : Act} {Q : Exit → Act → World → Prop}
    (hg : o.guard = none) (l c : Operand) (t : TypeId) (hop : o.op = Op.makeSlice t l c)
    (e : TypeId) (i : TypeInfo) (z : Value) (h1 : P.underlying t = some (.slice e)) (h2 : P.info? e = some i) (h3 : i.zero = some z) (h4 : i.size = 1) (hz : z.cells = #[z])
    (kl kc : IntKind) (n : Nat) (hl : a.eval l = .int kl (n : Int)) (hc : a.eval c = .int kc (n : Int)) (b2 : i.bytes * n ≤ 281474976710656) (b3 : n ≤ 9223372036854775807)
    (hK : ∀ w', Fb w' w.heap.size n (fun _ => z) → Chg [] w w' → wpList P ops Q rest (a.put o.dst (.slice (some ⟨w.heap.size, 0, none⟩) n n)) w') :
    wpList P ops Q (o :: rest) a w := by
  refine wpList_plain hg fun K hK' => ?_
  obtain ⟨w', hrun, hf, hch⟩ := run_makeF (P := P) w t e i z h1 h2 h3 h4 hz kl kc n b2 b3
  unfold Oper.wp
  simp [execOp, hop, hl, hc, hrun, Result.andThen]
  exact hK' _ _ (hK _ hf hch)
theorem step_makeF {P : Program} (w : World) {ops : Array Oper} {o : Oper} {a : Act} {K : Act → World → Prop} {Q : Exit → Act → World → Prop} {E : Prop}
    (hg : o.guard = none) (l c : Operand) (t : TypeId) (hop : o.op = Op.makeSlice t l c)
    (e : TypeId) (i : TypeInfo) (z : Value) (h1 : P.underlying t = some (.slice e)) (h2 : P.info? e = some i) (h3 : i.zero = some z) (h4 : i.size = 1) (hz : z.cells = #[z])
    (kl kc : IntKind) (n : Nat) (hl : a.eval l = .int kl (n : Int)) (hc : a.eval c = .int kc (n : Int)) (b2 : i.bytes * n ≤ 281474976710656) (b3 : n ≤ 9223372036854775807)
    (hK : ∀ w', Fb w' w.heap.size n (fun _ => z) → Chg [] w w' → K (a.put o.dst (.slice (some ⟨w.heap.size, 0, none⟩) n n)) w') :
    if Region.wanted o (yielded ops a.tmps) = true then Oper.wp P o a w K Q else E := by
  have hw : Region.wanted o (yielded ops a.tmps) = true := by simp [Region.wanted, hg]
  rw [if_pos hw]
  obtain ⟨w', hrun, hf, hch⟩ := run_makeF (P := P) w t e i z h1 h2 h3 h4 hz kl kc n b2 b3
  unfold Oper.wp
  simp [execOp, hop, hl, hc, hrun, Result.andThen]
  exact hK _ hf hch
theorem infoS : ∃ i, Try.prog.info? 9 = some i ∧ i.zero = some (.string ⟨#[]⟩) ∧ i.size = 1 ∧ i.bytes = 16 :=
  info_parts (show (Try.prog.info? 9).map (fun i => (i.zero, i.size, i.bytes)) = some (some (.string ⟨#[]⟩), 1, 16) by kernel_rfl)
theorem infoI64 : ∃ i, Try.prog.info? 2 = some i ∧ i.zero = some (.int .i64 0) ∧ i.size = 1 ∧ i.bytes = 8 :=
  info_parts (show (Try.prog.info? 2).map (fun i => (i.zero, i.size, i.bytes)) = some (some (.int .i64 0), 1, 8) by kernel_rfl)
theorem infoInt : ∃ i, Try.prog.info? 3 = some i ∧ i.zero = some (.int .i64 0) ∧ i.size = 1 ∧ i.bytes = 8 :=
  info_parts (show (Try.prog.info? 3).map (fun i => (i.zero, i.size, i.bytes)) = some (some (.int .i64 0), 1, 8) by kernel_rfl)
theorem infoRat3 : ∃ i, Try.prog.info? 33 = some i ∧ i.zero = some (.agg #[.bool false, .string ⟨#[]⟩, .string ⟨#[]⟩]) ∧ i.size = 3 ∧ i.bytes = 40 :=
  info_parts (show (Try.prog.info? 33).map (fun i => (i.zero, i.size, i.bytes)) = some (some (.agg #[.bool false, .string ⟨#[]⟩, .string ⟨#[]⟩]), 3, 40) by kernel_rfl)
end Go.Proofs.Ytgdpcpbmjgaliaa
