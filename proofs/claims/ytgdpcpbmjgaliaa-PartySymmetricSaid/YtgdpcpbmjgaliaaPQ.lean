/-
  Party: a queue: a slice of the program's own from any cell of its block on; blocks of elements of one cell.
-/
import Derived.Test.YtgdpcpbmjgaliaaPZ
import Derived.Test.YtgdpcpbmjgaliaaAB
namespace Go.Proofs.Ytgdpcpbmjgaliaa
open Go.RowKit Nd

/-- A slice of the program's own, from any cell of a block on, of ints. -/
def OwnQ (w : World) (v : Value) (L : List Value) : Prop :=
  ∃ g o cap cur, v = .slice (some ⟨g, o, none⟩) L.length cap ∧ w.heap[g]? = some (.cells cur 3 (0, 0)) ∧ L.length ≤ cap ∧ cap ≤ maxLen ∧ (0 < cap → o + cap ≤ cur.size) ∧ (cur.toList.drop o).take L.length = L
theorem OwnQ.keep {gs : List Nat} {w w' : World} {v : Value} {L : List Value} (h : OwnQ w v L) (hc : Chg gs w w') (hg : OffV gs v) : OwnQ w' v L := by
  obtain ⟨g, o, cap, cur, rfl, hgg, rest⟩ := h
  have hlt : g < w.heap.size := (Array.getElem?_eq_some_iff.1 hgg).1
  have hn : g ∉ gs := hg _ rfl
  exact ⟨g, o, cap, cur, rfl, (hc.block g hlt hn).trans hgg, rest⟩
theorem OwnQ.keep0 {w w' : World} {v : Value} {L : List Value} (h : OwnQ w v L) (hc : Chg [] w w') : OwnQ w' v L := h.keep hc (OffV.nil v)
theorem OwnQ.one (w : World) (y : Value) : OwnQ (w.alloc (.cells #[y] 3)) (.slice (some ⟨w.heap.size, 0, none⟩) 1 1) [y] :=
  ⟨w.heap.size, 0, 1, #[y], rfl, heap_alloc_new w _, Nat.le_refl _, by simp [maxLen], by simp, by simp⟩
/-- Where it lies. -/
theorem OwnQ.form {w : World} {v : Value} {L : List Value} (h : OwnQ w v L) : ∃ g o cap, v = .slice (some ⟨g, o, none⟩) L.length cap ∧ g < w.heap.size ∧ L.length ≤ cap ∧ cap ≤ 9223372036854775807 ∧ (∀ j, j < L.length → w.cell? ⟨g, o + j, none⟩ = some (L.getD j (.bool false))) ∧
    (∀ y L' o', L = y :: L' → (o' = o + 1 ∨ cap = 1) → OwnQ w (.slice (some ⟨g, o', none⟩) L'.length (cap - 1)) L') := by
  obtain ⟨g, o, cap, cur, rfl, hgg, h1, h2, h3, h4⟩ := h
  refine ⟨g, o, cap, rfl, (Array.getElem?_eq_some_iff.1 hgg).1, h1, by simpa [maxLen] using h2, fun j hj => ?_, fun y L' o' hL ho => ?_⟩
  · rw [cell_of_row w g (o + j) cur 3 (0, 0) hgg, ← Array.getElem?_toList]
    have e : (cur.toList.drop o)[j]? = L[j]? := by
      conv => rhs; rw [← h4]
      rw [List.getElem?_take_of_lt hj]
    rw [List.getElem?_drop] at e
    rw [e, List.getD_eq_getElem?_getD, List.getElem?_eq_getElem hj]; rfl
  · subst hL
    rcases ho with rfl | rfl
    · have h1' : L'.length + 1 ≤ cap := h1
      refine ⟨g, o + 1, cap - 1, cur, rfl, hgg, by omega, Nat.le_trans (Nat.sub_le _ _) h2, fun h => by have := h3 (by omega); omega, ?_⟩
      have e : ((cur.toList.drop o).take (y :: L').length).drop 1 = L' := by rw [h4]; rfl
      rw [List.drop_take, List.drop_drop] at e
      simpa using e
    · have h1' : L'.length + 1 ≤ 1 := h1
      have : L' = [] := List.eq_nil_of_length_eq_zero (by omega)
      subst this
      exact ⟨g, o', 0, cur, rfl, hgg, Nat.le_refl _, Nat.zero_le _, fun h => absurd h (by omega), by simp⟩
section
variable (w : World)
theorem run_appendQ (ty : TypeId) (v : Value) (L : List Value) (hown : OwnQ w v L) (ad : Addr) (c : Nat) (y : Value) (hr : w.cell? ad = some y) (hy : y.oneCell' = true) (hb : L.length + 1 ≤ 1000000000) :
    ∃ v' w', (Builtin.append_ #[22, 22] ty #[v, .slice (some ad) 1 c]).run Try.prog w = .ok v' w' ∧ OwnQ w' v' (L ++ [y]) ∧ Chg v.ownBlock.toList w w' ∧ (v'.ownBlock = v.ownBlock ∨ v'.ownBlock = some w.heap.size) := by
  obtain ⟨i, hi, hz0, hz1, hz2⟩ := info_parts infoZn
  obtain ⟨g, o, cap, cur, rfl, hgg, h1, h2, h3, h4⟩ := hown
  have hnews : ∀ j u, [y][j]? = some u → w.cell? (ad.add j) = some u := by
    intro j u hu
    match j, hu with
    | 0, hu => simp at hu; subst hu; simpa [Addr.add] using hr
  have hone : ∀ u ∈ [y], u.oneCell' = true := by intro u hu; simp at hu; subst hu; exact hy
  have hlen : (L ++ [y]).length = L.length + 1 := List.length_append
  by_cases hroom : L.length + 1 ≤ cap
  · have hf := run_firstCells_some (P := Try.prog) w 1 1 ad 1 c [y] rfl hnews
    have hst := run_storeCells_at Try.prog g (o + L.length) 3 [y] 0 cur w hgg (by have := h3 (by omega); simp; omega) hone
    simp only [Nat.add_zero] at hst
    have hadd : (⟨g, o, none⟩ : Addr).add L.length = ⟨g, o + L.length, none⟩ := add_atZn g o L.length
    refine ⟨.slice (some ⟨g, o, none⟩) (L.length + 1) cap, w.setRow g (cur.toList.take (o + L.length) ++ [y] ++ cur.toList.drop (o + L.length + [y].length)).toArray, by simp [Builtin.append_, run_underlying underZn, sizeOf, typeInfo, hi, Builtin.lenOf, hroom, hf, hz1, hadd, hst], ?_, ?_, ?_⟩
    · refine ⟨g, o, cap, _, by rw [hlen], setRow_heap w g cur _ 3 _ hgg, by rw [hlen]; exact hroom, h2, ?_, ?_⟩
      · intro _; have := h3 (by omega); simp; omega
      · have e1 : (List.take (o + L.length) cur.toList).drop o = L := by rw [List.drop_take]; simpa using h4
        have hol : o + L.length ≤ cur.size := by have := h3 (by omega); omega
        have e2 : (List.take (o + L.length) cur.toList).length = o + L.length := by simp; omega
        rw [hlen, List.toList_toArray, List.append_assoc, List.drop_append_of_le_length (by omega), e1, ← List.append_assoc, List.take_left' hlen]
    · exact Chg.of_grownv (v := (Value.slice (some ⟨g, o, none⟩) L.length cap).ownBlock) ⟨rfl, rfl, rfl, by simp, fun k _ hk => setRow_other w g k _ (fun e => hk (by simp [Value.ownBlock, e]))⟩ (fun k hk => by rw [hk]; simp)
    · exact .inl rfl
  · have holds : ∀ j u, L[j]? = some u → w.cell? ((⟨g, o, none⟩ : Addr).add j) = some u := by
      intro j u hu
      have hj : j < L.length := by
        rcases Nat.lt_or_ge j L.length with h | h
        · exact h
        · rw [List.getElem?_eq_none h] at hu; cases hu
      rw [add_atZn, cell_of_row w g (o + j) cur 3 (0, 0) hgg, ← Array.getElem?_toList, ← List.getElem?_drop, ← hu]
      conv => rhs; rw [← h4]
      rw [List.getElem?_take_of_lt hj]
    have hr := run_append_grow (P := Try.prog) w 22 ty 3 i _ underZn hi hz0 ⟨g, o, none⟩ L.length cap L (by rw [hz1]; omega) holds ad 1 c [y] (by rw [hz1]; rfl) hnews (by omega) (by omega) (growslice_fits (by omega) (by rw [hz2]; omega))
    have hge := grownCap_ge w (L.length + 1) cap 3
    have hcm : grownCap w (L.length + 1) cap 3 ≤ maxLen := grownCap_le_maxLen w (L.length + 1) cap 3 (by simp only [maxLen]; omega)
    refine ⟨_, _, hr, ⟨w.heap.size, 0, _, _, by rw [hlen], heap_alloc_new w.drew _, by rw [hlen]; exact hge, hcm, ?_, ?_⟩, ?_, .inr rfl⟩
    · intro _
      have e : (Value.int .i64 0).cells.size = 1 := rfl
      simp only [Array.size_append, List.size_toArray, size_zeroCells, e, List.length_singleton]; omega
    · simp only [Array.toList_append, List.drop_zero]
      exact List.take_left' rfl
    · exact Chg.of_grownv (v := (Value.slice (some ⟨g, o, none⟩) L.length cap).ownBlock) ⟨rfl, rfl, rfl, by simp, fun k hk _ => Go.heap_alloc_old w.drew _ hk⟩ (fun k hk => by rw [hk]; simp)
end
end Go.Proofs.Ytgdpcpbmjgaliaa
