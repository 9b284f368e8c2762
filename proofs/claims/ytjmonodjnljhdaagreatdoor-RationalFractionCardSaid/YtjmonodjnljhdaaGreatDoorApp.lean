/-
  Append to a row of numbers: where the result lies.
-/
import Derived.Test.YtjmonodjnljhdaaGreatDoorBase
namespace Go.Proofs.YtjmonodjnljhdaaGreatDoor
open Go.RowKit Nd

section
variable {P : Program} (w : World)

theorem Row.shape {e : TypeId} {k : IntKind} {v : Value} {n : Nat} {xs : List Nat} (hn : xs.length = n) (h : w.ownsRow 0 e 1 v n (vals k xs)) (hv : v ≠ .slice none 0 0) :
    ∃ g cap, v = .slice (some ⟨g, 0, none⟩) xs.length cap ∧ Row e k w g cap xs := by
  subst hn
  rcases h.2 with ⟨h1, _⟩ | ⟨g, cap, cur, h1, _⟩
  · exact absurd h1 hv
  · subst h1
    exact ⟨g, cap, rfl, h⟩

theorem run_append_row (t ty e : TypeId) (i : TypeInfo) (k : IntKind) (ht : P.underlying t = some (.slice e)) (hi : P.info? e = some i) (hz : i.zero = some (.int k 0)) (hsize : i.size = 1) (hby : i.bytes ≤ 8)
    (g cap : Nat) (xs news : List Nat) (hr : Row e k w g cap xs) (a : Addr) (c : Nat) (hnews : ∀ j u, (vals k news)[j]? = some u → w.cell? (a.add j) = some u) (hb : xs.length + news.length ≤ 17592186044416) :
    ∃ g' cap' w', (Builtin.append_ #[t, t] ty #[.slice (some ⟨g, 0, none⟩) xs.length cap, .slice (some a) news.length c]).run P w = .ok (.slice (some ⟨g', 0, none⟩) (xs ++ news).length cap') w' ∧
      Row e k w' g' cap' (xs ++ news) ∧ (g' = g ∨ w.heap.size ≤ g') ∧ Chg [g] w w' := by
  have h1 : ∀ u ∈ vals k news, u.oneCell' = true := by
    intro u hu
    obtain ⟨_, _, rfl⟩ := List.mem_map.1 hu
    rfl
  have hlen : (xs ++ news).length = xs.length + news.length := List.length_append
  by_cases hroom : xs.length + news.length ≤ cap
  · obtain ⟨w', hrun, ho, hg⟩ := run_append_fits (P := P) w 0 t ty e i 1 ht hi hsize g xs.length cap (vals k xs) hr a news.length c (vals k news) (by simp [vals_length]) hnews h1 hroom
    refine ⟨g, cap, w', by rw [hlen]; exact hrun, ?_, .inl rfl, Chg.of_grown1 hg⟩
    unfold Row
    rw [hlen, ← vals_append]
    exact ho
  · have hbb : (xs.length + news.length) * i.bytes ≤ 140737488355328 := by
      have : (xs.length + news.length) * i.bytes ≤ 17592186044416 * 8 := Nat.mul_le_mul hb hby
      omega
    obtain ⟨v', w', hrun, ho, hg, hnil⟩ := run_append_own (P := P) w 0 t ty e i (.int k 0) 1 i.bytes ht hi hz hsize rfl rfl (by omega) (.slice (some ⟨g, 0, none⟩) xs.length cap) xs.length (vals k xs) hr a news.length c (vals k news) (by simp [vals_length]) hnews h1
      (by simp only [maxLen]; omega) hbb (Nat.zero_le _)
    have hcells : ∀ j u, (vals k xs)[j]? = some u → w.cell? ((⟨g, 0, none⟩ : Addr).add j) = some u := World.ownsRow.cells hr rfl
    have hex := run_append_grow (P := P) w t ty e i (.int k 0) ht hi hz ⟨g, 0, none⟩ xs.length cap (vals k xs) (by rw [hsize]; simp [vals_length]) hcells a news.length c (vals k news) (by rw [hsize]; simp [vals_length]) hnews (by omega) (by omega)
      (growslice_fits (by omega) hbb)
    rw [hex] at hrun
    injection hrun with hv hw
    subst hv
    rw [vals_append] at ho
    have : Row e k w' w.heap.size (grownCap w (xs.length + news.length) cap e) (xs ++ news) := by
      unfold Row; rw [hlen]; exact ho
    exact ⟨w.heap.size, _, w', by rw [hlen, hex, hw], this, .inr (Nat.le_refl _), Chg.of_grown1 hg⟩

theorem run_append_rownil (t ty e : TypeId) (i : TypeInfo) (k : IntKind) (ht : P.underlying t = some (.slice e)) (hi : P.info? e = some i) (hz : i.zero = some (.int k 0)) (hsize : i.size = 1) (hby : i.bytes ≤ 8)
    (news : List Nat) (hne : news ≠ []) (a : Addr) (c : Nat) (hnews : ∀ j u, (vals k news)[j]? = some u → w.cell? (a.add j) = some u) (hb : news.length ≤ 17592186044416) :
    ∃ g' cap' w', (Builtin.append_ #[t, t] ty #[.slice none 0 0, .slice (some a) news.length c]).run P w = .ok (.slice (some ⟨g', 0, none⟩) news.length cap') w' ∧
      Row e k w' g' cap' news ∧ w.heap.size ≤ g' ∧ Chg [] w w' := by
  have h1 : ∀ u ∈ vals k news, u.oneCell' = true := by
    intro u hu
    obtain ⟨_, _, rfl⟩ := List.mem_map.1 hu
    rfl
  have hpos : 0 < news.length := by cases news with | nil => exact absurd rfl hne | cons => simp
  have hbb : (0 + news.length) * i.bytes ≤ 140737488355328 := by
    have : (0 + news.length) * i.bytes ≤ 17592186044416 * 8 := Nat.mul_le_mul (by omega) hby
    omega
  obtain ⟨v', w', hrun, ho, hg, hnil⟩ := run_append_own (P := P) w w.heap.size t ty e i (.int k 0) 1 i.bytes ht hi hz hsize rfl rfl (by omega) (.slice none 0 0) 0 [] (World.ownsRow_nil _ _ _ _) a news.length c (vals k news) (by simp [vals_length]) hnews h1
    (by simp only [maxLen]; omega) hbb (Nat.le_refl _)
  rw [Nat.zero_add, List.nil_append] at ho
  rcases ho.2 with ⟨h2, _⟩ | ⟨g, cap, cur, rfl, hge, rest⟩
  · have := (hnil.1 h2).2; omega
  · refine ⟨g, cap, w', hrun, ⟨ho.1, .inr ⟨g, cap, cur, rfl, Nat.zero_le _, rest⟩⟩, hge, Chg.of_grownv hg (by simp [Value.ownBlock])⟩

theorem wpList_append_row {ops : Array Oper} {rest : List Oper} {o : Oper} {a : Act} {Q : Exit → Act → World → Prop} (hgd : o.guard = none) (s x : Operand) (t : TypeId)
    (ho : o.op = .call { callee := .builtin .append, args := #[s, x], argTypes := #[t, t] })
    (e : TypeId) (i : TypeInfo) (k : IntKind) (ht : P.underlying t = some (.slice e)) (hi : P.info? e = some i) (hz : i.zero = some (.int k 0)) (hsize : i.size = 1) (hby : i.bytes ≤ 8)
    (g cap : Nat) (xs : List Nat) (n : Nat) (hn : xs.length = n) (hs : a.eval s = .slice (some ⟨g, 0, none⟩) n cap) (hr : Row e k w g cap xs) (news : List Nat) (m : Nat) (hm : news.length = m) (ad : Addr) (c : Nat) (hx : a.eval x = .slice (some ad) m c)
    (hnews : ∀ j u, (vals k news)[j]? = some u → w.cell? (ad.add j) = some u) (hb : n + m ≤ 17592186044416)
    (h : ∀ g' cap' w', Row e k w' g' cap' (xs ++ news) → (g' = g ∨ w.heap.size ≤ g') → Chg [g] w w' → wpList P ops Q rest (a.put o.dst (.slice (some ⟨g', 0, none⟩) (n + m) cap')) w') : wpList P ops Q (o :: rest) a w := by
  refine wpList_plain hgd fun _ hK => ?_
  subst hn
  subst hm
  obtain ⟨g', cap', w', hrun, h2, h3, h4⟩ := run_append_row (P := P) w t o.type e i k ht hi hz hsize hby g cap xs news hr ad c hnews hb
  rw [List.length_append] at hrun
  unfold Oper.wp execOp
  simp only [ho, resolve, invoke, builtin, Sem.run_bind, Sem.run_pure, Result.andThen_ok, List.map_toArray, List.map_cons, List.map_nil, hs, hx, hrun]
  exact hK _ _ (h g' cap' w' h2 h3 h4)

theorem wpList_append_rownil {ops : Array Oper} {rest : List Oper} {o : Oper} {a : Act} {Q : Exit → Act → World → Prop} (hgd : o.guard = none) (s x : Operand) (t : TypeId)
    (ho : o.op = .call { callee := .builtin .append, args := #[s, x], argTypes := #[t, t] })
    (e : TypeId) (i : TypeInfo) (k : IntKind) (ht : P.underlying t = some (.slice e)) (hi : P.info? e = some i) (hz : i.zero = some (.int k 0)) (hsize : i.size = 1) (hby : i.bytes ≤ 8)
    (hs : a.eval s = .slice none 0 0) (news : List Nat) (hne : news ≠ []) (m : Nat) (hm : news.length = m) (ad : Addr) (c : Nat) (hx : a.eval x = .slice (some ad) m c)
    (hnews : ∀ j u, (vals k news)[j]? = some u → w.cell? (ad.add j) = some u) (hb : m ≤ 17592186044416)
    (h : ∀ g' cap' w', Row e k w' g' cap' news → w.heap.size ≤ g' → Chg [] w w' → wpList P ops Q rest (a.put o.dst (.slice (some ⟨g', 0, none⟩) m cap')) w') : wpList P ops Q (o :: rest) a w := by
  refine wpList_plain hgd fun _ hK => ?_
  subst hm
  obtain ⟨g', cap', w', hrun, h2, h3, h4⟩ := run_append_rownil (P := P) w t o.type e i k ht hi hz hsize hby news hne ad c hnews hb
  unfold Oper.wp execOp
  simp only [ho, resolve, invoke, builtin, Sem.run_bind, Sem.run_pure, Result.andThen_ok, List.map_toArray, List.map_cons, List.map_nil, hs, hx, hrun]
  exact hK _ _ (h g' cap' w' h2 h3 h4)
end

/-- The cells of a block that has just been laid with numbers. -/
theorem cells_alloc (w : World) (cs : Array Value) (e : TypeId) (k : IntKind) (xs : List Nat) (hc : cs = (vals k xs).toArray) (hm : xs.length ≤ 9223372036854775807) :
    ∀ j u, (vals k xs)[j]? = some u → (w.alloc (.cells cs e)).cell? ((⟨w.heap.size, 0, none⟩ : Addr).add j) = some u :=
  World.ownsRow.cells (Row.of_alloc (e := e) w cs xs hc hm) rfl

end Go.Proofs.YtjmonodjnljhdaaGreatDoor
