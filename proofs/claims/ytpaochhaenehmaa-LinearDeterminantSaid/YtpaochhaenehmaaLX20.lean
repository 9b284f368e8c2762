/-
  Slices of the program's own that grow; rows in blocks of their own; the reference's echelon.
-/
import Derived.Test.YtpaochhaenehmaaLX18
import Derived.Test.YtpaochhaenehmaaGR
namespace Go.Proofs.Ytpaochhaenehmaa
open Go.RowKit Nd

/-- 'append(s, x)' of one cell to a slice of the program's own. -/
theorem wpList_append1 (w : World) {ops : Array Oper} {rest : List Oper} {o : Oper} {a : Act} {Q : Exit → Act → World → Prop} (t e : TypeId) (i : TypeInfo) (z : Value) (bytes : Nat) (ht : Try.prog.underlying t = some (.slice e)) (hi : Try.prog.info? e = some i) (hz : i.zero = some z) (hsize : i.size = 1) (hby : i.bytes = bytes) (hzs : z.cells.size = 1) (hbb : bytes ≤ 1000)
    (hgd : o.guard = none) (s x : Operand) (ho : o.op = .call { callee := .builtin .append, args := #[s, x], argTypes := #[t, t] })
    (v : Value) (n : Nat) (hs : List Value) (hs0 : a.eval s = v) (hown : w.ownsRow 0 e 1 v n hs) (ad : Addr) (c : Nat) (u : Value) (hx : a.eval x = .slice (some ad) 1 c) (hcell : w.cell? ad = some u) (h1 : u.oneCell' = true) (hb : n ≤ 1000000)
    (h : ∀ v' w', w'.ownsRow 0 e 1 v' (n + 1) (hs ++ [u]) → Chg v.ownBlock.toList w w' → (v'.ownBlock = v.ownBlock ∨ v'.ownBlock = some w.heap.size) → wpList Try.prog ops Q rest (a.put o.dst v') w') : wpList Try.prog ops Q (o :: rest) a w := by
  refine wpList_plain hgd fun K hK => ?_
  have hbs : (n + 1) * bytes ≤ 1000001 * 1000 := Nat.mul_le_mul (by omega) hbb
  obtain ⟨v', w', hrun, g2, g3, _, g5⟩ := run_append_own_at (P := Try.prog) w 0 t o.type e i z 1 bytes ht hi hz hsize hby hzs (by omega) v n hs hown ad 1 c [u] rfl
    (fun j y hu => by
      cases j with
      | zero => simp at hu; subst hu; rw [show ad.add 0 = ad from by simp [Addr.add]]; exact hcell
      | succ j => simp at hu) (by intro y hu; simp at hu; subst hu; exact h1) (by simp only [maxLen]; omega) (by omega) (Nat.zero_le _)
  unfold Oper.wp execOp
  simp only [ho, resolve, invoke, builtin, Sem.run_bind, Sem.run_pure, Result.andThen_ok, List.map_toArray, List.map_cons, List.map_nil, hs0, hx, hrun]
  exact hK _ _ (h v' w' g2 (Chg.of_grownv g3 (fun k hk => by rw [hk]; simp)) g5)

/-- A slice of numbers of type int, the program's own, nil let in. -/
def OwnI (w : World) (v : Value) (L : List Nat) : Prop := w.ownsRow 0 3 1 v L.length (vals .i64 L)
theorem OwnI.nil (w : World) : OwnI w (.slice none 0 0) [] := World.ownsRow_nil _ _ _ _
theorem OwnI.form {w : World} {v : Value} {L : List Nat} (h : OwnI w v L) : (v = .slice none 0 0 ∧ L = []) ∨ ∃ g cap, v = .slice (some ⟨g, 0, none⟩) L.length cap ∧ Row 3 .i64 w g cap L := by
  rcases h.2 with ⟨rfl, h3⟩ | ⟨g, cap, cur, rfl, _⟩
  · exact .inl ⟨rfl, List.eq_nil_of_length_eq_zero h3⟩
  · exact .inr ⟨g, cap, rfl, h⟩
theorem OwnI.blt {w : World} {v : Value} {L : List Nat} (h : OwnI w v L) : ∀ x, x ∈ v.ownBlock.toList → x < w.heap.size := by
  intro x hx
  rcases h.form with ⟨rfl, _⟩ | ⟨g, cap, rfl, hR⟩
  · simp [Value.ownBlock] at hx
  · simp [Value.ownBlock] at hx; subst hx; exact hR.lt
theorem OwnI.keep {gs : List Nat} {w w' : World} {v : Value} {L : List Nat} (h : OwnI w v L) (hc : Chg gs w w') (hg : ∀ x, x ∈ v.ownBlock.toList → x ∉ gs) : OwnI w' v L := by
  rcases h.form with ⟨rfl, rfl⟩ | ⟨g, cap, rfl, hR⟩
  · exact OwnI.nil _
  · exact hR.keep hc (hg g (by simp [Value.ownBlock]))
theorem OwnI.keep0 {w w' : World} {v : Value} {L : List Nat} (h : OwnI w v L) (hc : Chg [] w w') : OwnI w' v L := h.keep hc (fun _ _ => by simp)

/-! ### rows of the program's own, each in a block of its own -/
/-- Row i lies in block h i (but for the rows x that a set holds open). -/
structure Pool (w : World) (M : List (List Q3)) (h c : Nat → Nat) (n : Nat) (x : Nat → Prop) : Prop where
  row : ∀ i, i < n → ¬ x i → Nums w (h i) (c i) (M.getD i [])
theorem Pool.keep {gs : List Nat} {w w' : World} {M : List (List Q3)} {h c : Nat → Nat} {n : Nat} {x : Nat → Prop} (H : Pool w M h c n x) (hc : Chg gs w w') (hg : ∀ i, i < n → ¬ x i → h i ∉ gs) : Pool w' M h c n x :=
  ⟨fun i hi hx => (H.row i hi hx).keep hc (hg i hi hx)⟩
theorem Pool.keep0 {w w' : World} {M : List (List Q3)} {h c : Nat → Nat} {n : Nat} {x : Nat → Prop} (H : Pool w M h c n x) (hc : Chg [] w w') : Pool w' M h c n x := H.keep hc (fun _ _ _ => by simp)
theorem Nums.keep0 {w w' : World} {g cap : Nat} {xs : List Q3} (h : Nums w g cap xs) (hc : Chg [] w w') : Nums w' g cap xs := h.keep hc (by simp)
/-- The slices of the rows. -/
def hdrs (h c : Nat → Nat) (m n : Nat) : List Value := (List.range n).map fun i => .slice (some ⟨h i, 0, none⟩) m (c i)
theorem hdrs_length (h c : Nat → Nat) (m n : Nat) : (hdrs h c m n).length = n := by simp [hdrs]
theorem hdrs_get (h c : Nat → Nat) (m : Nat) {n i : Nat} (hi : i < n) : (hdrs h c m n).getD i (.bool false) = .slice (some ⟨h i, 0, none⟩) m (c i) := by simp [hdrs, List.getD_eq_getElem?_getD, hi]
theorem hdrs_snoc (h c : Nat → Nat) (m n : Nat) : hdrs h c m (n + 1) = hdrs h c m n ++ [.slice (some ⟨h n, 0, none⟩) m (c n)] := by simp [hdrs, List.range_succ]
theorem hdrs_congr {h c h' c' : Nat → Nat} {m n : Nat} (e : ∀ i, i < n → h i = h' i ∧ c i = c' i) : hdrs h c m n = hdrs h' c' m n := by
  unfold hdrs
  apply List.map_congr_left
  intro i hi
  obtain ⟨e1, e2⟩ := e i (List.mem_range.1 hi)
  rw [e1, e2]
theorem hdrs_set (h c : Nat → Nat) (m n p k d : Nat) : (hdrs h c m n).set p (.slice (some ⟨k, 0, none⟩) m d) = hdrs (fun i => if i = p then k else h i) (fun i => if i = p then d else c i) m n := by
  apply List.ext_getElem?
  intro i
  rw [List.getElem?_set]
  unfold hdrs
  by_cases h1 : p = i
  · subst h1
    by_cases h2 : p < n
    · simp [h2]
    · simp [h2]
  · rw [if_neg h1]
    simp only [List.getElem?_map]
    by_cases h2 : i < n
    · simp [h2, Ne.symm h1]
    · simp [h2]
/-- A matrix of the program's own: block g holds the slices of its rows; each row lies in a block of its own. -/
structure MutD (w : World) (g cap : Nat) (M : List (List Q3)) (h c : Nat → Nat) (n m : Nat) : Prop where
  hdr : Hdr w g cap (hdrs h c m n)
  pool : Pool w M h c n (fun _ => False)
  inj : ∀ i j, i < n → j < n → h i = h j → i = j
  off : ∀ i, i < n → h i ≠ g
theorem MutD.keep0 {w w' : World} {g cap : Nat} {M : List (List Q3)} {h c : Nat → Nat} {n m : Nat} (H : MutD w g cap M h c n m) (hc : Chg [] w w') : MutD w' g cap M h c n m := ⟨H.hdr.keep hc (by simp), H.pool.keep0 hc, H.inj, H.off⟩
theorem MutD.cel {w : World} {g cap : Nat} {M : List (List Q3)} {h c : Nat → Nat} {n m : Nat} (H : MutD w g cap M h c n m) {i : Nat} (hi : i < n) : Cel w g i (.slice (some ⟨h i, 0, none⟩) m (c i)) :=
  ⟨H.hdr.lt, by rw [H.hdr.cell (by rw [hdrs_length]; exact hi), hdrs_get h c m hi]⟩
theorem MutD.nums {w : World} {g cap : Nat} {M : List (List Q3)} {h c : Nat → Nat} {n m : Nat} (H : MutD w g cap M h c n m) {i : Nat} (hi : i < n) : Nums w (h i) (c i) (M.getD i []) := H.pool.row i hi (fun h => h)


/-- The bound of the parts after c columns of the reference. -/
def KR (k : Nat) : Nat → Nat
  | 0 => k
  | c + 1 => 4 * KR k c + 1
theorem KR_le (k : Nat) : ∀ {c d : Nat}, c ≤ d → KR k c ≤ KR k d := by
  intro c d h
  induction d with
  | zero => obtain rfl : c = 0 := by omega
            exact Nat.le_refl _
  | succ d ih =>
    rcases Nat.lt_or_ge c (d + 1) with h1 | h1
    · have := ih (by omega)
      show KR k c ≤ 4 * KR k d + 1
      omega
    · obtain rfl : c = d + 1 := by omega
      exact Nat.le_refl _
theorem KR_pow (k : Nat) : ∀ c, KR k c + 1 ≤ (k + 1) * 4 ^ c
  | 0 => by simp [KR]
  | c + 1 => by have := KR_pow k c; rw [Nat.pow_succ, ← Nat.mul_assoc]; unfold KR; omega
theorem own_hdr {w : World} {v : Value} {n : Nat} {hs : List Value} (h : w.ownsRow 0 33 1 v n hs) (hl : hs.length = n) (hn : 0 < n) : ∃ g cap, v = .slice (some ⟨g, 0, none⟩) n cap ∧ Hdr w g cap hs := by
  have h0 := h
  rcases h.2 with ⟨_, h3⟩ | ⟨g, cap, cur, rfl, _⟩
  · omega
  · exact ⟨g, cap, rfl, by unfold Hdr; rw [hl]; exact h0⟩
theorem own_blt {w : World} {v : Value} {n : Nat} {hs : List Value} (h : w.ownsRow 0 33 1 v n hs) : ∀ x, x ∈ v.ownBlock.toList → x < w.heap.size := by
  intro x hx
  have h0 := h
  rcases h.2 with ⟨rfl, _⟩ | ⟨g, cap, cur, rfl, _⟩
  · simp [Value.ownBlock] at hx
  · simp [Value.ownBlock] at hx
    subst hx; exact (World.ownsRow.lt h0 _ rfl).2
theorem own_keep {w w' : World} {v : Value} {n : Nat} {hs : List Value} {gs : List Nat} (h : w.ownsRow 0 33 1 v n hs) (hl : hs.length = n) (hc : Chg gs w w') (hg : ∀ x, x ∈ v.ownBlock.toList → x ∉ gs) : w'.ownsRow 0 33 1 v n hs := by
  have h0 := h
  rcases h.2 with ⟨rfl, h3⟩ | ⟨g, cap, cur, rfl, _⟩
  · obtain rfl : hs = [] := List.eq_nil_of_length_eq_zero (by omega)
    subst h3; exact World.ownsRow_nil _ _ _ _
  · have h1 : Hdr w g cap hs := by unfold Hdr; rw [hl]; exact h0
    have h2 := h1.keep hc (hg g (by simp [Value.ownBlock]))
    unfold Hdr at h2; rw [hl] at h2; exact h2

theorem Nums.el {w : World} {g cap : Nat} {xs : List Q3} (h : Nums w g cap xs) {j : Nat} (hj : j < xs.length) : El w g (j * 3) (xs.getD j q0) := by
  have := h.rds.el hj
  rwa [Nat.zero_add] at this
theorem El.st1 {w : World} {g o h i : Nat} {x : Q3} (e : El w g o x) (hg : g ≠ h) (a : Value) : El (w.setCell ⟨h, i, none⟩ a) g o x :=
  e.keep ((Chg.refl [h] w).setCell (.inl (by simp)) a) (by simpa using hg)

theorem sub_zmul (a b : Rat) : a = a - 0 * b := by grind
/-- Two places exchanged. -/
def exF (h : Nat → Nat) (r p : Nat) : Nat → Nat := fun i => if i = r then h p else if i = p then h r else h i
theorem exF_r (h : Nat → Nat) (r p : Nat) : exF h r p r = h p := by unfold exF; rw [if_pos rfl]
theorem exF_all {P : Nat → Prop} {h : Nat → Nat} {n r p : Nat} (H : ∀ t, t < n → P (h t)) (hr : r < n) (hp : p < n) : ∀ t, t < n → P (exF h r p t) := by
  intro t ht
  unfold exF
  by_cases e1 : t = r
  · rw [if_pos e1]; exact H p hp
  · rw [if_neg e1]
    by_cases e2 : t = p
    · rw [if_pos e2]; exact H r hr
    · rw [if_neg e2]; exact H t ht
theorem exF_id (h : Nat → Nat) (r p i : Nat) : exF h r p i = h (exF (fun x => x) r p i) := by
  unfold exF
  by_cases e1 : i = r
  · rw [if_pos e1, if_pos e1]
  · rw [if_neg e1, if_neg e1]
    by_cases e2 : i = p
    · rw [if_pos e2, if_pos e2]
    · rw [if_neg e2, if_neg e2]
theorem exF_inj {h : Nat → Nat} {n r p : Nat} (H : ∀ i j, i < n → j < n → h i = h j → i = j) (hr : r < n) (hp : p < n) : ∀ i j, i < n → j < n → exF h r p i = exF h r p j → i = j := by
  intro i j hi hj he
  rw [exF_id h r p i, exF_id h r p j] at he
  have := H _ _ (exF_all (P := fun x => x < n) (fun t ht => ht) hr hp i hi) (exF_all (P := fun x => x < n) (fun t ht => ht) hr hp j hj) he
  simp only [exF] at this
  repeat' split at this
  all_goals omega
theorem MutD.swapped {w : World} {g cap : Nat} {M : List (List Q3)} {h c : Nat → Nat} {n m r p : Nat} {zs : List Q3} (hH : Hdr w g cap (hdrs (exF h r p) (exF c r p) m n)) (hP : Pool w M h c n (fun i => i = p)) (hN : Nums w (h p) (c p) zs) (inj : ∀ i j, i < n → j < n → h i = h j → i = j) (off : ∀ i, i < n → h i ≠ g) (hr : r < n) (hp : p < n) (hl : M.length = n) :
    MutD w g cap ((M.set p (M.getD r [])).set r zs) (exF h r p) (exF c r p) n m := by
  refine ⟨hH, ⟨fun i hi _ => ?_⟩, exF_inj inj hr hp, exF_all (P := fun x => x ≠ g) off hr hp⟩
  rw [getD_setM _ [] zs (by rw [List.length_set]; omega), getD_setM M [] _ (by omega)]
  unfold exF
  by_cases e1 : i = r
  · simp only [e1, if_true]; exact hN
  · simp only [e1, if_false]
    by_cases e2 : i = p
    · simp only [e2, if_true]; exact hP.row r hr (fun h => e1 (by omega))
    · simp only [e2, if_false]; exact hP.row i hi e2
theorem lead_swp_row {M : List (List Q3)} {f : Nat → Nat → Rat} {n m K r p cc : Nat} {zs : List Q3} {q : Rat} (hv : Vals M f n m K) (hr : r < n) (hp : p < n) (hq : f p cc = q) (hz : Row1 zs (fun t => f p t / q) m (K + K)) : ∀ t, t < n → Row1 (((M.set p (M.getD r [])).set r zs).getD t []) (lead (swp f r p) r cc t) m (if t = r then K + K else K) := by
  intro t ht
  have hl := hv.len
  rw [getD_setM _ [] zs (by rw [List.length_set]; omega), getD_setM M [] _ (by omega)]
  unfold lead swp
  by_cases e1 : t = r
  · simp only [e1, if_true, hq]; exact hz
  · simp only [e1, if_false]
    by_cases e2 : t = p
    · simp only [e2, if_true]; exact hv.at_ hr
    · simp only [e2, if_false]; exact hv.at_ ht

end Go.Proofs.Ytpaochhaenehmaa
