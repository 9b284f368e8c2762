/-
  Slices of the program's own that grow; rows in blocks of their own; the reference's echelon.
-/
import Derived.Test.YtgdidakkfdcajaaLX18
import Derived.Test.YtgdidakkfdcajaaGR
namespace Go.Proofs.Ytgdidakkfdcajaa
open Go.RowKit Nd

/-- 'append(s, x)' of one cell to a slice of the program's own. -/
theorem wpList_append1 (w : World) {ops : Array Oper} {rest : List Oper} {o : Oper} {a : Act} {Q : Exit → Act → World → Prop} (t e : TypeId) (i : TypeInfo) (z : Value) (bytes : Nat) (ht : Try.prog.underlying t = some (.slice e)) (hi : Try.prog.info? e = some i) (hz : i.zero = some z) (hsize : i.size = 1) (hby : i.bytes = bytes) (hzs : z.cells.size = 1) (hbb : bytes ≤ 1000)
    (hgd : o.guard = none) (s x : Operand) (ho : o.op = .call { callee := .builtin .append, args := #[s, x], argTypes := #[t, t] })
    (v : Value) (n : Nat) (hs : List Value) (hs0 : a.eval s = v) (hown : w.ownsRow 0 e 1 v n hs) (ad : Addr) (c : Nat) (u : Value) (hx : a.eval x = .slice (some ad) 1 c) (hcell : w.cell? ad = some u) (h1 : u.oneCell' = true) (hb : n ≤ 1000000)
    (h : ∀ v' w', w'.ownsRow 0 e 1 v' (n + 1) (hs ++ [u]) → Chg v.ownBlock.toList w w' → (v'.ownBlock = v.ownBlock ∨ v'.ownBlock = some w.heap.size) → wpList Try.prog ops Q rest (a.put o.dst v') w') : wpList Try.prog ops Q (o :: rest) a w := by
  refine wpList_plain hgd fun K hK => ?_
  have hbs : (n + 1) * bytes ≤ 1000001 * 1000 := Nat.mul_le_mul (by omega) hbb
  obtain ⟨v', w', hrun, g2, g3, _, g5⟩ := run_append_own_at (P := Try.prog) w 0 t o.type e i z 1 bytes ht hi hz hsize hby hzs (by omega) v n hs hown ad 1 c [u] rfl
    (fun j y hu => by
      cases j with
      | zero => simp at hu; subst hu; rw [show ad.add 0 = ad from by simp [Addr.add]]; exact hcell
      | succ j => simp at hu) (by intro y hu; simp at hu; subst hu; exact h1) (by simp only [maxLen]; omega) (by omega) (Nat.zero_le _)
  unfold Oper.wp execOp
  simp only [ho, resolve, invoke, builtin, Sem.run_bind, Sem.run_pure, Result.andThen_ok, List.map_toArray, List.map_cons, List.map_nil, hs0, hx, hrun]
  exact hK _ _ (h v' w' g2 (Chg.of_grownv g3 (fun k hk => by rw [hk]; simp)) g5)

/-- A slice of numbers of type int, the program's own, nil let in. -/
def OwnI (w : World) (v : Value) (L : List Nat) : Prop := w.ownsRow 0 3 1 v L.length (vals .i64 L)
theorem OwnI.nil (w : World) : OwnI w (.slice none 0 0) [] := World.ownsRow_nil _ _ _ _
theorem OwnI.form {w : World} {v : Value} {L : List Nat} (h : OwnI w v L) : (v = .slice none 0 0 ∧ L = []) ∨ ∃ g cap, v = .slice (some ⟨g, 0, none⟩) L.length cap ∧ Row 3 .i64 w g cap L := by
  rcases h.2 with ⟨rfl, h3⟩ | ⟨g, cap, cur, rfl, _⟩
  · exact .inl ⟨rfl, List.eq_nil_of_length_eq_zero h3⟩
  · exact .inr ⟨g, cap, rfl, h⟩
theorem OwnI.blt {w : World} {v : Value} {L : List Nat} (h : OwnI w v L) : ∀ x, x ∈ v.ownBlock.toList → x < w.heap.size := by
  intro x hx
  rcases h.form with ⟨rfl, _⟩ | ⟨g, cap, rfl, hR⟩
  · simp [Value.ownBlock] at hx
  · simp [Value.ownBlock] at hx; subst hx; exact hR.lt
theorem OwnI.keep {gs : List Nat} {w w' : World} {v : Value} {L : List Nat} (h : OwnI w v L) (hc : Chg gs w w') (hg : ∀ x, x ∈ v.ownBlock.toList → x ∉ gs) : OwnI w' v L := by
  rcases h.form with ⟨rfl, rfl⟩ | ⟨g, cap, rfl, hR⟩
  · exact OwnI.nil _
  · exact hR.keep hc (hg g (by simp [Value.ownBlock]))
theorem OwnI.keep0 {w w' : World} {v : Value} {L : List Nat} (h : OwnI w v L) (hc : Chg [] w w') : OwnI w' v L := h.keep hc (fun _ _ => by simp)

/-! ### rows of the program's own, each in a block of its own -/
/-- Row i lies in block h i (but for the rows x that a set holds open). -/
structure Pool (w : World) (M : List (List Q3)) (h c : Nat → Nat) (n : Nat) (x : Nat → Prop) : Prop where
  row : ∀ i, i < n → ¬ x i → Nums w (h i) (c i) (M.getD i [])
theorem Pool.keep {gs : List Nat} {w w' : World} {M : List (List Q3)} {h c : Nat → Nat} {n : Nat} {x : Nat → Prop} (H : Pool w M h c n x) (hc : Chg gs w w') (hg : ∀ i, i < n → ¬ x i → h i ∉ gs) : Pool w' M h c n x :=
  ⟨fun i hi hx => (H.row i hi hx).keep hc (hg i hi hx)⟩
theorem Pool.keep0 {w w' : World} {M : List (List Q3)} {h c : Nat → Nat} {n : Nat} {x : Nat → Prop} (H : Pool w M h c n x) (hc : Chg [] w w') : Pool w' M h c n x := H.keep hc (fun _ _ _ => by simp)
theorem Nums.keep0 {w w' : World} {g cap : Nat} {xs : List Q3} (h : Nums w g cap xs) (hc : Chg [] w w') : Nums w' g cap xs := h.keep hc (by simp)
/-- The slices of the rows. -/
def hdrs (h c : Nat → Nat) (m n : Nat) : List Value := (List.range n).map fun i => .slice (some ⟨h i, 0, none⟩) m (c i)
theorem hdrs_length (h c : Nat → Nat) (m n : Nat) : (hdrs h c m n).length = n := by simp [hdrs]
theorem hdrs_get (h c : Nat → Nat) (m : Nat) {n i : Nat} (hi : i < n) : (hdrs h c m n).getD i (.bool false) = .slice (some ⟨h i, 0, none⟩) m (c i) := by simp [hdrs, List.getD_eq_getElem?_getD, hi]
theorem hdrs_snoc (h c : Nat → Nat) (m n : Nat) : hdrs h c m (n + 1) = hdrs h c m n ++ [.slice (some ⟨h n, 0, none⟩) m (c n)] := by simp [hdrs, List.range_succ]
theorem hdrs_congr {h c h' c' : Nat → Nat} {m n : Nat} (e : ∀ i, i < n → h i = h' i ∧ c i = c' i) : hdrs h c m n = hdrs h' c' m n := by
  unfold hdrs
  apply List.map_congr_left
  intro i hi
  obtain ⟨e1, e2⟩ := e i (List.mem_range.1 hi)
  rw [e1, e2]
theorem hdrs_set (h c : Nat → Nat) (m n p k d : Nat) : (hdrs h c m n).set p (.slice (some ⟨k, 0, none⟩) m d) = hdrs (fun i => if i = p then k else h i) (fun i => if i = p then d else c i) m n := by
  apply List.ext_getElem?
  intro i
  rw [List.getElem?_set]
  unfold hdrs
  by_cases h1 : p = i
  · subst h1
    by_cases h2 : p < n
    · simp [h2]
    · simp [h2]
  · rw [if_neg h1]
    simp only [List.getElem?_map]
    by_cases h2 : i < n
    · simp [h2, Ne.symm h1]
    · simp [h2]
/-- A matrix of the program's own: block g holds the slices of its rows; each row lies in a block of its own. -/
structure MutD (w : World) (g cap : Nat) (M : List (List Q3)) (h c : Nat → Nat) (n m : Nat) : Prop where
  hdr : Hdr w g cap (hdrs h c m n)
  pool : Pool w M h c n (fun _ => False)
  inj : ∀ i j, i < n → j < n → h i = h j → i = j
  off : ∀ i, i < n → h i ≠ g
theorem MutD.keep0 {w w' : World} {g cap : Nat} {M : List (List Q3)} {h c : Nat → Nat} {n m : Nat} (H : MutD w g cap M h c n m) (hc : Chg [] w w') : MutD w' g cap M h c n m := ⟨H.hdr.keep hc (by simp), H.pool.keep0 hc, H.inj, H.off⟩
theorem MutD.cel {w : World} {g cap : Nat} {M : List (List Q3)} {h c : Nat → Nat} {n m : Nat} (H : MutD w g cap M h c n m) {i : Nat} (hi : i < n) : Cel w g i (.slice (some ⟨h i, 0, none⟩) m (c i)) :=
  ⟨H.hdr.lt, by rw [H.hdr.cell (by rw [hdrs_length]; exact hi), hdrs_get h c m hi]⟩
theorem MutD.nums {w : World} {g cap : Nat} {M : List (List Q3)} {h c : Nat → Nat} {n m : Nat} (H : MutD w g cap M h c n m) {i : Nat} (hi : i < n) : Nums w (h i) (c i) (M.getD i []) := H.pool.row i hi (fun h => h)


/-- The bound of the parts after c columns of the reference. -/
def KR (k : Nat) : Nat → Nat
  | 0 => k
  | c + 1 => 4 * KR k c + 1
theorem KR_le (k : Nat) : ∀ {c d : Nat}, c ≤ d → KR k c ≤ KR k d := by
  intro c d h
  induction d with
  | zero => obtain rfl : c = 0 := by omega
            exact Nat.le_refl _
  | succ d ih =>
    rcases Nat.lt_or_ge c (d + 1) with h1 | h1
    · have := ih (by omega)
      show KR k c ≤ 4 * KR k d + 1
      omega
    · obtain rfl : c = d + 1 := by omega
      exact Nat.le_refl _
theorem KR_pow (k : Nat) : ∀ c, KR k c + 1 ≤ (k + 1) * 4 ^ c
  | 0 => by simp [KR]
  | c + 1 => by have := KR_pow k c; rw [Nat.pow_succ, ← Nat.mul_assoc]; unfold KR; omega
theorem own_hdr {w : World} {v : Value} {n : Nat} {hs : List Value} (h : w.ownsRow 0 23 1 v n hs) (hl : hs.length = n) (hn : 0 < n) : ∃ g cap, v = .slice (some ⟨g, 0, none⟩) n cap ∧ Hdr w g cap hs := by
  have h0 := h
  rcases h.2 with ⟨_, h3⟩ | ⟨g, cap, cur, rfl, _⟩
  · omega
  · exact ⟨g, cap, rfl, by unfold Hdr; rw [hl]; exact h0⟩
theorem own_blt {w : World} {v : Value} {n : Nat} {hs : List Value} (h : w.ownsRow 0 23 1 v n hs) : ∀ x, x ∈ v.ownBlock.toList → x < w.heap.size := by
  intro x hx
  have h0 := h
  rcases h.2 with ⟨rfl, _⟩ | ⟨g, cap, cur, rfl, _⟩
  · simp [Value.ownBlock] at hx
  · simp [Value.ownBlock] at hx
    subst hx; exact (World.ownsRow.lt h0 _ rfl).2
theorem own_keep {w w' : World} {v : Value} {n : Nat} {hs : List Value} {gs : List Nat} (h : w.ownsRow 0 23 1 v n hs) (hl : hs.length = n) (hc : Chg gs w w') (hg : ∀ x, x ∈ v.ownBlock.toList → x ∉ gs) : w'.ownsRow 0 23 1 v n hs := by
  have h0 := h
  rcases h.2 with ⟨rfl, h3⟩ | ⟨g, cap, cur, rfl, _⟩
  · obtain rfl : hs = [] := List.eq_nil_of_length_eq_zero (by omega)
    subst h3; exact World.ownsRow_nil _ _ _ _
  · have h1 : Hdr w g cap hs := by unfold Hdr; rw [hl]; exact h0
    have h2 := h1.keep hc (hg g (by simp [Value.ownBlock]))
    unfold Hdr at h2; rw [hl] at h2; exact h2

theorem Nums.el {w : World} {g cap : Nat} {xs : List Q3} (h : Nums w g cap xs) {j : Nat} (hj : j < xs.length) : El w g (j * 3) (xs.getD j q0) := by
  have := h.rds.el hj
  rwa [Nat.zero_add] at this
theorem El.st1 {w : World} {g o h i : Nat} {x : Q3} (e : El w g o x) (hg : g ≠ h) (a : Value) : El (w.setCell ⟨h, i, none⟩ a) g o x :=
  e.keep ((Chg.refl [h] w).setCell (.inl (by simp)) a) (by simpa using hg)

theorem sub_zmul (a b : Rat) : a = a - 0 * b := by grind
/-- Two places exchanged. -/
def exF (h : Nat → Nat) (r p : Nat) : Nat → Nat := fun i => if i = r then h p else if i = p then h r else h i
theorem exF_r (h : Nat → Nat) (r p : Nat) : exF h r p r = h p := by unfold exF; rw [if_pos rfl]
theorem exF_all {P : Nat → Prop} {h : Nat → Nat} {n r p : Nat} (H : ∀ t, t < n → P (h t)) (hr : r < n) (hp : p < n) : ∀ t, t < n → P (exF h r p t) := by
  intro t ht
  unfold exF
  by_cases e1 : t = r
  · rw [if_pos e1]; exact H p hp
  · rw [if_neg e1]
    by_cases e2 : t = p
    · rw [if_pos e2]; exact H r hr
    · rw [if_neg e2]; exact H t ht
theorem exF_id (h : Nat → Nat) (r p i : Nat) : exF h r p i = h (exF (fun x => x) r p i) := by
  unfold exF
  by_cases e1 : i = r
  · rw [if_pos e1, if_pos e1]
  · rw [if_neg e1, if_neg e1]
    by_cases e2 : i = p
    · rw [if_pos e2, if_pos e2]
    · rw [if_neg e2, if_neg e2]
theorem exF_inj {h : Nat → Nat} {n r p : Nat} (H : ∀ i j, i < n → j < n → h i = h j → i = j) (hr : r < n) (hp : p < n) : ∀ i j, i < n → j < n → exF h r p i = exF h r p j → i = j := by
  intro i j hi hj he
  rw [exF_id h r p i, exF_id h r p j] at he
  have := H _ _ (exF_all (P := fun x => x < n) (fun t ht => ht) hr hp i hi) (exF_all (P := fun x => x < n) (fun t ht => ht) hr hp j hj) he
  simp only [exF] at this
  repeat' split at this
  all_goals omega
theorem MutD.swapped {w : World} {g cap : Nat} {M : List (List Q3)} {h c : Nat → Nat} {n m r p : Nat} {zs : List Q3} (hH : Hdr w g cap (hdrs (exF h r p) (exF c r p) m n)) (hP : Pool w M h c n (fun i => i = p)) (hN : Nums w (h p) (c p) zs) (inj : ∀ i j, i < n → j < n → h i = h j → i = j) (off : ∀ i, i < n → h i ≠ g) (hr : r < n) (hp : p < n) (hl : M.length = n) :
    MutD w g cap ((M.set p (M.getD r [])).set r zs) (exF h r p) (exF c r p) n m := by
  refine ⟨hH, ⟨fun i hi _ => ?_⟩, exF_inj inj hr hp, exF_all (P := fun x => x ≠ g) off hr hp⟩
  rw [getD_setM _ [] zs (by rw [List.length_set]; omega), getD_setM M [] _ (by omega)]
  unfold exF
  by_cases e1 : i = r
  · simp only [e1, if_true]; exact hN
  · simp only [e1, if_false]
    by_cases e2 : i = p
    · simp only [e2, if_true]; exact hP.row r hr (fun h => e1 (by omega))
    · simp only [e2, if_false]; exact hP.row i hi e2
theorem lead_swp_row {M : List (List Q3)} {f : Nat → Nat → Rat} {n m K r p cc : Nat} {zs : List Q3} {q : Rat} (hv : Vals M f n m K) (hr : r < n) (hp : p < n) (hq : f p cc = q) (hz : Row1 zs (fun t => f p t / q) m (K + K)) : ∀ t, t < n → Row1 (((M.set p (M.getD r [])).set r zs).getD t []) (lead (swp f r p) r cc t) m (if t = r then K + K else K) := by
  intro t ht
  have hl := hv.len
  rw [getD_setM _ [] zs (by rw [List.length_set]; omega), getD_setM M [] _ (by omega)]
  unfold lead swp
  by_cases e1 : t = r
  · simp only [e1, if_true, hq]; exact hz
  · simp only [e1, if_false]
    by_cases e2 : t = p
    · simp only [e2, if_true]; exact hv.at_ hr
    · simp only [e2, if_false]; exact hv.at_ ht

set_option maxRecDepth 20000 in
set_option linter.unusedSimpArgs false in
set_option maxHeartbeats 8000000 in
theorem rechelon_any (M : List (List Q3)) (F : Nat → Nat → Rat) (n m k : Nat) (A : Option Addr) (cap : Nat) (w : World) (hv : Vals M F n m k) (hn0 : 0 < n) (hm0 : 0 < m) (hn : n ≤ 1000) (hm : m ≤ 1000) (_ : 1 ≤ k) (hb : KR k m ≤ 4294967296) (hx : Mtx w A M) :
    Calls Try.prog 100 #[.slice A n cap] w fun e w' => ∃ (v2 : Value) (g cp : Nat) (M' : List (List Q3)) (h c : Nat → Nat), e = .returned (.tuple #[.slice (some ⟨g, 0, none⟩) n cp, v2]) ∧ MutD w' g cp M' h c n m ∧ OwnI w' v2 (ech F n m).2 ∧ Vals M' (ech F n m).1 n m (KR k m) ∧ Chg [] w w' := by
  obtain ⟨iR, hiR, hzR0, hzR1, hzR2⟩ := info_parts Try.infoRats
  obtain ⟨iI, hiI, hzI0, hzI1, hzI2⟩ := info_parts Try.infoInt
  have HX := Lib.hid hx
  have HV := Lib.hid hv
  have HB := Lib.hid hb
  have hL := hv.len
  have hch : Chg [] w w := Chg.refl _ _
  obtain ⟨ga, oa, rfl, hga⟩ := hx.form (by omega)
  clear hx hv hb
  go_enter Try.func100, Try.ntmps100
  go_wp2_with fail
  go_loopw [4, 6] (fun sv iv wr => ∃ (i : Nat) (h c : Nat → Nat), i ≤ n ∧ iv = .int .i64 i ∧ wr.ownsRow 0 23 1 sv i (hdrs h c m i) ∧ Pool wr M h c i (fun _ => False) ∧ (∀ s t, s < i → t < i → h s = h t → s = t) ∧ (∀ t, t < i → h t ∉ sv.ownBlock.toList ∧ w.heap.size ≤ h t) ∧ (∀ x, x ∈ sv.ownBlock.toList → w.heap.size ≤ x) ∧ Chg [] w wr) (fun _ iv _ => n - (intOf iv).toNat)
  case atStart => exact ⟨0, fun _ => 0, fun _ => 0, Nat.zero_le _, rfl, World.ownsRow_nil _ _ _ _, ⟨fun i h => absurd h (by omega)⟩, fun s t h => absurd h (by omega), fun t h => absurd h (by omega), by simp [Value.ownBlock], hch⟩
  case round =>
    clear hch
    obtain ⟨i, h, c, hi, rfl, hown, hpool, hinj, hoff, hblk, hch⟩ := hrel
    have HINJ := Lib.hid hinj
    have HOFF := Lib.hid hoff
    have HBK := Lib.hid hblk
    clear hinj hoff hblk
    by_cases hlt : i < n
    · obtain ⟨Br, cr, hc, _, _, hB⟩ := (HX.out.keep0 hch).row (i := i) (by omega)
      have hrl := HV.out.row i hlt
      obtain ⟨row, HRW⟩ := name_it (M.getD i [])
      rw [HRW.out] at hc hB hrl
      rw [hrl] at hc
      have HRL := Lib.hid hrl
      have i1 : (0 : Int) ≤ (i : Int) := by omega
      have i2 : (i : Int) < (n : Int) := by omega
      have HOWN := Lib.hid hown
      have HPOOL := Lib.hid hpool
      clear hown hpool hrl
      have hcc := hc.c
      go_wp2_with (at_builtin; refine wpList_append3 _ rfl (.const (.slice none 0 0)) (.tmp 26) rfl _ [] rfl (Own3.nil _) Br m cr row rfl HRL.out hB (by simp; omega) ?_)
      intro v1 w4 own1 cv1 hv1
      have hN9 : Hid (∃ g9 c9, v1 = .slice (some ⟨g9, 0, none⟩) m c9 ∧ g9 = wr.heap.size ∧ m ≤ c9 ∧ c9 ≤ 9223372036854775807 ∧ Nums w4 g9 c9 row) := by
        show ∃ _ _, _
        rcases own1.form with ⟨_, h2⟩ | ⟨g9, c9, rfl, _, h3, h4, _⟩
        · have := HRL.out; rw [h2] at this; simp at this; omega
        · rw [HRL.out] at h3
          refine ⟨g9, c9, by rw [HRL.out], ?_, h3, h4, own1⟩
          rcases hv1 with h5 | h5
          · simp [Value.ownBlock] at h5
          · simpa [Value.ownBlock] using h5
      obtain ⟨g9, c9, rfl, hg9, hc91, hc92, hN⟩ := hN9.out
      have HG9 := Lib.hid hg9
      clear hg9
      have hblt := own_blt HOWN.out
      have c10 : Chg [] w4 (w4.alloc (.cells #[.slice (some ⟨g9, 0, none⟩) m c9] 23)) := (Chg.refl _ _).alloc _
      have hcl : (w4.alloc (.cells #[.slice (some ⟨g9, 0, none⟩) m c9] 23)).cell? ⟨w4.heap.size, 0, none⟩ = some (.slice (some ⟨g9, 0, none⟩) m c9) := by simp
      have hc0 : Chg [] wr (w4.alloc (.cells #[.slice (some ⟨g9, 0, none⟩) m c9] 23)) := (show Chg [] wr w4 from cv1).then c10
      have hown := own_keep HOWN.out (hdrs_length h c m i) hc0 (fun _ _ => by simp)
      have hN' := hN.keep0 c10
      have hpool := HPOOL.out.keep0 hc0
      have hlt9 := hN.lt
      have hlt4 := cv1.size
      have hsz0 := hch.size
      replace hch := hch.then hc0
      clear c10 hc0 own1 cv1 hv1 hN9 hcc hc hB hN
      go_wp2_with (at_builtin; refine wpList_append1 _ 22 23 iR _ 24 Try.underlying22 hiR hzR0 hzR1 hzR2 rfl (by omega) rfl (.tmp 22) (.tmp 28) rfl _ i (hdrs h c m i) rfl hown ⟨w4.heap.size, 0, none⟩ 1 (.slice (some ⟨g9, 0, none⟩) m c9) rfl hcl rfl (by omega) ?_)
      intro v2 w5 own2 cv2 hv2
      have hE : Hid (hdrs (fun t => if t = i then g9 else h t) (fun t => if t = i then c9 else c t) m (i + 1) = hdrs h c m i ++ [.slice (some ⟨g9, 0, none⟩) m c9]) := Lib.hid (by
        rw [hdrs_snoc, if_pos rfl, if_pos rfl, hdrs_congr (h' := h) (c' := c) (fun t ht => ⟨if_neg (by omega), if_neg (by omega)⟩)])
      have hP : Hid (Pool w5 M (fun t => if t = i then g9 else h t) (fun t => if t = i then c9 else c t) (i + 1) (fun _ => False)) := Lib.hid ⟨fun t ht _ => by
        by_cases he : t = i
        · simp only [he, if_true]; rw [HRW.out]
          exact hN'.keep cv2 (fun hm => by have := hblt _ hm; have := HG9.out; omega)
        · simp only [he, if_false]
          exact (hpool.row t (by omega) (fun h => h)).keep cv2 (HOFF.out t (by omega)).1⟩
      have hlo : ∀ t, t < i → h t < wr.heap.size := fun t ht => (HPOOL.out.row t ht (fun h => h)).lt
      have hI : Hid (∀ s t, s < i + 1 → t < i + 1 → (if s = i then g9 else h s) = (if t = i then g9 else h t) → s = t) := by
        show ∀ _ _, _
        intro s t hs ht he
        by_cases e1 : s = i <;> by_cases e2 : t = i
        · omega
        · rw [if_pos e1, if_neg e2] at he; have := hlo t (by omega); have := HG9.out; omega
        · rw [if_neg e1, if_pos e2] at he; have := hlo s (by omega); have := HG9.out; omega
        · rw [if_neg e1, if_neg e2] at he; exact HINJ.out s t (by omega) (by omega) he
      have hO : Hid (∀ t, t < i + 1 → (if t = i then g9 else h t) ∉ v2.ownBlock.toList ∧ w.heap.size ≤ (if t = i then g9 else h t)) := by
        show ∀ _, _
        intro t ht
        refine ⟨fun hm => ?_, by
          by_cases e1 : t = i
          · rw [if_pos e1, HG9.out]; exact hsz0
          · rw [if_neg e1]; exact (HOFF.out t (by omega)).2⟩
        have h8 : (if t = i then g9 else h t) < w4.heap.size := by
          by_cases e1 : t = i
          · rw [if_pos e1]; exact hlt9
          · rw [if_neg e1]; have := hlo t (by omega); omega
        rcases hv2 with h5 | h5
        · rw [h5] at hm
          by_cases e1 : t = i
          · rw [if_pos e1] at hm; have := hblt _ hm; have := HG9.out; omega
          · rw [if_neg e1] at hm; exact (HOFF.out t (by omega)).1 hm
        · rw [h5] at hm; simp at hm; omega
      have hBK2 : Hid (∀ x, x ∈ v2.ownBlock.toList → w.heap.size ≤ x) := by
        show ∀ _, _
        intro x hx
        rcases hv2 with h5 | h5
        · rw [h5] at hx; exact HBK.out x hx
        · rw [h5] at hx; simp at hx; have := hch.size; simp at this; omega
      have hch2 := Lib.hid (hch.trans cv2 (fun x hx => .inr (HBK.out x hx)))
      clear hch cv2 hv2 hlo hpool hN' hown hblt hcl
      go_wp2_with fail
      go_roundw
      case rel => exact ⟨i + 1, _, _, by omega, by go_num, by rw [hE.out]; exact own2, hP.out, hI.out, hO.out, hBK2.out, hch2.out⟩
      case measure => simp [intOf]; omega
    · obtain rfl : n = i := by omega
      obtain ⟨g, cp, rfl, hH⟩ := own_hdr hown (hdrs_length h c m n) hn0
      have hD : MutD wr g cp M h c n m := ⟨hH, hpool, HINJ.out, fun t ht hg => (HOFF.out t ht).1 (by rw [hg]; simp [Value.ownBlock])⟩
      have hgw : w.heap.size ≤ g := HBK.out g (by simp [Value.ownBlock])
      have HGE := Lib.hid (fun t ht => (HOFF.out t ht).2)
      clear HOFF HBK HINJ hH hpool hown
      go_wp2_with fail
      go_loopw [5, 7, 8] (fun pvv rv cv wr => ∃ (cc : Nat) (M1 : List (List Q3)) (h c : Nat → Nat), cc ≤ m ∧ cv = .int .i64 cc ∧ rv = .int .i64 (ech F n cc).2.length ∧ OwnI wr pvv (ech F n cc).2 ∧ MutD wr g cp M1 h c n m ∧ Vals M1 (ech F n cc).1 n m (KR k cc) ∧ (∀ t, t < n → w.heap.size ≤ h t) ∧ (∀ x, x ∈ pvv.ownBlock.toList → w.heap.size ≤ x ∧ x ≠ g ∧ ∀ t, t < n → h t ≠ x) ∧ Chg [] w wr) (fun _ _ cv _ => m - (intOf cv).toNat)
      case atStart => exact ⟨0, M, h, c, Nat.zero_le _, rfl, rfl, OwnI.nil _, hD, HV.out, HGE.out, by simp [Value.ownBlock], hch⟩
      case round =>
        clear hD HGE hch
        obtain ⟨cc, M1, h, c, hcc, rfl, rfl, hpv, hD, hV, hge, hpb, hch⟩ := hrel
        have EH := Lib.hid (ech_holds F n cc)
        have hle := EH.out.len
        have HFULL := Lib.hid (fun (hl : (ech F n cc).2.length = n) => ech_full hl (m - cc))
        obtain ⟨f, Hf⟩ := name_it (ech F n cc).1
        obtain ⟨pv, Hpv⟩ := name_it (ech F n cc).2
        rw [Hf.out] at hV EH
        rw [Hpv.out] at hpv hle EH HFULL ⊢
        have HV1 := Lib.hid hV
        have HGE := Lib.hid hge
        have HPB := Lib.hid hpb
        have HPV := Lib.hid hpv
        clear hV hge hpb hpv
        obtain ⟨r, Hr⟩ := name_it pv.length
        rw [Hr.out] at hle HFULL ⊢
        obtain ⟨K, HK⟩ := name_it (KR k cc)
        rw [HK.out] at HV1
        have HKS : Hid (KR k (cc + 1) = 4 * K + 1) := Lib.hid (by show 4 * KR k cc + 1 = _; rw [HK.out])
        have hKm := KR_le k hcc
        rw [HK.out] at hKm
        by_cases hrn : r < n
        · have hc0 := hD.cel (i := 0) hn0
          have i1 : (0 : Int) < (n : Int) := by omega
          by_cases hcm : cc < m
          · have hc0c := hc0.c
            go_wp2_with fail
            clear hc0c
            go_loopw [9] (fun sv wr => ∃ (p : Nat), r ≤ p ∧ p ≤ n ∧ sv = .int .i64 p ∧ (∀ t, r ≤ t → t < p → f t cc = 0) ∧ MutD wr g cp M1 h c n m ∧ OwnI wr u5 pv ∧ Chg [] w wr) (fun sv _ => n - (intOf sv).toNat)
            case atStart => exact ⟨r, Nat.le_refl _, hle, rfl, fun t h1 h2 => absurd h1 (by omega), hD, HPV.out, hch⟩
            case round =>
              clear hD HPV hch hc0
              obtain ⟨p, hrp, hp, rfl, hz, hD, hpv, hch⟩ := hrel
              have HZ := Lib.hid hz
              have HPV := Lib.hid hpv
              clear hz hpv
              by_cases hpn : p < n
              · have hcel := hD.cel hpn
                have hN := hD.nums hpn
                have R1 := Lib.hid (HV1.out.at_ hpn)
                obtain ⟨y, HY⟩ := name_it (M1.getD p [])
                rw [HY.out] at hN R1
                have hyl := Lib.hid R1.out.len
                have e1 := hN.el (j := cc) (by rw [hyl.out]; exact hcm)
                have vx := R1.out.val cc hcm
                obtain ⟨x, HX2⟩ := name_it (y.getD cc q0)
                rw [HX2.out] at e1 vx
                obtain ⟨q, HQ⟩ := name_it (f p cc)
                rw [HQ.out] at vx
                have j1 : (0 : Int) ≤ (p : Int) := by omega
                have j2 : (p : Int) < (n : Int) := by omega
                have j3 : (0 : Int) ≤ (cc : Int) := by omega
                have j4 : (cc : Int) < (m : Int) := by omega
                by_cases hq : q = 0
                · have hx0 := vx.zz hq
                  have HQ0 : Hid (f p cc = 0) := Lib.hid (by rw [HQ.out]; exact hq)
                  clear hq hN vx
                  have e1a := e1.a
                  have e1b := e1.b
                  have e1c := e1.c
                  have hcelc := hcel.c
                  go_wp2_with fail
                  go_roundw
                  case rel => exact ⟨p + 1, by omega, by omega, by go_num, all_from HZ.out HQ0.out, hD, HPV.out, hch⟩
                  case measure => simp [intOf]; omega
                · have hx0 := vx.nz hq
                  have HQ0 : Hid (f p cc ≠ 0) := Lib.hid (by rw [HQ.out]; exact hq)
                  have VX := Lib.hid vx
                  have hpe : ((p : Int) == (n : Int)) = false := by simp; omega
                  clear hq vx
                  have hcr := hD.cel hrn
                  have fzp := hD.hdr.frozen p
                  have r1 : (0 : Int) ≤ (r : Int) := by omega
                  have r2 : (r : Int) < (n : Int) := by omega
                  have cs : Chg [g] wr (wr.setCell ⟨g, p, none⟩ (.slice (some ⟨h r, 0, none⟩) m (c r))) := (Chg.refl [g] wr).setCell (.inl (by simp)) _
                  have hH1 := hD.hdr.store p (.slice (some ⟨h r, 0, none⟩) m (c r))
                  rw [hdrs_set] at hH1
                  have hP1 : Pool (wr.setCell ⟨g, p, none⟩ (.slice (some ⟨h r, 0, none⟩) m (c r))) M1 h c n (fun i => i = p) := ⟨fun i hi _ => (hD.nums hi).keep cs (by simpa using hD.off i hi)⟩
                  have hN1 := hN.keep cs (by simpa using hD.off p hpn)
                  have hpv1 := HPV.out.keep cs (fun x hx => by simpa using (HPB.out x hx).2.1)
                  have hch1 := hch.setCell (p := ⟨g, p, none⟩) (.inr hgw) (.slice (some ⟨h r, 0, none⟩) m (c r))
                  have HIJ := Lib.hid hD.inj
                  have HOG := Lib.hid hD.off
                  have b1 := Blk3.alloc (wr.setCell ⟨g, p, none⟩ (.slice (some ⟨h r, 0, none⟩) m (c r))) (.bool x.neg) (.string x.num) (.string x.den) 35
                  have c10 : Chg [] (wr.setCell ⟨g, p, none⟩ (.slice (some ⟨h r, 0, none⟩) m (c r))) ((wr.setCell ⟨g, p, none⟩ (.slice (some ⟨h r, 0, none⟩) m (c r))).alloc (.cells #[.bool x.neg, .string x.num, .string x.den] 35)) := (Chg.refl _ _).alloc _
                  have hH := hH1.keep c10 (by simp)
                  have hP := hP1.keep0 c10
                  have hNp := hN1.keep0 c10
                  have hpv := hpv1.keep0 c10
                  have hch2 := hch1.then c10
                  have e2 := e1.st1 (i := p) (hD.off p hpn) (.slice (some ⟨h r, 0, none⟩) m (c r))
                  have hszs : (wr.setCell ⟨g, p, none⟩ (.slice (some ⟨h r, 0, none⟩) m (c r))).heap.size = wr.heap.size := by simp
                  rw [hszs] at b1
                  have hblt : ∀ i, i < n → h i < wr.heap.size := fun i hi => (hD.nums hi).lt
                  have hglt := hD.hdr.lt
                  obtain ⟨gb, HGB⟩ := name_it wr.heap.size
                  rw [HGB.out] at b1 hblt hglt
                  have HBL := Lib.hid hblt
                  have hwb : w.heap.size ≤ gb := by rw [← HGB.out]; exact hch.size
                  clear hN1 hP1 hH1 hpv1 hch1 c10 cs hblt
                  have xe1 := e1.a
                  have xe2 := e1.b
                  have xe3 := e1.c
                  have e2a := e2.a
                  have e2b := e2.b
                  have e2c := e2.c
                  have hcrc := hcr.c
                  have hcelc := hcel.c
                  go_wp2_with fail
                  clear e2a e2b e2c hcrc hcelc
                  try simp only [World.size_setCell]
                  rw [HGB.out]
                  clear xe1 xe2 xe3 e1 e2 hcr hcel fzp hD hch hN
                  go_loopw [12] (fun kv wx => ∃ (l : Nat) (zs : List Q3), l ≤ m ∧ kv = .int .i64 l ∧ zs.length = m ∧ (∀ t, t < l → Val (zs.getD t q0) (f p t / q) (K + K)) ∧ (∀ t, l ≤ t → zs.getD t q0 = y.getD t q0) ∧ Nums wx (h p) (c p) zs ∧ Blk3 wx gb (.bool x.neg) (.string x.num) (.string x.den) ∧ Hdr wx g cp (hdrs (fun i => if i = p then h r else h i) (fun i => if i = p then c r else c i) m n) ∧ Pool wx M1 h c n (fun i => i = p) ∧ OwnI wx u5 pv ∧ Chg [] w wx) (fun kv _ => m - (intOf kv).toNat)
                  case atStart => exact ⟨0, y, Nat.zero_le _, rfl, hyl.out, fun t h => absurd h (by omega), fun t _ => rfl, hNp, b1, hH, hP, hpv, hch2⟩
                  case round =>
                    clear hNp b1 hH hP hpv hch2
                    obtain ⟨l, zs, hl, rfl, hlz, hval, hrest, hN, b1, hH, hP, hpv, hch⟩ := hrel
                    have HVAL := Lib.hid hval
                    have HREST := Lib.hid hrest
                    have HPV := Lib.hid hpv
                    have HHD := Lib.hid hH
                    have HPO := Lib.hid hP
                    clear hval hrest hpv hH hP
                    by_cases hlm : l < m
                    · have e1 := hN.el (j := l) (by omega)
                      rw [HREST.out l (Nat.le_refl _)] at e1
                      have v1 := R1.out.val l hlm
                      obtain ⟨z0, HZ0⟩ := name_it (y.getD l q0)
                      rw [HZ0.out] at e1 v1
                      obtain ⟨u, HU⟩ := name_it (f p l)
                      rw [HU.out] at v1
                      have j5 : (0 : Int) ≤ (l : Int) := by omega
                      have j6 : (l : Int) < (m : Int) := by omega
                      have hhb := HBL.out p hpn
                      have s3 := hN.frozen (l * 3)
                      have s4 := hN.frozen (l * 3 + 1)
                      have s5 := hN.frozen (l * 3 + 2)
                      clear hl
                      have b1c0 := b1.c0
                      have b1c1 := b1.c1
                      have b1c2 := b1.c2
                      have b1f0 := b1.f0
                      have b1f1 := b1.f1
                      have b1f2 := b1.f2
                      have b1l := b1.lt
                      have e1a := e1.a
                      have e1b := e1.b
                      have e1c := e1.c
                      go_wp2_with fail
                      clear b1c0 b1c1 b1c2 b1f0 b1f1 b1f2 b1l e1a e1b e1c
                      have c8 : Chg [] wr wr.drew := (Chg.refl _ _).drew
                      have hH := HHD.out.keep c8 (by simp)
                      have hP := HPO.out.keep0 c8
                      have hpv := HPV.out.keep0 c8
                      replace b1 := b1.keep c8 (by simp)
                      replace hN := hN.keep c8 (by simp)
                      replace e1 := e1.keep0 c8
                      replace hch := hch.then c8
                      clear c8
                      have s3 := hN.frozen (l * 3)
                      have s4 := hN.frozen (l * 3 + 1)
                      have s5 := hN.frozen (l * 3 + 2)
                      have b1c0 := b1.c0
                      have b1c1 := b1.c1
                      have b1c2 := b1.c2
                      have b1f0 := b1.f0
                      have b1f1 := b1.f1
                      have b1f2 := b1.f2
                      have b1l := b1.lt
                      have e1a := e1.a
                      have e1b := e1.b
                      have e1c := e1.c
                      go_region_with (first
                          | (go_at_call 65
                             (with_reducible refine (rOver_any z0 x u q K K _ v1 VX.out (by rw [← HQ.out]; exact HQ0.out) (by have := HB.out; omega)).mono ?_)
                             rintro e w1 ⟨z2, rfl, hz2, c1⟩
                             clear b1c0 b1c1 b1c2 b1f0 b1f1 b1f2 b1l e1a e1b e1c
                             replace hH := hH.keep c1 (by simp)
                             replace b1 := b1.keep c1 (by simp)
                             replace hN := hN.keep c1 (by simp)
                             replace e1 := e1.keep0 c1
                             replace hP := hP.keep0 c1
                             replace hpv := hpv.keep0 c1
                             replace hch := hch.then c1
                             clear c1
                             have s3 := hN.frozen (l * 3)
                             have s4 := hN.frozen (l * 3 + 1)
                             have s5 := hN.frozen (l * 3 + 2)
                             have b1c0 := b1.c0
                             have b1c1 := b1.c1
                             have b1c2 := b1.c2
                             have b1f0 := b1.f0
                             have b1f1 := b1.f1
                             have b1f2 := b1.f2
                             have b1l := b1.lt
                             have e1a := e1.a
                             have e1b := e1.b
                             have e1c := e1.c
                             skip))
                      all_goals
                        have HNX := Lib.hid (nums_set (P := fun t z => Val z (f p t / q) (K + K)) (z := z2) (by omega : l < zs.length) HVAL.out (by rw [HU.out]; exact hz2))
                        go_wp2_with fail
                        go_roundw
                        case rel => exact ⟨l + 1, zs.set l z2, by omega, by go_num, by rw [List.length_set]; exact hlz, HNX.out, fun t ht => by rw [getD_setM zs q0 z2 (by omega), if_neg (by omega)]; exact HREST.out t (by omega), hN.store (by omega) z2, b1.sto (by omega) _ _ _, hH.keep ((Chg.refl [h p] _).store3o (.inl (by simp)) _ _ _) (by simpa using Ne.symm (HOG.out p hpn)), hP.keep ((Chg.refl [h p] _).store3o (.inl (by simp)) _ _ _) (fun i hi hx => by simp; exact fun e => hx (HIJ.out _ _ hi hpn e)), hpv.keep ((Chg.refl [h p] _).store3o (.inl (by simp)) _ _ _) (fun x hx => by simp; exact fun e => (HPB.out x hx).2.2 p hpn e.symm), hch.store3o (.inr (HGE.out p hpn)) _ _ _⟩
                        case measure => simp [intOf]; omega
                    · obtain rfl : m = l := by omega
                      have hzs : Row1 zs (fun t => f p t / q) m (K + K) := ⟨hlz, HVAL.out⟩
                      have hG := Lib.hid (lead_swp_row HV1.out hrn hpn HQ.out hzs)
                      have HST := Lib.hid (show stp f r cc p = clr (lead (swp f r p) r cc) r cc from rfl)
                      obtain ⟨G, HG⟩ := name_it (lead (swp f r p) r cc)
                      rw [HG.out] at hG HST
                      have hcr0 := HHD.out.cell (j := r) (by rw [hdrs_length]; exact hrn)
                      have fzr := HHD.out.frozen r
                      have cs : Chg [g] wr (wr.setCell ⟨g, r, none⟩ (.slice (some ⟨h p, 0, none⟩) m (c p))) := (Chg.refl [g] wr).setCell (.inl (by simp)) _
                      have hH := HHD.out.store r (.slice (some ⟨h p, 0, none⟩) m (c p))
                      rw [hdrs_set] at hH
                      have hD : MutD (wr.setCell ⟨g, r, none⟩ (.slice (some ⟨h p, 0, none⟩) m (c p))) g cp ((M1.set p (M1.getD r [])).set r zs) (exF h r p) (exF c r p) n m :=
                        MutD.swapped hH (HPO.out.keep cs (fun i hi _ => by simpa using HOG.out i hi)) (hN.keep cs (by simpa using HOG.out p hpn)) HIJ.out HOG.out hrn hpn HV1.out.len
                      have hpv := HPV.out.keep cs (fun x hx => by simpa using (HPB.out x hx).2.1)
                      have hch2 := hch.setCell (p := ⟨g, r, none⟩) (.inr hgw) (.slice (some ⟨h p, 0, none⟩) m (c p))
                      have hhr : exF h r p r = h p ∧ exF c r p r = c p := ⟨exF_r h r p, exF_r c r p⟩
                      have HGE2 := Lib.hid (exF_all (P := fun y => w.heap.size ≤ y) HGE.out hrn hpn)
                      have HPB2 : Hid (∀ x, x ∈ u5.ownBlock.toList → w.heap.size ≤ x ∧ x ≠ g ∧ ∀ t, t < n → exF h r p t ≠ x) := Lib.hid fun x hx => ⟨(HPB.out x hx).1, (HPB.out x hx).2.1, exF_all (P := fun y => y ≠ x) (HPB.out x hx).2.2 hrn hpn⟩
                      have hlM2 : ((M1.set p (M1.getD r [])).set r zs).length = n := by rw [List.length_set, List.length_set]; exact HV1.out.len
                      obtain ⟨h2, HH2⟩ := name_it (exF h r p)
                      obtain ⟨c2, HC2⟩ := name_it (exF c r p)
                      obtain ⟨M2, HM2⟩ := name_it ((M1.set p (M1.getD r [])).set r zs)
                      rw [HH2.out, HC2.out] at hhr hD
                      rw [HH2.out] at HGE2 HPB2
                      rw [HM2.out] at hD hG hlM2
                      have HHR := Lib.hid hhr
                      clear hH cs b1 hN hzs HPO hhr
                      go_wp2_with fail
                      clear hcr0 fzr hch
                      go_loopw [13] (fun iv wx => ∃ (i : Nat) (M3 : List (List Q3)), i ≤ n ∧ iv = .int .i64 i ∧ M3.length = n ∧ MutD wx g cp M3 h2 c2 n m ∧ (∀ t, t < n → Row1 (M3.getD t []) (if t < i then clr G r cc t else G t) m (if t = r then K + K else if t < i then 4 * K + 1 else K)) ∧ OwnI wx u5 pv ∧ Chg [] w wx) (fun iv _ => n - (intOf iv).toNat)
                      case atStart => exact ⟨0, M2, Nat.zero_le _, rfl, hlM2, hD, fun t ht => by simp only [Nat.not_lt_zero, if_false]; exact hG.out t ht, hpv, hch2⟩
                      case round =>
                        clear hD hpv hch2 hlM2 hG
                        obtain ⟨i, M3, hi, rfl, hlM3, hD, hrows, hpv, hch⟩ := hrel
                        have HROWS := Lib.hid hrows
                        have HPV := Lib.hid hpv
                        clear hrows hpv
                        by_cases hin : i < n
                        · have hci := hD.cel hin
                          have hNi := hD.nums hin
                          have R3 := Lib.hid (HROWS.out i hin)
                          obtain ⟨y3, HY3⟩ := name_it (M3.getD i [])
                          rw [HY3.out] at hNi R3
                          have hyl3 := Lib.hid R3.out.len
                          have e1 := hNi.el (j := cc) (by rw [hyl3.out]; exact hcm)
                          have vx3 : Val (y3.getD cc q0) (G i cc) (K + K) := by
                            have := R3.out.val cc hcm
                            rw [if_neg (Nat.lt_irrefl i), if_neg (Nat.lt_irrefl i)] at this
                            refine this.mono ?_
                            split <;> omega
                          obtain ⟨x3, HX3⟩ := name_it (y3.getD cc q0)
                          rw [HX3.out] at e1 vx3
                          obtain ⟨q3, HQ3⟩ := name_it (G i cc)
                          rw [HQ3.out] at vx3
                          have i3 : (0 : Int) ≤ (i : Int) := by omega
                          have i4 : (i : Int) < (n : Int) := by omega
                          have b3 := Blk3.alloc wr (.bool x3.neg) (.string x3.num) (.string x3.den) 35
                          have c10 : Chg [] wr (wr.alloc (.cells #[.bool x3.neg, .string x3.num, .string x3.den] 35)) := (Chg.refl _ _).alloc _
                          have hD1 := hD.keep0 c10
                          have hpv1 := HPV.out.keep0 c10
                          have hch1 := hch.then c10
                          have hblt3 : ∀ t, t < n → h2 t < wr.heap.size := fun t ht => (hD.nums ht).lt
                          have hglt3 := hD.hdr.lt
                          obtain ⟨g3, HG3⟩ := name_it wr.heap.size
                          rw [HG3.out] at b3 hblt3 hglt3
                          have HBL3 := Lib.hid hblt3
                          have hw3 : w.heap.size ≤ g3 := by rw [← HG3.out]; exact hch.size
                          have SKIP : Hid ((i = r ∨ q3 = 0) → ∀ t, t < n → Row1 (M3.getD t []) (if t < i + 1 then clr G r cc t else G t) m (if t = r then K + K else if t < i + 1 then 4 * K + 1 else K)) := Lib.hid fun ho t ht => by
                            have h0 := HROWS.out t ht
                            by_cases e2 : t < i
                            · rw [if_pos (show t < i + 1 by omega), if_pos (show t < i + 1 by omega)]
                              rwa [if_pos e2, if_pos e2] at h0
                            · by_cases e3 : t = i
                              · rw [if_neg e2, if_neg e2] at h0
                                rw [if_pos (show t < i + 1 by omega), if_pos (show t < i + 1 by omega)]
                                have h4 : ∀ j, G t j = clr G r cc t j := fun j => by
                                  unfold clr
                                  rcases ho with h | h
                                  · rw [if_pos (by omega), show t = r by omega]
                                  · by_cases e5 : t = r
                                    · rw [if_pos e5, e5]
                                    · rw [if_neg e5, e3, HQ3.out, h]; exact sub_zmul _ _
                                rw [show clr G r cc t = G t from funext fun j => (h4 j).symm]
                                refine h0.mono ?_
                                split <;> omega
                              · rw [if_neg (by omega), if_neg (show ¬ t < i + 1 by omega)]
                                rwa [if_neg e2, if_neg e2] at h0
                          clear hblt3 c10 hNi
                          have xe1 := e1.a
                          have xe2 := e1.b
                          have xe3 := e1.c
                          have b3c0 := b3.c0
                          have b3c1 := b3.c1
                          have b3c2 := b3.c2
                          have b3f0 := b3.f0
                          have b3f1 := b3.f1
                          have b3f2 := b3.f2
                          have b3l := b3.lt
                          have hcic := hci.c
                          by_cases hir : i = r
                          · have hie : ((i : Int) == (r : Int)) = true := by simp; omega
                            have SK := Lib.hid (SKIP.out (.inl hir))
                            clear hir SKIP
                            go_wp2_with fail
                            go_roundw
                            case rel => exact ⟨i + 1, M3, by omega, by go_num, hlM3, hD1, SK.out, hpv1, hch1⟩
                            case measure => simp [intOf]; omega
                          · have hie : ((i : Int) == (r : Int)) = false := by simp; omega
                            by_cases hq3 : q3 = 0
                            · have hx3 := vx3.zz hq3
                              have SK := Lib.hid (SKIP.out (.inr hq3))
                              clear hq3 hir SKIP
                              go_wp2_with fail
                              go_roundw
                              case rel => exact ⟨i + 1, M3, by omega, by go_num, hlM3, hD1, SK.out, hpv1, hch1⟩
                              case measure => simp [intOf]; omega
                            · have hx3 := vx3.nz hq3
                              have RI : Hid (Row1 y3 (G i) m K) := Lib.hid (by have := R3.out; rwa [if_neg (Nat.lt_irrefl i), if_neg hir, if_neg (Nat.lt_irrefl i)] at this)
                              have RR0 := HROWS.out r hrn
                              have RR : Hid (Row1 (M3.getD r []) (G r) m (K + K)) := Lib.hid (by
                                rw [if_pos rfl] at RR0
                                have h4 : (if r < i then clr G r cc r else G r) = G r := by
                                  split
                                  · funext j; unfold clr; rw [if_pos rfl]
                                  · rfl
                                rwa [h4] at RR0)
                              have HIR := Lib.hid hir
                              have VX3 := Lib.hid (show Val x3 q3 K from by rw [← HQ3.out, ← HX3.out]; exact RI.out.val cc hcm)
                              have hHD1 := hD1.hdr
                              have hPO1 : Pool (wr.alloc (.cells #[.bool x3.neg, .string x3.num, .string x3.den] 35)) M3 h2 c2 n (fun t => t = i) := ⟨fun t ht _ => hD1.nums ht⟩
                              have hN1 := hD1.nums hin
                              rw [HY3.out] at hN1
                              have HIJ3 := Lib.hid hD1.inj
                              have HOG3 := Lib.hid hD1.off
                              obtain ⟨y4, HY4⟩ := name_it (M3.getD r [])
                              rw [HY4.out] at RR
                              have hyl4 := Lib.hid RR.out.len
                              clear hq3 hir SKIP RR0 hD hD1
                              go_wp2_with fail
                              rw [HG3.out]
                              clear b3c0 b3c1 b3c2 b3f0 b3f1 b3f2 b3l hcic
                              clear xe1 xe2 xe3 e1 hci hch
                              go_loopw [15] (fun kv wx => ∃ (l : Nat) (zs : List Q3), l ≤ m ∧ kv = .int .i64 l ∧ zs.length = m ∧ (∀ t, t < l → Val (zs.getD t q0) (G i t - q3 * G r t) (4 * K + 1)) ∧ (∀ t, l ≤ t → zs.getD t q0 = y3.getD t q0) ∧ Nums wx (h2 i) (c2 i) zs ∧ Blk3 wx g3 (.bool x3.neg) (.string x3.num) (.string x3.den) ∧ Hdr wx g cp (hdrs h2 c2 m n) ∧ Pool wx M3 h2 c2 n (fun t => t = i) ∧ OwnI wx u5 pv ∧ Chg [] w wx) (fun kv _ => m - (intOf kv).toNat)
                              case atStart => exact ⟨0, y3, Nat.zero_le _, rfl, hyl3.out, fun t h => absurd h (by omega), fun t _ => rfl, hN1, b3, hHD1, hPO1, hpv1, hch1⟩
                              case round =>
                                clear hN1 b3 hHD1 hPO1 hpv1 hch1
                                obtain ⟨l, zs, hl, rfl, hlz, hval, hrest, hN, b3, hH, hP, hpv, hch⟩ := hrel
                                have HVAL := Lib.hid hval
                                have HREST := Lib.hid hrest
                                clear hval hrest
                                by_cases hlm : l < m
                                · have e1 := hN.el (j := l) (by omega)
                                  rw [HREST.out l (Nat.le_refl _)] at e1
                                  have v1 := RI.out.val l hlm
                                  have hNr := hP.row r hrn (fun h => HIR.out h.symm)
                                  rw [HY4.out, HHR.out.1, HHR.out.2] at hNr
                                  have e4 := hNr.el (j := l) (by rw [hyl4.out]; exact hlm)
                                  have v4 := RR.out.val l hlm
                                  have hci : Cel wr g i (.slice (some ⟨h2 i, 0, none⟩) m (c2 i)) := ⟨hH.lt, by rw [hH.cell (by rw [hdrs_length]; exact hin), hdrs_get h2 c2 m hin]⟩
                                  obtain ⟨z0, HZ0⟩ := name_it (y3.getD l q0)
                                  rw [HZ0.out] at e1 v1
                                  obtain ⟨z4, HZ4⟩ := name_it (y4.getD l q0)
                                  rw [HZ4.out] at e4 v4
                                  obtain ⟨u, HU⟩ := name_it (G i l)
                                  rw [HU.out] at v1
                                  obtain ⟨v, HVV⟩ := name_it (G r l)
                                  rw [HVV.out] at v4
                                  have j5 : (0 : Int) ≤ (l : Int) := by omega
                                  have j6 : (l : Int) < (m : Int) := by omega
                                  have s3 := hN.frozen (l * 3)
                                  have s4 := hN.frozen (l * 3 + 1)
                                  have s5 := hN.frozen (l * 3 + 2)
                                  clear hl hNr
                                  have HPV := Lib.hid hpv
                                  have HHD := Lib.hid hH
                                  have HPO := Lib.hid hP
                                  clear hpv hH hP
                                  have b3c0 := b3.c0
                                  have b3c1 := b3.c1
                                  have b3c2 := b3.c2
                                  have b3f0 := b3.f0
                                  have b3f1 := b3.f1
                                  have b3f2 := b3.f2
                                  have b3l := b3.lt
                                  have e1a := e1.a
                                  have e1b := e1.b
                                  have e1c := e1.c
                                  have e4a := e4.a
                                  have e4b := e4.b
                                  have e4c := e4.c
                                  have hcic := hci.c
                                  go_wp2_with fail
                                  clear b3c0 b3c1 b3c2 b3f0 b3f1 b3f2 b3l e1a e1b e1c e4a e4b e4c hcic
                                  have c8 : Chg [] wr wr.drew := (Chg.refl _ _).drew
                                  have hH := HHD.out.keep c8 (by simp)
                                  have hP := HPO.out.keep0 c8
                                  have hpv := HPV.out.keep0 c8
                                  replace b3 := b3.keep c8 (by simp)
                                  replace hN := hN.keep c8 (by simp)
                                  replace e1 := e1.keep0 c8
                                  replace e4 := e4.keep0 c8
                                  replace hci := hci.keep0 c8
                                  replace hch := hch.then c8
                                  clear c8
                                  have s3 := hN.frozen (l * 3)
                                  have s4 := hN.frozen (l * 3 + 1)
                                  have s5 := hN.frozen (l * 3 + 2)
                                  have e1a := e1.a
                                  have e1b := e1.b
                                  have e1c := e1.c
                                  have hgi : g ≠ h2 i := Ne.symm (HOG3.out i hin)
                                  have hbi : g3 ≠ h2 i := by have := HBL3.out i hin; omega
                                  have hri : h p ≠ h2 i := fun e => HIR.out (HIJ3.out _ _ hin hrn (by rw [HHR.out.1]; exact e.symm))
                                  refine wp_region_held_drew (S := (fun w' => w'.cell? ⟨g, i, none⟩ = some (.slice (some ⟨h2 i, 0, none⟩) m (c2 i)) ∧ w'.cell? ⟨h p, l * 3, none⟩ = some (.bool z4.neg) ∧ w'.cell? ⟨h p, l * 3 + 1, none⟩ = some (.string z4.num) ∧ w'.cell? ⟨h p, l * 3 + 2, none⟩ = some (.string z4.den) ∧ w'.cell? ⟨g3, 0, none⟩ = some (.bool x3.neg) ∧ w'.cell? ⟨g3, 1, none⟩ = some (.string x3.num) ∧ w'.cell? ⟨g3, 2, none⟩ = some (.string x3.den))) (by kernel_rfl) ?_ (fun hHeld => ?_)
                                  · exact ⟨hci.c, e4.a, e4.b, e4.c, b3.c0, b3.c1, b3.c2⟩
                                  refine wpAnyH_take (i := 0) (v := ?_) rfl (by kernel_rfl) (by kernel_rfl) (by kernel_rfl) (fun _ _ _ h => h) (Or.inl ⟨by rfl, ?_⟩) (by assumption) ?_
                                  rotate_left 1
                                  · intro w hSw
                                    try dsimp only at hSw
                                    go_simp
                                    try with_reducible rfl
                                  try simp only [Act.put, List.setIfInBounds_toArray, List.set_cons_zero, List.set_cons_succ]
                                  refine wpAnyH_take (i := 1) (v := ?_) rfl (by kernel_rfl) (by kernel_rfl) (by kernel_rfl) (fun _ _ _ h => h) (Or.inl ⟨by rfl, ?_⟩) (by assumption) ?_
                                  rotate_left 1
                                  · intro w hSw
                                    try dsimp only at hSw
                                    go_simp
                                    try with_reducible rfl
                                  try simp only [Act.put, List.setIfInBounds_toArray, List.set_cons_zero, List.set_cons_succ]
                                  refine wpAnyH_take (i := 2) (v := ?_) rfl (by kernel_rfl) (by kernel_rfl) (by kernel_rfl) (fun _ _ _ h => h) (Or.inl ⟨by rfl, ?_⟩) (by assumption) ?_
                                  rotate_left 1
                                  · intro w hSw
                                    try dsimp only at hSw
                                    go_simp
                                    try with_reducible rfl
                                  try simp only [Act.put, List.setIfInBounds_toArray, List.set_cons_zero, List.set_cons_succ]
                                  refine wpAnyH_take (i := 3) (v := ?_) rfl (by kernel_rfl) (by kernel_rfl) (by kernel_rfl) (fun _ _ _ h => h) (Or.inl ⟨by rfl, ?_⟩) (by assumption) ?_
                                  rotate_left 1
                                  · intro w hSw
                                    try dsimp only at hSw
                                    go_simp
                                    try with_reducible rfl
                                  try simp only [Act.put, List.setIfInBounds_toArray, List.set_cons_zero, List.set_cons_succ]
                                  refine wpAnyH_take (i := 4) (v := ?_) rfl (by kernel_rfl) (by kernel_rfl) (by kernel_rfl) (fun _ _ _ h => h) (Or.inl ⟨by rfl, ?_⟩) (by assumption) ?_
                                  rotate_left 1
                                  · intro w hSw
                                    try dsimp only at hSw
                                    go_simp
                                    try with_reducible rfl
                                  try simp only [Act.put, List.setIfInBounds_toArray, List.set_cons_zero, List.set_cons_succ]
                                  refine wpAnyH_take (i := 5) (v := ?_) rfl (by kernel_rfl) (by kernel_rfl) (by kernel_rfl) (fun _ _ _ h => h) (Or.inl ⟨by rfl, ?_⟩) (by assumption) ?_
                                  rotate_left 1
                                  · intro w hSw
                                    try dsimp only at hSw
                                    go_simp
                                    try with_reducible rfl
                                  try simp only [Act.put, List.setIfInBounds_toArray, List.set_cons_zero, List.set_cons_succ]
                                  refine wpAnyH_take (i := 6) (v := ?_) rfl (by kernel_rfl) (by kernel_rfl) (by kernel_rfl) (fun _ _ _ h => h) (Or.inl ⟨by rfl, ?_⟩) (by assumption) ?_
                                  rotate_left 1
                                  · intro w hSw
                                    try dsimp only at hSw
                                    go_simp
                                    try with_reducible rfl
                                  try simp only [Act.put, List.setIfInBounds_toArray, List.set_cons_zero, List.set_cons_succ]
                                  refine wpAnyH_take (i := 7) (v := ?_) rfl (by kernel_rfl) (by kernel_rfl) (by kernel_rfl) (fun _ _ _ h => h) (Or.inl ⟨by rfl, ?_⟩) (by assumption) ?_
                                  rotate_left 1
                                  · intro w hSw
                                    try dsimp only at hSw
                                    go_simp
                                    try with_reducible rfl
                                  try simp only [Act.put, List.setIfInBounds_toArray, List.set_cons_zero, List.set_cons_succ]
                                  refine wpAnyH_take (i := 8) (v := ?_) rfl (by kernel_rfl) (by kernel_rfl) (by kernel_rfl) (fun _ _ _ h => h) (Or.inl ⟨by rfl, ?_⟩) (by assumption) ?_
                                  rotate_left 1
                                  · intro w hSw
                                    try dsimp only at hSw
                                    go_simp
                                    try with_reducible rfl
                                  try simp only [Act.put, List.setIfInBounds_toArray, List.set_cons_zero, List.set_cons_succ]
                                  refine wpAnyH_take (i := 9) (v := ?_) rfl (by kernel_rfl) (by kernel_rfl) (by kernel_rfl) (fun _ _ _ h => h) (Or.inl ⟨by rfl, ?_⟩) (by assumption) ?_
                                  rotate_left 1
                                  · intro w hSw
                                    try dsimp only at hSw
                                    go_simp
                                    try with_reducible rfl
                                  try simp only [Act.put, List.setIfInBounds_toArray, List.set_cons_zero, List.set_cons_succ]
                                  refine wpAnyH_take (i := 10) (v := ?_) rfl (by kernel_rfl) (by kernel_rfl) (by kernel_rfl) (fun _ _ _ h => h) (Or.inl ⟨by rfl, ?_⟩) (by assumption) ?_
                                  rotate_left 1
                                  · intro w hSw
                                    try dsimp only at hSw
                                    go_simp
                                    try with_reducible rfl
                                  try simp only [Act.put, List.setIfInBounds_toArray, List.set_cons_zero, List.set_cons_succ]
                                  refine wpAnyH_take (i := 12) (v := ?_) rfl (by kernel_rfl) (by kernel_rfl) (by kernel_rfl) (fun _ _ _ h => h) (Or.inl ⟨by rfl, ?_⟩) (by assumption) ?_
                                  rotate_left 1
                                  · intro w hSw
                                    try dsimp only at hSw
                                    go_simp
                                    try with_reducible rfl
                                  try simp only [Act.put, List.setIfInBounds_toArray, List.set_cons_zero, List.set_cons_succ]
                                  refine wpAnyH_take (i := 13) (v := ?_) rfl (by kernel_rfl) (by kernel_rfl) (by kernel_rfl) (fun _ _ _ h => h) (Or.inl ⟨by rfl, ?_⟩) (by assumption) ?_
                                  rotate_left 1
                                  · intro w hSw
                                    try dsimp only at hSw
                                    go_simp
                                    try with_reducible rfl
                                  try simp only [Act.put, List.setIfInBounds_toArray, List.set_cons_zero, List.set_cons_succ]
                                  refine wpAnyH_take (i := 14) (v := ?_) rfl (by kernel_rfl) (by kernel_rfl) (by kernel_rfl) (fun _ _ _ h => h) (Or.inl ⟨by rfl, ?_⟩) (by assumption) ?_
                                  rotate_left 1
                                  · intro w hSw
                                    try dsimp only at hSw
                                    go_simp
                                    try with_reducible rfl
                                  try simp only [Act.put, List.setIfInBounds_toArray, List.set_cons_zero, List.set_cons_succ]
                                  refine wpAnyH_take (i := 15) (v := ?_) rfl (by kernel_rfl) (by kernel_rfl) (by kernel_rfl) (fun _ _ _ h => h) (Or.inl ⟨by rfl, ?_⟩) (by assumption) ?_
                                  rotate_left 1
                                  · intro w hSw
                                    try dsimp only at hSw
                                    go_simp
                                    try with_reducible rfl
                                  try simp only [Act.put, List.setIfInBounds_toArray, List.set_cons_zero, List.set_cons_succ]
                                  refine wpAnyH_take (i := 16) (v := ?_) rfl (by kernel_rfl) (by kernel_rfl) (by kernel_rfl) (fun _ _ _ h => h) (Or.inl ⟨by rfl, ?_⟩) (by assumption) ?_
                                  rotate_left 1
                                  · intro w hSw
                                    try dsimp only at hSw
                                    go_simp
                                    try with_reducible rfl
                                  try simp only [Act.put, List.setIfInBounds_toArray, List.set_cons_zero, List.set_cons_succ]
                                  refine wpAnyH_ready (rs := [11, 17]) (by kernel_rfl) (by simp) ?_
                                  refine AllReadyH.cons (o := _) rfl (fun K' hK => ?_) ?_
                                  · go_simp
                                    refine hK.out _ _ ?_ (fun hHeld => ?_)
                                    · exact ⟨hci.c, e4.a, e4.b, e4.c, b3.c0, b3.c1, b3.c2⟩
                                    clear hK K'
                                    try simp only [Act.put, List.setIfInBounds_toArray, List.set_cons_zero, List.set_cons_succ]
                                    refine wpAnyH_ready (rs := [17]) (by kernel_rfl) (by simp) ?_
                                    refine AllReadyH.cons (o := _) rfl (fun K' hK => ?_) AllReadyH.nil
                                    go_simp
                                    refine (rTimes_any x3 z4 q3 v K (K + K) _ VX3.out v4 (by have := HB.out; omega)).mono ?_
                                    rintro e w1 ⟨t1, rfl, ht1, c1⟩
                                    clear e1a e1b e1c
                                    replace hH := hH.keep c1 (by simp)
                                    replace b3 := b3.keep c1 (by simp)
                                    replace hN := hN.keep c1 (by simp)
                                    replace e1 := e1.keep0 c1
                                    replace e4 := e4.keep0 c1
                                    replace hci := hci.keep0 c1
                                    replace hP := hP.keep0 c1
                                    replace hpv := hpv.keep0 c1
                                    replace hch := hch.then c1
                                    clear c1
                                    have s3 := hN.frozen (l * 3)
                                    have s4 := hN.frozen (l * 3 + 1)
                                    have s5 := hN.frozen (l * 3 + 2)
                                    have e1a := e1.a
                                    have e1b := e1.b
                                    have e1c := e1.c
                                    go_wp2_with fail
                                    refine hK.out _ _ ?_ (fun hHeld => ?_)
                                    · exact ⟨hci.c, e4.a, e4.b, e4.c, b3.c0, b3.c1, b3.c2⟩
                                    clear hK K'
                                    try simp only [Act.put, List.setIfInBounds_toArray, List.set_cons_zero, List.set_cons_succ]
                                    refine wpAnyH_ready (rs := [18]) (by kernel_rfl) (by simp) ?_
                                    refine AllReadyH.cons (o := _) rfl (fun K' hK => ?_) AllReadyH.nil
                                    go_simp
                                    refine (rMinus_any z0 t1 u (q3 * v) K (K + (K + K)) _ v1 ht1 (by have := HB.out; omega)).mono ?_
                                    rintro e w2 ⟨z2, rfl, hz2, c1⟩
                                    clear e1a e1b e1c
                                    replace hH := hH.keep c1 (by simp)
                                    replace b3 := b3.keep c1 (by simp)
                                    replace hN := hN.keep c1 (by simp)
                                    replace e1 := e1.keep0 c1
                                    replace e4 := e4.keep0 c1
                                    replace hci := hci.keep0 c1
                                    replace hP := hP.keep0 c1
                                    replace hpv := hpv.keep0 c1
                                    replace hch := hch.then c1
                                    clear c1
                                    have s3 := hN.frozen (l * 3)
                                    have s4 := hN.frozen (l * 3 + 1)
                                    have s5 := hN.frozen (l * 3 + 2)
                                    have e1a := e1.a
                                    have e1b := e1.b
                                    have e1c := e1.c
                                    go_wp2_with fail
                                    refine hK.out _ _ ?_ (fun hHeld => ?_)
                                    · exact ⟨hci.c, e4.a, e4.b, e4.c, b3.c0, b3.c1, b3.c2⟩
                                    clear hK K'
                                    try simp only [Act.put, List.setIfInBounds_toArray, List.set_cons_zero, List.set_cons_succ]
                                    refine wpAnyH_take (i := 19) (v := ?_) rfl (by kernel_rfl) (by kernel_rfl) (by kernel_rfl) (fun _ _ _ h => h) (Or.inl ⟨by rfl, ?_⟩) (by assumption) ?_
                                    rotate_left 1
                                    · intro w hSw
                                      try dsimp only at hSw
                                      go_simp
                                      try with_reducible rfl
                                    try simp only [Act.put, List.setIfInBounds_toArray, List.set_cons_zero, List.set_cons_succ]
                                    refine wpAnyH_ready (rs := [20]) (by kernel_rfl) (by simp) ?_
                                    refine AllReadyH.cons (o := _) rfl (fun K' hK => ?_) AllReadyH.nil
                                    go_simp
                                    refine hK.out _ _ ?_ (fun hHeld => ?_)
                                    · exact ⟨(hci.st hgi _ _ _).c, (e4.st hri _ _ _).a, (e4.st hri _ _ _).b, (e4.st hri _ _ _).c, (b3.sto hbi _ _ _).c0, (b3.sto hbi _ _ _).c1, (b3.sto hbi _ _ _).c2⟩
                                    clear hK K'
                                    try simp only [Act.put, List.setIfInBounds_toArray, List.set_cons_zero, List.set_cons_succ]
                                    refine wpAnyH_done (by kernel_rfl) ?_ _
                                    have HNX := Lib.hid (nums_set (P := fun t z => Val z (G i t - q3 * G r t) (4 * K + 1)) (z := z2) (by omega : l < zs.length) HVAL.out (by rw [HU.out, HVV.out]; exact hz2.mono (by omega)))
                                    go_wp2_with fail
                                    go_roundw
                                    case rel => exact ⟨l + 1, zs.set l z2, by omega, by go_num, by rw [List.length_set]; exact hlz, HNX.out, fun t ht => by rw [getD_setM zs q0 z2 (by omega), if_neg (by omega)]; exact HREST.out t (by omega), hN.store (by omega) z2, b3.sto (by have := HBL3.out i hin; omega) _ _ _, hH.keep ((Chg.refl [h2 i] _).store3o (.inl (by simp)) _ _ _) (by simpa using Ne.symm (HOG3.out i hin)), hP.keep ((Chg.refl [h2 i] _).store3o (.inl (by simp)) _ _ _) (fun t ht hx => by simp; exact fun e => hx (HIJ3.out _ _ ht hin e)), hpv.keep ((Chg.refl [h2 i] _).store3o (.inl (by simp)) _ _ _) (fun x hx => by simp; exact fun e => (HPB2.out x hx).2.2 i hin e.symm), hch.store3o (.inr (HGE2.out i hin)) _ _ _⟩
                                    case measure => simp [intOf]; omega
                                  · refine AllReadyH.cons (o := _) rfl (fun K' hK => ?_) AllReadyH.nil
                                    go_simp
                                    refine (rTimes_any x3 z4 q3 v K (K + K) _ VX3.out v4 (by have := HB.out; omega)).mono ?_
                                    rintro e w1 ⟨t1, rfl, ht1, c1⟩
                                    clear e1a e1b e1c
                                    replace hH := hH.keep c1 (by simp)
                                    replace b3 := b3.keep c1 (by simp)
                                    replace hN := hN.keep c1 (by simp)
                                    replace e1 := e1.keep0 c1
                                    replace e4 := e4.keep0 c1
                                    replace hci := hci.keep0 c1
                                    replace hP := hP.keep0 c1
                                    replace hpv := hpv.keep0 c1
                                    replace hch := hch.then c1
                                    clear c1
                                    have s3 := hN.frozen (l * 3)
                                    have s4 := hN.frozen (l * 3 + 1)
                                    have s5 := hN.frozen (l * 3 + 2)
                                    have e1a := e1.a
                                    have e1b := e1.b
                                    have e1c := e1.c
                                    go_wp2_with fail
                                    refine hK.out _ _ ?_ (fun hHeld => ?_)
                                    · exact ⟨hci.c, e4.a, e4.b, e4.c, b3.c0, b3.c1, b3.c2⟩
                                    clear hK K'
                                    try simp only [Act.put, List.setIfInBounds_toArray, List.set_cons_zero, List.set_cons_succ]
                                    refine wpAnyH_ready (rs := [11]) (by kernel_rfl) (by simp) ?_
                                    refine AllReadyH.cons (o := _) rfl (fun K' hK => ?_) AllReadyH.nil
                                    go_simp
                                    refine hK.out _ _ ?_ (fun hHeld => ?_)
                                    · exact ⟨hci.c, e4.a, e4.b, e4.c, b3.c0, b3.c1, b3.c2⟩
                                    clear hK K'
                                    try simp only [Act.put, List.setIfInBounds_toArray, List.set_cons_zero, List.set_cons_succ]
                                    refine wpAnyH_ready (rs := [18]) (by kernel_rfl) (by simp) ?_
                                    refine AllReadyH.cons (o := _) rfl (fun K' hK => ?_) AllReadyH.nil
                                    go_simp
                                    refine (rMinus_any z0 t1 u (q3 * v) K (K + (K + K)) _ v1 ht1 (by have := HB.out; omega)).mono ?_
                                    rintro e w2 ⟨z2, rfl, hz2, c1⟩
                                    clear e1a e1b e1c
                                    replace hH := hH.keep c1 (by simp)
                                    replace b3 := b3.keep c1 (by simp)
                                    replace hN := hN.keep c1 (by simp)
                                    replace e1 := e1.keep0 c1
                                    replace e4 := e4.keep0 c1
                                    replace hci := hci.keep0 c1
                                    replace hP := hP.keep0 c1
                                    replace hpv := hpv.keep0 c1
                                    replace hch := hch.then c1
                                    clear c1
                                    have s3 := hN.frozen (l * 3)
                                    have s4 := hN.frozen (l * 3 + 1)
                                    have s5 := hN.frozen (l * 3 + 2)
                                    have e1a := e1.a
                                    have e1b := e1.b
                                    have e1c := e1.c
                                    go_wp2_with fail
                                    refine hK.out _ _ ?_ (fun hHeld => ?_)
                                    · exact ⟨hci.c, e4.a, e4.b, e4.c, b3.c0, b3.c1, b3.c2⟩
                                    clear hK K'
                                    try simp only [Act.put, List.setIfInBounds_toArray, List.set_cons_zero, List.set_cons_succ]
                                    refine wpAnyH_take (i := 19) (v := ?_) rfl (by kernel_rfl) (by kernel_rfl) (by kernel_rfl) (fun _ _ _ h => h) (Or.inl ⟨by rfl, ?_⟩) (by assumption) ?_
                                    rotate_left 1
                                    · intro w hSw
                                      try dsimp only at hSw
                                      go_simp
                                      try with_reducible rfl
                                    try simp only [Act.put, List.setIfInBounds_toArray, List.set_cons_zero, List.set_cons_succ]
                                    refine wpAnyH_ready (rs := [20]) (by kernel_rfl) (by simp) ?_
                                    refine AllReadyH.cons (o := _) rfl (fun K' hK => ?_) AllReadyH.nil
                                    go_simp
                                    refine hK.out _ _ ?_ (fun hHeld => ?_)
                                    · exact ⟨(hci.st hgi _ _ _).c, (e4.st hri _ _ _).a, (e4.st hri _ _ _).b, (e4.st hri _ _ _).c, (b3.sto hbi _ _ _).c0, (b3.sto hbi _ _ _).c1, (b3.sto hbi _ _ _).c2⟩
                                    clear hK K'
                                    try simp only [Act.put, List.setIfInBounds_toArray, List.set_cons_zero, List.set_cons_succ]
                                    refine wpAnyH_done (by kernel_rfl) ?_ _
                                    have HNX := Lib.hid (nums_set (P := fun t z => Val z (G i t - q3 * G r t) (4 * K + 1)) (z := z2) (by omega : l < zs.length) HVAL.out (by rw [HU.out, HVV.out]; exact hz2.mono (by omega)))
                                    go_wp2_with fail
                                    go_roundw
                                    case rel => exact ⟨l + 1, zs.set l z2, by omega, by go_num, by rw [List.length_set]; exact hlz, HNX.out, fun t ht => by rw [getD_setM zs q0 z2 (by omega), if_neg (by omega)]; exact HREST.out t (by omega), hN.store (by omega) z2, b3.sto (by have := HBL3.out i hin; omega) _ _ _, hH.keep ((Chg.refl [h2 i] _).store3o (.inl (by simp)) _ _ _) (by simpa using Ne.symm (HOG3.out i hin)), hP.keep ((Chg.refl [h2 i] _).store3o (.inl (by simp)) _ _ _) (fun t ht hx => by simp; exact fun e => hx (HIJ3.out _ _ ht hin e)), hpv.keep ((Chg.refl [h2 i] _).store3o (.inl (by simp)) _ _ _) (fun x hx => by simp; exact fun e => (HPB2.out x hx).2.2 i hin e.symm), hch.store3o (.inr (HGE2.out i hin)) _ _ _⟩
                                    case measure => simp [intOf]; omega
                                · obtain rfl : m = l := by omega
                                  have hzc : Row1 zs (clr G r cc i) m (4 * K + 1) := ⟨hlz, fun t ht => by
                                    have := HVAL.out t ht
                                    unfold clr
                                    rw [if_neg HIR.out, HQ3.out]; exact this⟩
                                  have HRW3 : Hid (∀ t, t < n → Row1 ((M3.set i zs).getD t []) (if t < i + 1 then clr G r cc t else G t) m (if t = r then K + K else if t < i + 1 then 4 * K + 1 else K)) := Lib.hid fun t ht => by
                                    rw [getD_setM M3 [] zs (by omega)]
                                    by_cases e3 : t = i
                                    · rw [if_pos e3, if_pos (by omega), if_neg (by rw [e3]; exact HIR.out), if_pos (by omega), e3]; exact hzc
                                    · rw [if_neg e3]
                                      have h0 := HROWS.out t ht
                                      by_cases e2 : t < i
                                      · rw [if_pos (show t < i + 1 by omega), if_pos (show t < i + 1 by omega)]
                                        rwa [if_pos e2, if_pos e2] at h0
                                      · rw [if_neg (show ¬ t < i + 1 by omega), if_neg (show ¬ t < i + 1 by omega)]
                                        rwa [if_neg e2, if_neg e2] at h0
                                  have hD3 : Hid (MutD wr g cp (M3.set i zs) h2 c2 n m) := Lib.hid ⟨hH, ⟨fun t ht _ => by
                                    rw [getD_setM M3 [] zs (by omega)]
                                    by_cases e3 : t = i
                                    · rw [if_pos e3, e3]; exact hN
                                    · rw [if_neg e3]; exact hP.row t ht e3⟩, HIJ3.out, HOG3.out⟩
                                  clear hH hP hN b3 hzc
                                  go_wp2_with fail
                                  go_roundw
                                  case rel => exact ⟨i + 1, M3.set i zs, by omega, by go_num, by rw [List.length_set]; exact hlM3, hD3.out, HRW3.out, hpv, hch⟩
                                  case measure => simp [intOf]; omega
                        · obtain rfl : n = i := by omega
                          have HVF : Hid (Vals M3 (stp f r cc p) n m (KR k (cc + 1))) := Lib.hid (by
                            rw [HST.out, HKS.out]
                            have hrow : ∀ t, t < n → Row1 (M3.getD t []) (clr G r cc t) m (4 * K + 1) := fun t ht => by
                              have h0 := HROWS.out t ht
                              rw [if_pos ht, if_pos ht] at h0
                              refine h0.mono ?_
                              split <;> omega
                            exact ⟨hlM3, fun t ht => (hrow t ht).len, fun t ht => (hrow t ht).val⟩)
                          have hes := Lib.hid (ech_some (f := F) (n := n) (c := cc) (p := p) (by rw [Hf.out, Hpv.out, Hr.out]; exact pivR_is hrp hpn HQ0.out HZ.out) hpn)
                          rw [Hf.out, Hpv.out, Hr.out] at hes
                          have c10 : Chg [] wr (wr.alloc (.cells #[.int .i64 cc] 3)) := (Chg.refl _ _).alloc _
                          have hown := HPV.out.keep0 c10
                          unfold OwnI at hown
                          rw [Hr.out] at hown
                          have hD4 := hD.keep0 c10
                          have hch4 := hch.then c10
                          have hblt4 : ∀ t, t < n → h2 t < wr.heap.size := fun t ht => (hD.nums ht).lt
                          have hglt4 := hD.hdr.lt
                          have hsz4 := hch.size
                          have hcl : (wr.alloc (.cells #[.int .i64 cc] 3)).cell? ⟨wr.heap.size, 0, none⟩ = some (.int .i64 cc) := by simp
                          clear hD hch c10
                          go_wp2_with (at_builtin; refine wpList_append1 _ 41 3 iI _ 8 Try.underlying41 hiI hzI0 hzI1 hzI2 rfl (by omega) rfl (.tmp 147) (.tmp 149) rfl _ r (vals .i64 pv) rfl hown ⟨wr.heap.size, 0, none⟩ 1 (.int .i64 cc) rfl hcl rfl (by omega) ?_)
                          intro v2 w5 own2 cv2 hv2
                          have hO5 : Hid (OwnI w5 v2 (pv ++ [cc])) := Lib.hid (by
                            unfold OwnI
                            rw [List.length_append, List.length_singleton, Hr.out, ← vals_append]
                            exact own2)
                          have hD5 : Hid (MutD w5 g cp M3 h2 c2 n m) := Lib.hid ⟨hD4.hdr.keep cv2 (fun hm => (HPB2.out g hm).2.1 rfl), hD4.pool.keep cv2 (fun t ht _ hm => (HPB2.out _ hm).2.2 t ht rfl), hD4.inj, hD4.off⟩
                          have HPB5 : Hid (∀ x, x ∈ v2.ownBlock.toList → w.heap.size ≤ x ∧ x ≠ g ∧ ∀ t, t < n → h2 t ≠ x) := Lib.hid fun x hx => by
                            rcases hv2 with h5 | h5
                            · rw [h5] at hx; exact HPB2.out x hx
                            · rw [h5] at hx; simp at hx
                              exact ⟨by omega, by omega, fun t ht => by have := hblt4 t ht; omega⟩
                          have hch5 := Lib.hid (hch4.trans cv2 (fun x hx => .inr (HPB2.out x hx).1))
                          clear hD4 hch4 cv2 hv2 own2 hown hcl hblt4
                          go_wp2_with fail
                          go_roundw
                          case rel => exact ⟨cc + 1, M3, h2, c2, by omega, by go_num, by rw [hes.out]; simp [Hr.out], by rw [hes.out]; exact hO5.out, hD5.out, by rw [hes.out]; exact HVF.out, HGE2.out, HPB5.out, hch5.out⟩
                          case measure => simp [intOf]; omega
              · obtain rfl : n = p := by omega
                have hpe : ((n : Int) == (n : Int)) = true := by simp
                have hes := Lib.hid (ech_none (f := F) (n := n) (c := cc) (by rw [Hf.out, Hpv.out, Hr.out, pivR_none hle HZ.out]; exact Nat.lt_irrefl n))
                go_wp2_with fail
                go_roundw
                case rel => exact ⟨cc + 1, M1, h, c, by omega, by go_num, by rw [hes.out, Hpv.out, Hr.out], by rw [hes.out, Hpv.out]; exact HPV.out, hD, by rw [hes.out, Hf.out, HKS.out]; exact HV1.out.mono (by omega), HGE.out, HPB.out, hch⟩
                case measure => simp [intOf]; omega
          · obtain rfl : m = cc := by omega
            have hc0c := hc0.c
            go_wp2_with fail
            go_ret2
            exact ⟨u5, g, cp, M1, h, c, rfl, hD, by rw [Hpv.out]; exact HPV.out, by rw [Hf.out, HK.out]; exact HV1.out, hch⟩
        · have e1 : decide ((r : Int) < (n : Int)) = false := by simp; omega
          have HEC : Hid (ech F n m = ech F n cc) := Lib.hid (by have := HFULL.out (by omega); rwa [show cc + (m - cc) = m by omega] at this)
          go_wp2_with fail
          go_ret2
          exact ⟨u5, g, cp, M1, h, c, rfl, hD, by rw [HEC.out, Hpv.out]; exact HPV.out, by rw [HEC.out, Hf.out]; exact HV1.out.mono hKm, hch⟩

end Go.Proofs.Ytgdidakkfdcajaa
