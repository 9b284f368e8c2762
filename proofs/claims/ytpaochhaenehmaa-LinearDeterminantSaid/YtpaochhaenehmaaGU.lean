/-
  Several parts put together: LX2, LX3.
-/
import Derived.Test.YtpaochhaenehmaaRL2
import Derived.Test.YtpaochhaenehmaaGT
import Derived.Test.YtpaochhaenehmaaGP
import Derived.Test.YtpaochhaenehmaaV10
/- Part LX2. -/

namespace Go.Proofs.Ytpaochhaenehmaa
open Go.RowKit Nd
/-- The matrix M holds the valid forms of f's values; n rows, m columns; parts less than 256 ^ k. -/
structure Vals (M : List (List Q3)) (f : Nat → Nat → Rat) (n m k : Nat) : Prop where
  len : M.length = n
  row : ∀ i, i < n → (M.getD i []).length = m
  val : ∀ i, i < n → ∀ j, j < m → Val ((M.getD i []).getD j q0) (f i j) k
/-- A row holds the valid forms of p's values. -/
structure Row1 (xs : List Q3) (p : Nat → Rat) (m k : Nat) : Prop where
  len : xs.length = m
  val : ∀ j, j < m → Val (xs.getD j q0) (p j) k
theorem Vals.at_ {M : List (List Q3)} {f : Nat → Nat → Rat} {n m k i : Nat} (h : Vals M f n m k) (hi : i < n) : Row1 (M.getD i []) (f i) m k := ⟨h.row i hi, h.val i hi⟩
theorem Row1.mono {xs : List Q3} {p : Nat → Rat} {m k l : Nat} (h : Row1 xs p m k) (hl : k ≤ l) : Row1 xs p m l := ⟨h.len, fun j hj => (h.val j hj).mono hl⟩
/-- A number at an address. -/
structure El (w : World) (g o : Nat) (x : Q3) : Prop where
  lt : g < w.heap.size
  a : w.cell? ⟨g, o, none⟩ = some (.bool x.neg)
  b : w.cell? ⟨g, o + 1, none⟩ = some (.string x.num)
  c : w.cell? ⟨g, o + 2, none⟩ = some (.string x.den)
theorem El.keep {gs : List Nat} {w w' : World} {g o : Nat} {x : Q3} (h : El w g o x) (hc : Chg gs w w') (hg : g ∉ gs) : El w' g o x :=
  ⟨Nat.lt_of_lt_of_le h.lt hc.size, (hc.cell (p := ⟨g, _, none⟩) h.lt hg).trans h.a, (hc.cell (p := ⟨g, _, none⟩) h.lt hg).trans h.b, (hc.cell (p := ⟨g, _, none⟩) h.lt hg).trans h.c⟩
theorem El.keep0 {w w' : World} {g o : Nat} {x : Q3} (h : El w g o x) (hc : Chg [] w w') : El w' g o x := h.keep hc (by simp)
theorem Chg.store3o {gs : List Nat} {a w : World} (h : Chg gs a w) {g i j k : Nat} (hg : g ∈ gs ∨ a.heap.size ≤ g) (x y z : Value) : Chg gs a (((w.setCell ⟨g, i, none⟩ x).setCell ⟨g, j, none⟩ y).setCell ⟨g, k, none⟩ z) :=
  ((h.setCell (p := ⟨g, i, none⟩) hg x).setCell (p := ⟨g, j, none⟩) hg y).setCell (p := ⟨g, k, none⟩) hg z
theorem El.st {w : World} {g o h i j k : Nat} {x : Q3} (e : El w g o x) (hg : g ≠ h) (a b c : Value) : El (((w.setCell ⟨h, i, none⟩ a).setCell ⟨h, j, none⟩ b).setCell ⟨h, k, none⟩ c) g o x :=
  e.keep ((Chg.refl [h] w).store3o (.inl (by simp)) a b c) (by simpa using hg)
theorem Rds.el {w : World} {g o : Nat} {xs : List Q3} (h : Rds w (some ⟨g, o, none⟩) xs) {j : Nat} (hj : j < xs.length) : El w g (o + j * 3) (xs.getD j q0) := by
  obtain ⟨a, b, c, d⟩ := h.at_ hj
  exact ⟨a, b, c, d⟩
theorem Rds.sto {w : World} {g o h i j k : Nat} {xs : List Q3} (e : Rds w (some ⟨g, o, none⟩) xs) (hg : g ≠ h) (a b c : Value) : Rds (((w.setCell ⟨h, i, none⟩ a).setCell ⟨h, j, none⟩ b).setCell ⟨h, k, none⟩ c) (some ⟨g, o, none⟩) xs :=
  e.keep ((Chg.refl [h] w).store3o (.inl (by simp)) a b c) (by intro x hx; cases hx; simpa using hg)
theorem nums_set {zs : List Q3} {P : Nat → Q3 → Prop} {j : Nat} {z : Q3} (hj : j < zs.length) (h : ∀ t, t < j → P t (zs.getD t q0)) (hz : P j z) : ∀ t, t < j + 1 → P t ((zs.set j z).getD t q0) := by
  intro t ht
  rw [getD_setM zs q0 z hj]
  by_cases h1 : t = j
  · subst h1; rw [if_pos rfl]; exact hz
  · rw [if_neg h1]; exact h t (by omega)
theorem sg_one2 {q : Rat} (h : q ≠ 0) : sg q = 1 ∨ sg q = -1 := by
  unfold sg
  by_cases h1 : q < 0
  · exact .inr (if_pos h1)
  · rw [if_neg h1, if_neg h]; exact .inl rfl
theorem sg_nil2 : sg 0 = 0 := by simp [sg]
/-- What pivotRow returns. -/
def pivI (f : Nat → Nat → Rat) (n r c : Nat) : Int := if pivR f n r c < n then (pivR f n r c : Int) else -1

theorem all_from {P : Nat → Prop} {r k : Nat} (h : ∀ i, r ≤ i → i < k → P i) (hk : P k) : ∀ i, r ≤ i → i < k + 1 → P i := by
  intro i h0 hi
  rcases Nat.lt_or_ge i k with h1 | h1
  · exact h i h0 h1
  · obtain rfl : i = k := by omega
    exact hk

set_option maxRecDepth 20000 in
set_option maxHeartbeats 2000000 in
theorem pivotRow_any (M : List (List Q3)) (f : Nat → Nat → Rat) (n m k r c : Nat) (A : Option Addr) (cap : Nat) (w : World) (hv : Vals M f n m k) (hr : r ≤ n) (hc : c < m) (hn : n ≤ 1000000) (hm : m ≤ 1000000) (hk : k ≤ 34359738367) (hx : Mtx w A M) :
    Calls Try.prog 50 #[.slice A n cap, .int .i64 r, .int .i64 c] w fun e w' => e = .returned (.int .i64 (pivI f n r c)) ∧ Chg [] w w' := by
  have hch : Chg [] w w := Chg.refl _ _
  obtain ⟨q, HQ⟩ := name_it (pivI f n r c)
  rw [HQ.out]
  have HN := Lib.hid hv.len
  have HV := Lib.hid hv
  clear hv
  go_enter Try.func50, Try.ntmps50
  go_wp2_with fail
  go_loopw [7] (fun iv wr => ∃ i : Nat, r ≤ i ∧ i ≤ n ∧ iv = .int .i64 i ∧ (∀ t, r ≤ t → t < i → f t c = 0) ∧ Mtx wr A M ∧ Chg [] w wr) (fun iv _ => n - (intOf iv).toNat)
  case atStart => exact ⟨r, Nat.le_refl _, hr, rfl, fun t h1 h2 => absurd h1 (by omega), hx, hch⟩
  case round =>
    clear hx hch
    obtain ⟨i, hri, hi, rfl, hz, hx, hch⟩ := hrel
    have HZ := Lib.hid hz
    clear hz
    by_cases hlt : i < n
    · obtain ⟨g, o, rfl, hgl⟩ := hx.form (by rw [HN.out]; omega)
      obtain ⟨B, cc, c0, _, _, hB⟩ := hx.at_ (i := i) (by rw [HN.out]; exact hlt)
      have h1 := HV.out.at_ hlt
      obtain ⟨xs, HX⟩ := name_it (M.getD i [])
      rw [HX.out] at c0 hB h1
      have hl := h1.len
      rw [hl] at c0
      obtain ⟨g2, o2, rfl, _⟩ := hB.form (by omega)
      have el := hB.el (j := c) (by omega)
      have vx := h1.val c hc
      obtain ⟨x, HX2⟩ := name_it (xs.getD c q0)
      rw [HX2.out] at el vx
      have e0 := el.a
      have e1 := el.b
      have e2 := el.c
      obtain ⟨y, HY⟩ := name_it (f i c)
      rw [HY.out] at vx
      have i1 : (0 : Int) ≤ (i : Int) := by omega
      have i2 : (i : Int) < (n : Int) := by omega
      have i3 : (0 : Int) ≤ (c : Int) := by omega
      have i4 : (c : Int) < (m : Int) := by omega
      clear hl hB h1 el
      go_wp2_with fail
      refine (SignN x y k _ vx.num hk).mono ?_
      rintro e w1 ⟨rfl, c1⟩
      replace hx := hx.keep0 c1
      replace hch := hch.then c1
      clear c1 e0 e1 e2 c0
      by_cases hy : y = 0
      · have HY0 : Hid (f i c = 0) := by show _ = _; rw [HY.out]; exact hy
        rw [hy, sg_nil2]
        go_wp2_with fail
        go_roundw
        case rel => exact ⟨i + 1, by omega, by omega, by go_num, all_from HZ.out HY0.out, hx, hch⟩
        case measure => simp [intOf]; omega
      · have hq : q = (i : Int) := by
          rw [← HQ.out]; unfold pivI
          have := pivR_is hri hlt (by rw [HY.out]; exact hy) HZ.out
          rw [this, if_pos hlt]
        subst hq
        clear HQ
        rcases sg_one2 hy with hg | hg
        all_goals
          rw [hg]
          go_wp2_with fail
          go_ret
          exact ⟨rfl, hch⟩
    · obtain rfl : i = n := by omega
      have hq : q = -1 := by
        rw [← HQ.out]; unfold pivI
        rw [pivR_none hr HZ.out, if_neg (by omega)]
      subst hq
      clear HQ
      go_wp2_with fail
      go_ret
      exact ⟨rfl, hch⟩

set_option maxRecDepth 20000 in
set_option maxHeartbeats 4000000 in
theorem cleared_any (xs ys : List Q3) (p q : Nat → Rat) (m k c : Nat) (A B : Option Addr) (ca cb : Nat) (w : World) (hxs : Row1 xs p m k) (hys : Row1 ys q m k) (hc : c < m) (hm : m ≤ 1000000) (hk : k ≤ 4294967296) (hx : Rds w A xs) (hy : Rds w B ys) :
    Calls Try.prog 52 #[.slice A m ca, .slice B m cb, .int .i64 c] w fun e w' => ∃ g zs, e = .returned (.slice (some ⟨g, 0, none⟩) m m) ∧ w.heap.size ≤ g ∧ Row1 zs (fun j => q c * p j - p c * q j) m (k + k + (k + k) + 1) ∧ Nums w' g m zs ∧ Chg [] w w' := by
  have hlx := hxs.len
  have hly := hys.len
  obtain ⟨ga, oa, rfl, hga⟩ := hx.form (by omega)
  obtain ⟨gb, ob, rfl, hgb⟩ := hy.form (by omega)
  have HXS := Lib.hid hxs
  have HYS := Lib.hid hys
  clear hxs hys
  go_enter Try.func52, Try.ntmps52
  go_wp2_with (at_make; refine wpList_make3 _ rfl (.tmp 10) (.tmp 10) rfl _ _ m rfl rfl rfl rfl hm ?_)
  intro w1 hz hch
  obtain ⟨g, HG⟩ := name_it w.heap.size
  rw [HG.out] at hz hga hgb ⊢
  have hgw : w.heap.size ≤ g := by rw [← HG.out]; exact Nat.le_refl _
  replace hx := hx.keep0 hch
  replace hy := hy.keep0 hch
  go_wp2_with fail
  go_loopw [14] (fun jv wr => ∃ (j : Nat) (zs : List Q3), j ≤ m ∧ jv = .int .i64 j ∧ zs.length = m ∧ (∀ t, t < j → Val (zs.getD t q0) (q c * p t - p c * q t) (k + k + (k + k) + 1)) ∧ Nums wr g m zs ∧ Rds wr (some ⟨ga, oa, none⟩) xs ∧ Rds wr (some ⟨gb, ob, none⟩) ys ∧ Chg [] w wr) (fun jv _ => m - (intOf jv).toNat)
  case atStart => exact ⟨0, _, Nat.zero_le _, rfl, by simp, fun t h => absurd h (by omega), hz, hx, hy, hch⟩
  case round =>
    clear hz hx hy hch
    obtain ⟨j, zs, hj, rfl, hlz, hval, hz, hx, hy, hch⟩ := hrel
    have HVAL := Lib.hid hval
    clear hval
    by_cases hlt : j < m
    · have e1 := hy.el (j := c) (by omega)
      have ve1 := HYS.out.val c (hc)
      have e2 := hx.el (j := j) (by omega)
      have ve2 := HXS.out.val j (hlt)
      have e3 := hx.el (j := c) (by omega)
      have ve3 := HXS.out.val c (hc)
      have e4 := hy.el (j := j) (by omega)
      have ve4 := HYS.out.val j (hlt)
      obtain ⟨xe1, Xe1⟩ := name_it (ys.getD c q0)
      rw [Xe1.out] at e1 ve1
      obtain ⟨ue1, Ue1⟩ := name_it (q c)
      rw [Ue1.out] at ve1
      obtain ⟨xe2, Xe2⟩ := name_it (xs.getD j q0)
      rw [Xe2.out] at e2 ve2
      obtain ⟨ue2, Ue2⟩ := name_it (p j)
      rw [Ue2.out] at ve2
      obtain ⟨xe3, Xe3⟩ := name_it (xs.getD c q0)
      rw [Xe3.out] at e3 ve3
      obtain ⟨ue3, Ue3⟩ := name_it (p c)
      rw [Ue3.out] at ve3
      obtain ⟨xe4, Xe4⟩ := name_it (ys.getD j q0)
      rw [Xe4.out] at e4 ve4
      obtain ⟨ue4, Ue4⟩ := name_it (q j)
      rw [Ue4.out] at ve4
      have i1 : (0 : Int) ≤ (j : Int) := by omega
      have i2 : (j : Int) < (m : Int) := by omega
      have i3 : (0 : Int) ≤ (c : Int) := by omega
      have i4 : (c : Int) < (m : Int) := by omega
      clear hj
      go_wp2_with fail
      replace e1 := e1.keep0 ((Chg.refl [] _).drew)
      replace e2 := e2.keep0 ((Chg.refl [] _).drew)
      replace e3 := e3.keep0 ((Chg.refl [] _).drew)
      replace e4 := e4.keep0 ((Chg.refl [] _).drew)
      replace hz := hz.keep ((Chg.refl [] _).drew) (by simp)
      replace hx := hx.keep0 ((Chg.refl [] _).drew)
      replace hy := hy.keep0 ((Chg.refl [] _).drew)
      replace hch := hch.drew
      go_region_held3 (fun w' => w'.cell? ⟨gb, ob + c * 3, none⟩ = some (.bool xe1.neg) ∧ w'.cell? ⟨gb, ob + c * 3 + 1, none⟩ = some (.string xe1.num) ∧ w'.cell? ⟨gb, ob + c * 3 + 2, none⟩ = some (.string xe1.den) ∧ w'.cell? ⟨ga, oa + j * 3, none⟩ = some (.bool xe2.neg) ∧ w'.cell? ⟨ga, oa + j * 3 + 1, none⟩ = some (.string xe2.num) ∧ w'.cell? ⟨ga, oa + j * 3 + 2, none⟩ = some (.string xe2.den) ∧ w'.cell? ⟨ga, oa + c * 3, none⟩ = some (.bool xe3.neg) ∧ w'.cell? ⟨ga, oa + c * 3 + 1, none⟩ = some (.string xe3.num) ∧ w'.cell? ⟨ga, oa + c * 3 + 2, none⟩ = some (.string xe3.den) ∧ w'.cell? ⟨gb, ob + j * 3, none⟩ = some (.bool xe4.neg) ∧ w'.cell? ⟨gb, ob + j * 3 + 1, none⟩ = some (.string xe4.num) ∧ w'.cell? ⟨gb, ob + j * 3 + 2, none⟩ = some (.string xe4.den)) (first | exact ⟨e1.a, e1.b, e1.c, e2.a, e2.b, e2.c, e3.a, e3.b, e3.c, e4.a, e4.b, e4.c⟩ | exact ⟨(e1.st (by omega) _ _ _).a, (e1.st (by omega) _ _ _).b, (e1.st (by omega) _ _ _).c, (e2.st (by omega) _ _ _).a, (e2.st (by omega) _ _ _).b, (e2.st (by omega) _ _ _).c, (e3.st (by omega) _ _ _).a, (e3.st (by omega) _ _ _).b, (e3.st (by omega) _ _ _).c, (e4.st (by omega) _ _ _).a, (e4.st (by omega) _ _ _).b, (e4.st (by omega) _ _ _).c⟩) (first
          | (go_at_call 18
             (with_reducible refine (MultiplyN xe1 xe2 ue1 ue2 k k _ ve1.num ve2.num (by omega)).mono ?_)
             rintro e w1 ⟨m1, rfl, hm1, c1⟩
             try replace e1 := e1.keep0 c1
             try replace e2 := e2.keep0 c1
             try replace e3 := e3.keep0 c1
             try replace e4 := e4.keep0 c1
             try replace hx := hx.keep0 c1
             try replace hy := hy.keep0 c1
             replace hz := hz.keep c1 (by simp)
             replace hch := hch.then c1
             clear c1)
          | (go_at_call 18
             (with_reducible refine (MultiplyN xe3 xe4 ue3 ue4 k k _ ve3.num ve4.num (by omega)).mono ?_)
             rintro e w1 ⟨m2, rfl, hm2, c1⟩
             try replace e1 := e1.keep0 c1
             try replace e2 := e2.keep0 c1
             try replace e3 := e3.keep0 c1
             try replace e4 := e4.keep0 c1
             try replace hx := hx.keep0 c1
             try replace hy := hy.keep0 c1
             replace hz := hz.keep c1 (by simp)
             replace hch := hch.then c1
             clear c1)
          | (go_at_call 76
             (with_reducible refine (SubtractN m1 m2 (ue1 * ue2) (ue3 * ue4) (k + k) (k + k) _ hm1.num hm2.num (by omega)).mono ?_)
             rintro e w1 ⟨z, rfl, hzv, c1⟩
             try replace e1 := e1.keep0 c1
             try replace e2 := e2.keep0 c1
             try replace e3 := e3.keep0 c1
             try replace e4 := e4.keep0 c1
             try replace hx := hx.keep0 c1
             try replace hy := hy.keep0 c1
             replace hz := hz.keep c1 (by simp)
             replace hch := hch.then c1
             clear c1
             obtain ⟨s0, s1, s2⟩ := hz.rds.zero_at (j := j) (by omega)
             have s3 := hz.frozen (j * 3)
             have s4 := hz.frozen (j * 3 + 1)
             have s5 := hz.frozen (j * 3 + 2)))
      all_goals
        rw [← Ue1.out, ← Ue2.out, ← Ue3.out, ← Ue4.out] at hzv
        have HNX := Lib.hid (nums_set (P := fun t z => Val z (q c * p t - p c * q t) (k + k + (k + k) + 1)) (by omega : j < zs.length) HVAL.out hzv)
        go_wp2_with fail
        go_roundw
        case rel => exact ⟨j + 1, zs.set j z, by omega, by go_num, by rw [List.length_set]; exact hlz, HNX.out, hz.store (by omega) z, hx.sto (by omega) _ _ _, hy.sto (by omega) _ _ _, hch.store3o (.inr hgw) _ _ _⟩
        case measure => simp [intOf]; omega
    · obtain rfl : j = m := by omega
      go_wp2_with fail
      go_ret
      exact ⟨g, zs, rfl, hgw, ⟨hlz, HVAL.out⟩, hz, hch⟩

end Go.Proofs.Ytpaochhaenehmaa

/- Part LX3. -/

namespace Go.Proofs.Ytpaochhaenehmaa
open Go.RowKit Nd
theorem int_quot {a D : Int} (hD : D ≠ 0) (h : D ∣ a) : sq (decide (a < 0) != decide (D < 0)) (a.natAbs / D.natAbs) 1 = ((a / D : Int) : Rat) := by
  obtain ⟨c, rfl⟩ := h
  rw [Int.mul_ediv_cancel_left _ hD, Int.natAbs_mul, Nat.mul_div_cancel_left _ (by omega), sq_int]
  congr 1
  rcases Int.lt_trichotomy c 0 with hc | rfl | hc
  · rcases Int.lt_or_gt_of_ne hD with h | h
    · have := Int.mul_pos_of_neg_of_neg h hc
      rw [decide_eq_false (by omega : ¬ D * c < 0), decide_eq_true h]; simp; omega
    · have := Int.mul_neg_of_pos_of_neg h hc
      rw [decide_eq_true (by omega : D * c < 0), decide_eq_false (by omega : ¬ D < 0)]; simp; omega
  · simp
  · rcases Int.lt_or_gt_of_ne hD with h | h
    · have := Int.mul_neg_of_neg_of_pos h hc
      rw [decide_eq_true (by omega : D * c < 0), decide_eq_true h]; simp; omega
    · have := Int.mul_pos h hc
      rw [decide_eq_false (by omega : ¬ D * c < 0), decide_eq_false (by omega : ¬ D < 0)]; simp; omega
theorem Val.ineg {x : Q3} {a : Int} {k : Nat} (h : Val x (a : Rat) k) : x.neg = decide (a < 0) := by
  have := h.enc.neg; rwa [Rat.num_intCast] at this
theorem Val.inum {x : Q3} {a : Int} {k : Nat} (h : Val x (a : Rat) k) : Is x.num a.natAbs := by
  have := h.enc.num; rwa [Rat.num_intCast] at this
theorem Val.ilt {x : Q3} {a : Int} {k : Nat} (h : Val x (a : Rat) k) : a.natAbs < 256 ^ k := by
  have := h.bd.1; rwa [Rat.num_intCast] at this
theorem bd_ofInt {a : Int} {k : Nat} (h : a.natAbs < 256 ^ k) (hk : 1 ≤ k) : Bd k (a : Rat) := by
  refine ⟨by rw [Rat.num_intCast]; exact h, by rw [Rat.den_intCast]; exact Nat.one_lt_pow (by omega) (by omega)⟩
theorem quot_lt {a D : Int} {k : Nat} (h : a.natAbs < 256 ^ k) (hd : D ∣ a) (hD : D ≠ 0) : (a / D).natAbs < 256 ^ k := by
  obtain ⟨c, rfl⟩ := hd
  rw [Int.mul_ediv_cancel_left _ hD]
  rw [Int.natAbs_mul] at h
  exact Nat.lt_of_le_of_lt (Nat.le_mul_of_pos_left _ (by omega)) h
theorem one_val : val ⟨#[1]⟩ = 1 := Is_val (Is_one.2 rfl)

theorem Blk3.sto {w : World} {g h i j k : Nat} {a b c : Value} (e : Blk3 w g a b c) (hg : g ≠ h) (x y z : Value) : Blk3 (((w.setCell ⟨h, i, none⟩ x).setCell ⟨h, j, none⟩ y).setCell ⟨h, k, none⟩ z) g a b c :=
  e.keep ((Chg.refl [h] w).store3o (.inl (by simp)) x y z) (by simpa using hg)

set_option maxRecDepth 20000 in
set_option maxHeartbeats 4000000 in
theorem divided_any (xs : List Q3) (a : Nat → Int) (m k kd : Nat) (d : Q3) (D : Int) (A : Option Addr) (ca : Nat) (w : World) (hxs : Row1 xs (fun j => (a j : Rat)) m k) (hd : Val d (D : Rat) kd) (hD : D ≠ 0) (hdv : ∀ j, j < m → D ∣ a j) (hm : m ≤ 1000000) (hk : k ≤ 34359738367) (hkd : kd ≤ 34359738367) (hx : Rds w A xs) :
    Calls Try.prog 51 #[.slice A m ca, .agg #[.bool d.neg, .string d.num, .string d.den]] w fun e w' => ∃ g zs, e = .returned (.slice (some ⟨g, 0, none⟩) m m) ∧ w.heap.size ≤ g ∧ Row1 zs (fun j => ((a j / D : Int) : Rat)) m k ∧ Nums w' g m zs ∧ Chg [] w w' := by
  have hlx := hxs.len
  have HXS := Lib.hid hxs
  have HDV := Lib.hid hdv
  clear hxs hdv
  have b1 := Blk3.alloc w (.bool d.neg) (.string d.num) (.string d.den) 26
  have hch : Chg [] w (w.alloc (.cells #[.bool d.neg, .string d.num, .string d.den] 26)) := (Chg.refl _ _).alloc _
  have hA : Hid (0 < m → ∃ g o, A = some ⟨g, o, none⟩ ∧ g < w.heap.size) := Lib.hid fun h => hx.form (by omega)
  replace hx := hx.keep0 hch
  go_enter Try.func51, Try.ntmps51
  go_wp2_with (at_make; refine wpList_make3 _ rfl (.tmp 12) (.tmp 12) rfl _ _ m rfl rfl rfl rfl hm ?_)
  intro w1 hz c1
  obtain ⟨g, HG⟩ := name_it (w.heap.size + 1)
  rw [HG.out] at hz ⊢
  have hgs : w.heap.size < g := by have := HG.out; omega
  replace hx := hx.keep0 c1
  replace b1 := b1.keep c1 (by simp)
  replace hch := hch.then c1
  clear c1
  go_wp2_with fail
  go_loopw [16] (fun jv wr => ∃ (j : Nat) (zs : List Q3), j ≤ m ∧ jv = .int .i64 j ∧ zs.length = m ∧ (∀ t, t < j → Val (zs.getD t q0) ((a t / D : Int) : Rat) k) ∧ Nums wr g m zs ∧ Rds wr A xs ∧ Blk3 wr w.heap.size (.bool d.neg) (.string d.num) (.string d.den) ∧ Chg [] w wr) (fun jv _ => m - (intOf jv).toNat)
  case atStart => exact ⟨0, _, Nat.zero_le _, rfl, by simp, fun t h => absurd h (by omega), hz, hx, b1, hch⟩
  case round =>
    clear hz hx b1 hch
    obtain ⟨j, zs, hj, rfl, hlz, hval, hz, hx, b1, hch⟩ := hrel
    have HVAL := Lib.hid hval
    clear hval
    by_cases hlt : j < m
    · obtain ⟨ga, oa, rfl, hga⟩ := hA.out (by omega)
      have e1 := hx.el (j := j) (by omega)
      have v1 := HXS.out.val j hlt
      have hdj := Lib.hid (HDV.out j hlt)
      obtain ⟨x, HX⟩ := name_it (xs.getD j q0)
      rw [HX.out] at e1 v1
      have x0 := e1.a
      have x1 := e1.b
      have x2 := e1.c
      have i1 : (0 : Int) ≤ (j : Int) := by omega
      have i2 : (j : Int) < (m : Int) := by omega
      have b2 := Blk3.alloc wr (.bool x.neg) (.string x.num) (.string x.den) 26
      have hsz := hch.size
      clear hj e1
      have a0 := b1.c0
      have a1 := b1.c1
      have a2 := b1.c2
      have hlb := b1.lt
      go_wp2_with fail
      refine (Divide_any x.num d.num _ (by have := v1.n1; omega) (by have := hd.n1; omega) (by rw [Is_val hd.inum]; omega)).mono ?_
      rintro e w1 ⟨qq, rr, rfl, hq, _, c1⟩
      rw [Is_val v1.inum, Is_val hd.inum] at hq
      have c2 := ((Chg.refl [] wr).alloc (.cells #[.bool x.neg, .string x.num, .string x.den] 26)).then c1
      replace b1 := b1.keep c2 (by simp)
      replace b2 := b2.keep c1 (by simp)
      replace hz := hz.keep c2 (by simp)
      replace hx := hx.keep0 c2
      replace hch := hch.then c2
      clear c1 c2 x0 x1 x2 a0 a1 a2
      have b1c0 := b1.c0
      have b1c1 := b1.c1
      have b1c2 := b1.c2
      have b1f0 := b1.f0
      have b1f1 := b1.f1
      have b1f2 := b1.f2
      have b1l := b1.lt
      have b2c0 := b2.c0
      have b2c1 := b2.c1
      have b2c2 := b2.c2
      have b2f0 := b2.f0
      have b2f1 := b2.f1
      have b2f2 := b2.f2
      have b2l := b2.lt
      go_wp2_with fail
      clear b1c0 b1f0 b1c1 b1f1 b1c2 b1f2 b1l b2c0 b2f0 b2c1 b2f1 b2c2 b2f2 b2l
      have zq : qq.size ≤ 1099511627776 := by have := Is_size hq k (Nat.lt_of_le_of_lt (Nat.div_le_self _ _) v1.ilt); omega
      refine (Make_any (x.neg != d.neg) qq ⟨#[1]⟩ _ zq (by decide) (by rw [one_val]; decide)).mono ?_
      rintro e w2 ⟨z, rfl, hzv, c1⟩
      rw [Is_val hq, one_val, v1.ineg, hd.ineg, int_quot hD hdj.out] at hzv
      replace b1 := b1.keep c1 (by simp)
      replace hz := hz.keep c1 (by simp)
      replace hx := hx.keep0 c1
      replace hch := hch.then c1
      clear c1 b2
      have hzv2 : Val z ((a j / D : Int) : Rat) k := ⟨hzv, bd_ofInt (quot_lt v1.ilt hdj.out hD) (bd_pos v1.bd)⟩
      have HNX := Lib.hid (nums_set (P := fun t z => Val z ((a t / D : Int) : Rat) k) (by omega : j < zs.length) HVAL.out hzv2)
      obtain ⟨s0, s1, s2⟩ := hz.rds.zero_at (j := j) (by omega)
      have s3 := hz.frozen (j * 3)
      have s4 := hz.frozen (j * 3 + 1)
      have s5 := hz.frozen (j * 3 + 2)
      clear hzv hzv2 hdj
      go_wp2_with fail
      go_roundw
      case rel => exact ⟨j + 1, zs.set j z, by omega, by go_num, by rw [List.length_set]; exact hlz, HNX.out, hz.store (by omega) z, hx.sto (by omega) _ _ _, b1.sto (by omega) _ _ _, hch.store3o (.inr (by omega)) _ _ _⟩
      case measure => simp [intOf]; omega
    · obtain rfl : j = m := by omega
      go_wp2_with fail
      go_ret
      exact ⟨g, zs, rfl, by omega, ⟨hlz, HVAL.out⟩, hz, hch⟩

def gcdN (a : Nat → Int) : Nat → Nat
  | 0 => 0
  | i + 1 => Nat.gcd (gcdN a i) (a i).natAbs
theorem gcdN_dvd (a : Nat → Int) : ∀ i j, j < i → gcdN a i ∣ (a j).natAbs
  | 0, j, h => absurd h (by omega)
  | i + 1, j, h => by
    unfold gcdN
    rcases Nat.lt_or_ge j i with h1 | h1
    · exact Nat.dvd_trans (Nat.gcd_dvd_left _ _) (gcdN_dvd a i j h1)
    · obtain rfl : j = i := by omega
      exact Nat.gcd_dvd_right _ _
theorem gcdN_lt {a : Nat → Int} {b m : Nat} (hb : 0 < b) (h : ∀ j, j < m → (a j).natAbs < b) : ∀ i, i ≤ m → gcdN a i < b
  | 0, _ => hb
  | i + 1, hi => by
    unfold gcdN
    by_cases h0 : gcdN a i = 0
    · rw [h0, Nat.gcd_zero_left]; exact h i hi
    · exact Nat.lt_of_le_of_lt (Nat.gcd_le_left _ (by omega)) (gcdN_lt hb h i (by omega))
/-- The row b is the row a times a number that is not 0. -/
def Same (a b : Nat → Int) (m : Nat) : Prop := ∃ t : Rat, t ≠ 0 ∧ ∀ j, j < m → ((b j : Int) : Rat) = t * ((a j : Int) : Rat)
theorem Same.refl (a : Nat → Int) (m : Nat) : Same a a m := ⟨1, by decide, fun j _ => (Rat.one_mul _).symm⟩
theorem Same.div {a : Nat → Int} {m G : Nat} (hG : G ≠ 0) (h : ∀ j, j < m → (G : Int) ∣ a j) : Same a (fun j => a j / (G : Int)) m := by
  have hg : ((G : Int) : Rat) ≠ 0 := by
    intro hc; have := Rat.intCast_inj.1 (hc.trans Rat.intCast_zero.symm); omega
  refine ⟨(((G : Int) : Rat))⁻¹, ?_, fun j hj => ?_⟩
  · intro hc
    have := Rat.mul_inv_cancel _ hg
    rw [hc, Rat.mul_zero] at this
    exact absurd this (by decide)
  · obtain ⟨c, hc⟩ := h j hj
    show ((a j / (G : Int) : Int) : Rat) = _
    rw [hc, Int.mul_ediv_cancel_left _ (by omega), Rat.intCast_mul, ← Rat.mul_assoc, Rat.inv_mul_cancel _ hg, Rat.one_mul]
theorem val_nat {s : ByteArray} {G k : Nat} (h : Is s G) (hl : G < 256 ^ k) (hk : 1 ≤ k) : Val ⟨false, s, ⟨#[]⟩⟩ ((G : Int) : Rat) k := by
  refine ⟨⟨?_, ?_, ?_⟩, bd_ofInt (by simpa using hl) hk⟩
  · rw [Rat.num_intCast, decide_eq_false (by omega)]
  · rw [Rat.num_intCast]; simpa using h
  · rw [Rat.den_intCast, if_pos rfl]; exact Is_zero.2 rfl

set_option maxRecDepth 20000 in
set_option maxHeartbeats 4000000 in
theorem primitive_any (xs : List Q3) (a : Nat → Int) (m k : Nat) (A : Option Addr) (ca : Nat) (w : World) (hxs : Row1 xs (fun j => (a j : Rat)) m k) (hk1 : 1 ≤ k) (hm : m ≤ 1000000) (hk : k ≤ 34359738367) (hca : m ≤ ca) (hcm : ca ≤ 9223372036854775807) (hx : Rds w A xs) :
    Calls Try.prog 61 #[.slice A m ca] w fun e w' => ∃ B c zs b, e = .returned (.slice B m c) ∧ m ≤ c ∧ c ≤ 9223372036854775807 ∧ Rds w' B zs ∧ (B = A ∨ ∃ g, B = some ⟨g, 0, none⟩ ∧ w.heap.size ≤ g) ∧ Row1 zs (fun j => ((b j : Int) : Rat)) m k ∧ Same a b m ∧ Chg [] w w' := by
  have hlx := hxs.len
  have HXS := Lib.hid hxs
  clear hxs
  have hch : Chg [] w w := Chg.refl _ _
  have e0 : Is ⟨#[]⟩ (gcdN a 0) := Is_zero.2 rfl
  have GLT := Lib.hid (gcdN_lt (a := a) (b := 256 ^ k) (m := m) (Nat.pow_pos (by omega)) (fun j hj => (HXS.out.val j hj).ilt))
  have GDV := Lib.hid (gcdN_dvd a)
  go_enter Try.func61, Try.ntmps61
  go_wp2_with fail
  go_loopw [3, 8] (fun sv iv wr => ∃ (i : Nat) (s : ByteArray), i ≤ m ∧ iv = .int .i64 i ∧ sv = .string s ∧ Is s (gcdN a i) ∧ Rds wr A xs ∧ Chg [] w wr) (fun _ iv _ => m - (intOf iv).toNat)
  case atStart => exact ⟨0, _, Nat.zero_le _, rfl, rfl, e0, hx, hch⟩
  case round =>
    clear hx hch e0
    obtain ⟨i, s, hi, rfl, rfl, hs, hx, hch⟩ := hrel
    by_cases hlt : i < m
    · obtain ⟨ga, oa, rfl, hga⟩ := hx.form (by omega)
      have e1 := hx.el (j := i) (by omega)
      have v1 := HXS.out.val i hlt
      obtain ⟨x, HX⟩ := name_it (xs.getD i q0)
      rw [HX.out] at e1 v1
      have x0 := e1.a
      have x1 := e1.b
      have x2 := e1.c
      have i1 : (0 : Int) ≤ (i : Int) := by omega
      have i2 : (i : Int) < (m : Int) := by omega
      have zs := Is_size hs k (GLT.out i hi)
      clear e1
      go_wp2_with fail
      refine (GCD_any s x.num _ (by omega) (by have := v1.n1; omega)).mono ?_
      rintro e w1 ⟨s2, rfl, hs2, c1⟩
      rw [Is_val hs, Is_val v1.inum] at hs2
      have c2 := ((Chg.refl [] wr).alloc (.cells #[.bool x.neg, .string x.num, .string x.den] 26)).then c1
      replace hx := hx.keep0 c2
      replace hch := hch.then c2
      clear c1 c2 x0 x1 x2
      have hs3 : Is s2 (gcdN a (i + 1)) := hs2
      clear hs2
      obtain ⟨G, HG⟩ := name_it (gcdN a (i + 1))
      rw [HG.out] at hs3
      have t1 := Is_isone hs3
      have t0 := Is_empty hs3
      by_cases h1 : G = 1
      · have t2 : (s2.toList == [1]) = true := by rw [t1]; simpa using h1
        have t3 : s2.toList.isEmpty = false := by rw [t0]; simp [h1]
        clear t1 t0
        go_wp2_with fail
        go_ret
        exact ⟨_, ca, xs, a, rfl, hca, hcm, hx, .inl rfl, HXS.out, Same.refl _ _, hch⟩
      · have t2 : (s2.toList == [1]) = false := by rw [t1]; simpa using h1
        clear t1 t0
        go_wp2_with fail
        go_roundw
        case rel => exact ⟨i + 1, s2, by omega, by go_num, rfl, by rw [HG.out]; exact hs3, hx, hch⟩
        case measure => simp [intOf]; omega
    · obtain rfl : i = m := by omega
      have hgl := GLT.out i hi
      have hgd := Lib.hid (fun j hj => GDV.out i j hj)
      obtain ⟨G, HG⟩ := name_it (gcdN a i)
      rw [HG.out] at hs hgl hgd
      have t1 := Is_isone hs
      have t0 := Is_empty hs
      by_cases h0 : G = 0
      · have t3 : s.toList.isEmpty = true := by rw [t0]; simpa using h0
        clear t1 t0
        go_wp2_with fail
        go_ret
        exact ⟨A, ca, xs, a, rfl, hca, hcm, hx, .inl rfl, HXS.out, Same.refl _ _, hch⟩
      · have t3 : s.toList.isEmpty = false := by rw [t0]; simpa using h0
        by_cases h1 : G = 1
        · have t2 : (s.toList == [1]) = true := by rw [t1]; simpa using h1
          clear t1 t0
          go_wp2_with fail
          go_ret
          exact ⟨A, ca, xs, a, rfl, hca, hcm, hx, .inl rfl, HXS.out, Same.refl _ _, hch⟩
        · have t2 : (s.toList == [1]) = false := by rw [t1]; simpa using h1
          clear t1 t0
          have hdv : ∀ j, j < i → (G : Int) ∣ a j := fun j hj => Int.natAbs_dvd_natAbs.1 (by rw [Int.natAbs_natCast]; exact hgd.out j hj)
          have HDV := Lib.hid hdv
          clear hdv
          have vd := val_nat hs hgl hk1
          go_wp2_with fail
          refine (divided_any xs a i k k ⟨false, s, ⟨#[]⟩⟩ (G : Int) A ca _ HXS.out vd (by omega) HDV.out hm hk hk hx).mono ?_
          rintro e w1 ⟨g, zs, rfl, hg, hzs, hz, c1⟩
          have hgw : w.heap.size ≤ g := Nat.le_trans hch.size hg
          replace hch := hch.then c1
          clear c1
          go_wp2_with fail
          go_ret
          exact ⟨_, i, zs, _, rfl, Nat.le_refl _, by omega, hz.rds, .inr ⟨g, rfl, hgw⟩, hzs, Same.div h0 HDV.out, hch⟩

end Go.Proofs.Ytpaochhaenehmaa
