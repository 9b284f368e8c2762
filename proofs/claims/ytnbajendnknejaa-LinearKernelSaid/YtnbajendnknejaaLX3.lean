/-
  Elimination over integers: divided, primitive.
-/
import Derived.Test.YtnbajendnknejaaLX2
namespace Go.Proofs.Ytnbajendnknejaa
open Go.RowKit Nd
theorem int_quot {a D : Int} (hD : D ≠ 0) (h : D ∣ a) : sq (decide (a < 0) != decide (D < 0)) (a.natAbs / D.natAbs) 1 = ((a / D : Int) : Rat) := by
  obtain ⟨c, rfl⟩ := h
  rw [Int.mul_ediv_cancel_left _ hD, Int.natAbs_mul, Nat.mul_div_cancel_left _ (by omega), sq_int]
  congr 1
  rcases Int.lt_trichotomy c 0 with hc | rfl | hc
  · rcases Int.lt_or_gt_of_ne hD with h | h
    · have := Int.mul_pos_of_neg_of_neg h hc
      rw [decide_eq_false (by omega : ¬ D * c < 0), decide_eq_true h]; simp; omega
    · have := Int.mul_neg_of_pos_of_neg h hc
      rw [decide_eq_true (by omega : D * c < 0), decide_eq_false (by omega : ¬ D < 0)]; simp; omega
  · simp
  · rcases Int.lt_or_gt_of_ne hD with h | h
    · have := Int.mul_neg_of_neg_of_pos h hc
      rw [decide_eq_true (by omega : D * c < 0), decide_eq_true h]; simp; omega
    · have := Int.mul_pos h hc
      rw [decide_eq_false (by omega : ¬ D * c < 0), decide_eq_false (by omega : ¬ D < 0)]; simp; omega
theorem Val.ineg {x : Q3} {a : Int} {k : Nat} (h : Val x (a : Rat) k) : x.neg = decide (a < 0) := by
  have := h.enc.neg; rwa [Rat.num_intCast] at this
theorem Val.inum {x : Q3} {a : Int} {k : Nat} (h : Val x (a : Rat) k) : Is x.num a.natAbs := by
  have := h.enc.num; rwa [Rat.num_intCast] at this
theorem Val.ilt {x : Q3} {a : Int} {k : Nat} (h : Val x (a : Rat) k) : a.natAbs < 256 ^ k := by
  have := h.bd.1; rwa [Rat.num_intCast] at this
theorem bd_ofInt {a : Int} {k : Nat} (h : a.natAbs < 256 ^ k) (hk : 1 ≤ k) : Bd k (a : Rat) := by
  refine ⟨by rw [Rat.num_intCast]; exact h, by rw [Rat.den_intCast]; exact Nat.one_lt_pow (by omega) (by omega)⟩
theorem quot_lt {a D : Int} {k : Nat} (h : a.natAbs < 256 ^ k) (hd : D ∣ a) (hD : D ≠ 0) : (a / D).natAbs < 256 ^ k := by
  obtain ⟨c, rfl⟩ := hd
  rw [Int.mul_ediv_cancel_left _ hD]
  rw [Int.natAbs_mul] at h
  exact Nat.lt_of_le_of_lt (Nat.le_mul_of_pos_left _ (by omega)) h
theorem one_val : val ⟨#[1]⟩ = 1 := Is_val (Is_one.2 rfl)

theorem Blk3.sto {w : World} {g h i j k : Nat} {a b c : Value} (e : Blk3 w g a b c) (hg : g ≠ h) (x y z : Value) : Blk3 (((w.setCell ⟨h, i, none⟩ x).setCell ⟨h, j, none⟩ y).setCell ⟨h, k, none⟩ z) g a b c :=
  e.keep ((Chg.refl [h] w).store3o (.inl (by simp)) x y z) (by simpa using hg)

set_option maxRecDepth 20000 in
set_option maxHeartbeats 4000000 in
theorem divided_any (xs : List Q3) (a : Nat → Int) (m k kd : Nat) (d : Q3) (D : Int) (A : Option Addr) (ca : Nat) (w : World) (hxs : Row1 xs (fun j => (a j : Rat)) m k) (hd : Val d (D : Rat) kd) (hD : D ≠ 0) (hdv : ∀ j, j < m → D ∣ a j) (hm : m ≤ 1000000) (hk : k ≤ 34359738367) (hkd : kd ≤ 34359738367) (hx : Rds w A xs) :
    Calls Try.prog 112 #[.slice A m ca, .agg #[.bool d.neg, .string d.num, .string d.den]] w fun e w' => ∃ g zs, e = .returned (.slice (some ⟨g, 0, none⟩) m m) ∧ w.heap.size ≤ g ∧ Row1 zs (fun j => ((a j / D : Int) : Rat)) m k ∧ Nums w' g m zs ∧ Chg [] w w' := by
  have hlx := hxs.len
  have HXS := Lib.hid hxs
  have HDV := Lib.hid hdv
  clear hxs hdv
  have b1 := Blk3.alloc w (.bool d.neg) (.string d.num) (.string d.den) 49
  have hch : Chg [] w (w.alloc (.cells #[.bool d.neg, .string d.num, .string d.den] 49)) := (Chg.refl _ _).alloc _
  have hA : Hid (0 < m → ∃ g o, A = some ⟨g, o, none⟩ ∧ g < w.heap.size) := Lib.hid fun h => hx.form (by omega)
  replace hx := hx.keep0 hch
  go_enter Try.func112, Try.ntmps112
  go_wp2_with (at_make; refine wpList_make3 _ rfl (.tmp 12) (.tmp 12) rfl _ _ m rfl rfl rfl rfl hm ?_)
  intro w1 hz c1
  obtain ⟨g, HG⟩ := name_it (w.heap.size + 1)
  rw [HG.out] at hz ⊢
  have hgs : w.heap.size < g := by have := HG.out; omega
  replace hx := hx.keep0 c1
  replace b1 := b1.keep c1 (by simp)
  replace hch := hch.then c1
  clear c1
  go_wp2_with fail
  go_loopw [16] (fun jv wr => ∃ (j : Nat) (zs : List Q3), j ≤ m ∧ jv = .int .i64 j ∧ zs.length = m ∧ (∀ t, t < j → Val (zs.getD t q0) ((a t / D : Int) : Rat) k) ∧ Nums wr g m zs ∧ Rds wr A xs ∧ Blk3 wr w.heap.size (.bool d.neg) (.string d.num) (.string d.den) ∧ Chg [] w wr) (fun jv _ => m - (intOf jv).toNat)
  case atStart => exact ⟨0, _, Nat.zero_le _, rfl, by simp, fun t h => absurd h (by omega), hz, hx, b1, hch⟩
  case round =>
    clear hz hx b1 hch
    obtain ⟨j, zs, hj, rfl, hlz, hval, hz, hx, b1, hch⟩ := hrel
    have HVAL := Lib.hid hval
    clear hval
    by_cases hlt : j < m
    · obtain ⟨ga, oa, rfl, hga⟩ := hA.out (by omega)
      have e1 := hx.el (j := j) (by omega)
      have v1 := HXS.out.val j hlt
      have hdj := Lib.hid (HDV.out j hlt)
      obtain ⟨x, HX⟩ := name_it (xs.getD j q0)
      rw [HX.out] at e1 v1
      have x0 := e1.a
      have x1 := e1.b
      have x2 := e1.c
      have i1 : (0 : Int) ≤ (j : Int) := by omega
      have i2 : (j : Int) < (m : Int) := by omega
      have b2 := Blk3.alloc wr (.bool x.neg) (.string x.num) (.string x.den) 49
      have hsz := hch.size
      clear hj e1
      have a0 := b1.c0
      have a1 := b1.c1
      have a2 := b1.c2
      have hlb := b1.lt
      go_wp2_with fail
      refine (Divide_any x.num d.num _ (by have := v1.n1; omega) (by have := hd.n1; omega) (by rw [Is_val hd.inum]; omega)).mono ?_
      rintro e w1 ⟨qq, rr, rfl, hq, _, c1⟩
      rw [Is_val v1.inum, Is_val hd.inum] at hq
      have c2 := ((Chg.refl [] wr).alloc (.cells #[.bool x.neg, .string x.num, .string x.den] 49)).then c1
      replace b1 := b1.keep c2 (by simp)
      replace b2 := b2.keep c1 (by simp)
      replace hz := hz.keep c2 (by simp)
      replace hx := hx.keep0 c2
      replace hch := hch.then c2
      clear c1 c2 x0 x1 x2 a0 a1 a2
      have b1c0 := b1.c0
      have b1c1 := b1.c1
      have b1c2 := b1.c2
      have b1f0 := b1.f0
      have b1f1 := b1.f1
      have b1f2 := b1.f2
      have b1l := b1.lt
      have b2c0 := b2.c0
      have b2c1 := b2.c1
      have b2c2 := b2.c2
      have b2f0 := b2.f0
      have b2f1 := b2.f1
      have b2f2 := b2.f2
      have b2l := b2.lt
      go_wp2_with fail
      clear b1c0 b1f0 b1c1 b1f1 b1c2 b1f2 b1l b2c0 b2f0 b2c1 b2f1 b2c2 b2f2 b2l
      have zq : qq.size ≤ 1099511627776 := by have := Is_size hq k (Nat.lt_of_le_of_lt (Nat.div_le_self _ _) v1.ilt); omega
      refine (Make_any (x.neg != d.neg) qq ⟨#[1]⟩ _ zq (by decide) (by rw [one_val]; decide)).mono ?_
      rintro e w2 ⟨z, rfl, hzv, c1⟩
      rw [Is_val hq, one_val, v1.ineg, hd.ineg, int_quot hD hdj.out] at hzv
      replace b1 := b1.keep c1 (by simp)
      replace hz := hz.keep c1 (by simp)
      replace hx := hx.keep0 c1
      replace hch := hch.then c1
      clear c1 b2
      have hzv2 : Val z ((a j / D : Int) : Rat) k := ⟨hzv, bd_ofInt (quot_lt v1.ilt hdj.out hD) (bd_pos v1.bd)⟩
      have HNX := Lib.hid (nums_set (P := fun t z => Val z ((a t / D : Int) : Rat) k) (by omega : j < zs.length) HVAL.out hzv2)
      obtain ⟨s0, s1, s2⟩ := hz.rds.zero_at (j := j) (by omega)
      have s3 := hz.frozen (j * 3)
      have s4 := hz.frozen (j * 3 + 1)
      have s5 := hz.frozen (j * 3 + 2)
      clear hzv hzv2 hdj
      go_wp2_with fail
      go_roundw
      case rel => exact ⟨j + 1, zs.set j z, by omega, by go_num, by rw [List.length_set]; exact hlz, HNX.out, hz.store (by omega) z, hx.sto (by omega) _ _ _, b1.sto (by omega) _ _ _, hch.store3o (.inr (by omega)) _ _ _⟩
      case measure => simp [intOf]; omega
    · obtain rfl : j = m := by omega
      go_wp2_with fail
      go_ret
      exact ⟨g, zs, rfl, by omega, ⟨hlz, HVAL.out⟩, hz, hch⟩

def gcdN (a : Nat → Int) : Nat → Nat
  | 0 => 0
  | i + 1 => Nat.gcd (gcdN a i) (a i).natAbs
theorem gcdN_dvd (a : Nat → Int) : ∀ i j, j < i → gcdN a i ∣ (a j).natAbs
  | 0, j, h => absurd h (by omega)
  | i + 1, j, h => by
    unfold gcdN
    rcases Nat.lt_or_ge j i with h1 | h1
    · exact Nat.dvd_trans (Nat.gcd_dvd_left _ _) (gcdN_dvd a i j h1)
    · obtain rfl : j = i := by omega
      exact Nat.gcd_dvd_right _ _
theorem gcdN_lt {a : Nat → Int} {b m : Nat} (hb : 0 < b) (h : ∀ j, j < m → (a j).natAbs < b) : ∀ i, i ≤ m → gcdN a i < b
  | 0, _ => hb
  | i + 1, hi => by
    unfold gcdN
    by_cases h0 : gcdN a i = 0
    · rw [h0, Nat.gcd_zero_left]; exact h i hi
    · exact Nat.lt_of_le_of_lt (Nat.gcd_le_left _ (by omega)) (gcdN_lt hb h i (by omega))
/-- The row b is the row a times a number that is not 0. -/
def Same (a b : Nat → Int) (m : Nat) : Prop := ∃ t : Rat, t ≠ 0 ∧ ∀ j, j < m → ((b j : Int) : Rat) = t * ((a j : Int) : Rat)
theorem Same.refl (a : Nat → Int) (m : Nat) : Same a a m := ⟨1, by decide, fun j _ => (Rat.one_mul _).symm⟩
theorem Same.div {a : Nat → Int} {m G : Nat} (hG : G ≠ 0) (h : ∀ j, j < m → (G : Int) ∣ a j) : Same a (fun j => a j / (G : Int)) m := by
  have hg : ((G : Int) : Rat) ≠ 0 := by
    intro hc; have := Rat.intCast_inj.1 (hc.trans Rat.intCast_zero.symm); omega
  refine ⟨(((G : Int) : Rat))⁻¹, ?_, fun j hj => ?_⟩
  · intro hc
    have := Rat.mul_inv_cancel _ hg
    rw [hc, Rat.mul_zero] at this
    exact absurd this (by decide)
  · obtain ⟨c, hc⟩ := h j hj
    show ((a j / (G : Int) : Int) : Rat) = _
    rw [hc, Int.mul_ediv_cancel_left _ (by omega), Rat.intCast_mul, ← Rat.mul_assoc, Rat.inv_mul_cancel _ hg, Rat.one_mul]
theorem val_nat {s : ByteArray} {G k : Nat} (h : Is s G) (hl : G < 256 ^ k) (hk : 1 ≤ k) : Val ⟨false, s, ⟨#[]⟩⟩ ((G : Int) : Rat) k := by
  refine ⟨⟨?_, ?_, ?_⟩, bd_ofInt (by simpa using hl) hk⟩
  · rw [Rat.num_intCast, decide_eq_false (by omega)]
  · rw [Rat.num_intCast]; simpa using h
  · rw [Rat.den_intCast, if_pos rfl]; exact Is_zero.2 rfl

set_option maxRecDepth 20000 in
set_option maxHeartbeats 4000000 in
theorem primitive_any (xs : List Q3) (a : Nat → Int) (m k : Nat) (A : Option Addr) (ca : Nat) (w : World) (hxs : Row1 xs (fun j => (a j : Rat)) m k) (hk1 : 1 ≤ k) (hm : m ≤ 1000000) (hk : k ≤ 34359738367) (hca : m ≤ ca) (hcm : ca ≤ 9223372036854775807) (hx : Rds w A xs) :
    Calls Try.prog 108 #[.slice A m ca] w fun e w' => ∃ B c zs b, e = .returned (.slice B m c) ∧ m ≤ c ∧ c ≤ 9223372036854775807 ∧ Rds w' B zs ∧ (B = A ∨ ∃ g, B = some ⟨g, 0, none⟩ ∧ w.heap.size ≤ g) ∧ Row1 zs (fun j => ((b j : Int) : Rat)) m k ∧ Same a b m ∧ Chg [] w w' := by
  have hlx := hxs.len
  have HXS := Lib.hid hxs
  clear hxs
  have hch : Chg [] w w := Chg.refl _ _
  have e0 : Is ⟨#[]⟩ (gcdN a 0) := Is_zero.2 rfl
  have GLT := Lib.hid (gcdN_lt (a := a) (b := 256 ^ k) (m := m) (Nat.pow_pos (by omega)) (fun j hj => (HXS.out.val j hj).ilt))
  have GDV := Lib.hid (gcdN_dvd a)
  go_enter Try.func108, Try.ntmps108
  go_wp2_with fail
  go_loopw [3, 8] (fun sv iv wr => ∃ (i : Nat) (s : ByteArray), i ≤ m ∧ iv = .int .i64 i ∧ sv = .string s ∧ Is s (gcdN a i) ∧ Rds wr A xs ∧ Chg [] w wr) (fun _ iv _ => m - (intOf iv).toNat)
  case atStart => exact ⟨0, _, Nat.zero_le _, rfl, rfl, e0, hx, hch⟩
  case round =>
    clear hx hch e0
    obtain ⟨i, s, hi, rfl, rfl, hs, hx, hch⟩ := hrel
    by_cases hlt : i < m
    · obtain ⟨ga, oa, rfl, hga⟩ := hx.form (by omega)
      have e1 := hx.el (j := i) (by omega)
      have v1 := HXS.out.val i hlt
      obtain ⟨x, HX⟩ := name_it (xs.getD i q0)
      rw [HX.out] at e1 v1
      have x0 := e1.a
      have x1 := e1.b
      have x2 := e1.c
      have i1 : (0 : Int) ≤ (i : Int) := by omega
      have i2 : (i : Int) < (m : Int) := by omega
      have zs := Is_size hs k (GLT.out i hi)
      clear e1
      go_wp2_with fail
      refine (GCD_any s x.num _ (by omega) (by have := v1.n1; omega)).mono ?_
      rintro e w1 ⟨s2, rfl, hs2, c1⟩
      rw [Is_val hs, Is_val v1.inum] at hs2
      have c2 := ((Chg.refl [] wr).alloc (.cells #[.bool x.neg, .string x.num, .string x.den] 49)).then c1
      replace hx := hx.keep0 c2
      replace hch := hch.then c2
      clear c1 c2 x0 x1 x2
      have hs3 : Is s2 (gcdN a (i + 1)) := hs2
      clear hs2
      obtain ⟨G, HG⟩ := name_it (gcdN a (i + 1))
      rw [HG.out] at hs3
      have t1 := Is_isone hs3
      have t0 := Is_empty hs3
      by_cases h1 : G = 1
      · have t2 : (s2.toList == [1]) = true := by rw [t1]; simpa using h1
        have t3 : s2.toList.isEmpty = false := by rw [t0]; simp [h1]
        clear t1 t0
        go_wp2_with fail
        go_ret
        exact ⟨_, ca, xs, a, rfl, hca, hcm, hx, .inl rfl, HXS.out, Same.refl _ _, hch⟩
      · have t2 : (s2.toList == [1]) = false := by rw [t1]; simpa using h1
        clear t1 t0
        go_wp2_with fail
        go_roundw
        case rel => exact ⟨i + 1, s2, by omega, by go_num, rfl, by rw [HG.out]; exact hs3, hx, hch⟩
        case measure => simp [intOf]; omega
    · obtain rfl : i = m := by omega
      have hgl := GLT.out i hi
      have hgd := Lib.hid (fun j hj => GDV.out i j hj)
      obtain ⟨G, HG⟩ := name_it (gcdN a i)
      rw [HG.out] at hs hgl hgd
      have t1 := Is_isone hs
      have t0 := Is_empty hs
      by_cases h0 : G = 0
      · have t3 : s.toList.isEmpty = true := by rw [t0]; simpa using h0
        clear t1 t0
        go_wp2_with fail
        go_ret
        exact ⟨A, ca, xs, a, rfl, hca, hcm, hx, .inl rfl, HXS.out, Same.refl _ _, hch⟩
      · have t3 : s.toList.isEmpty = false := by rw [t0]; simpa using h0
        by_cases h1 : G = 1
        · have t2 : (s.toList == [1]) = true := by rw [t1]; simpa using h1
          clear t1 t0
          go_wp2_with fail
          go_ret
          exact ⟨A, ca, xs, a, rfl, hca, hcm, hx, .inl rfl, HXS.out, Same.refl _ _, hch⟩
        · have t2 : (s.toList == [1]) = false := by rw [t1]; simpa using h1
          clear t1 t0
          have hdv : ∀ j, j < i → (G : Int) ∣ a j := fun j hj => Int.natAbs_dvd_natAbs.1 (by rw [Int.natAbs_natCast]; exact hgd.out j hj)
          have HDV := Lib.hid hdv
          clear hdv
          have vd := val_nat hs hgl hk1
          go_wp2_with fail
          refine (divided_any xs a i k k ⟨false, s, ⟨#[]⟩⟩ (G : Int) A ca _ HXS.out vd (by omega) HDV.out hm hk hk hx).mono ?_
          rintro e w1 ⟨g, zs, rfl, hg, hzs, hz, c1⟩
          have hgw : w.heap.size ≤ g := Nat.le_trans hch.size hg
          replace hch := hch.then c1
          clear c1
          go_wp2_with fail
          go_ret
          exact ⟨_, i, zs, _, rfl, Nat.le_refl _, by omega, hz.rds, .inr ⟨g, rfl, hgw⟩, hzs, Same.div h0 HDV.out, hch⟩

end Go.Proofs.Ytnbajendnknejaa
