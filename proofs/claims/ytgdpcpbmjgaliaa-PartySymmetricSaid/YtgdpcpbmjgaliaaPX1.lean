/-
  Party: isParty, areTwo, checkStake, denominator, leastCommonMultiple, isMajority, list.
-/
import Derived.Test.YtgdpcpbmjgaliaaPD
import Derived.Test.YtgdpcpbmjgaliaaGS
namespace Go.Proofs.Ytgdpcpbmjgaliaa
open Go.RowKit Nd

theorem box_p (p : PV) (w : World) : Blk3 (w.alloc (.cells #[.slice p.AK p.n p.cK, .slice p.AS p.m p.cS, .slice p.AT p.t p.cT] 26)) w.heap.size (.slice p.AK p.n p.cK) (.slice p.AS p.m p.cS) (.slice p.AT p.t p.cT) := Blk3.alloc w _ _ _ _
theorem chg_p (p : PV) (w : World) : Chg [] w (w.alloc (.cells #[.slice p.AK p.n p.cK, .slice p.AS p.m p.cS, .slice p.AT p.t p.cT] 26)) := (Chg.refl _ _).alloc _

set_option maxRecDepth 20000 in
set_option maxHeartbeats 1000000 in
theorem isParty_any (p : PV) (x : Int) (w : World) :
    Calls Try.prog 58 #[p.val, .int .i64 x] w fun e w' => e = .returned (.bool (inB p.n x)) ∧ Chg [] w w' := by
  have b1 := box_p p w
  have hch := chg_p p w
  have b1c0 := b1.c0
  unfold inB
  by_cases h0 : 0 ≤ x
  · have d1 : decide (0 ≤ x) = true := decide_eq_true h0
    by_cases h1 : x < (p.n : Int)
    · have d2 : decide (x < (p.n : Int)) = true := decide_eq_true h1
      rw [d1, d2]
      clear h0 h1
      go_enter Try.func58, Try.ntmps58
      go_wp2_with fail
      go_ret
      exact ⟨rfl, hch⟩
    · have d2 : decide (x < (p.n : Int)) = false := decide_eq_false h1
      rw [d1, d2]
      clear h0 h1
      go_enter Try.func58, Try.ntmps58
      go_wp2_with fail
      go_ret
      exact ⟨rfl, hch⟩
  · have d1 : decide (0 ≤ x) = false := decide_eq_false h0
    rw [d1]
    clear h0
    go_enter Try.func58, Try.ntmps58
    go_wp2_with fail
    go_ret
    exact ⟨rfl, hch⟩

theorem bne_dec (x y : Int) : decide (x ≠ y) = (x != y) := by by_cases h : x = y <;> simp [h]
set_option maxRecDepth 20000 in
set_option maxHeartbeats 1000000 in
theorem areTwo_any (p : PV) (x y : Int) (w : World) :
    Calls Try.prog 50 #[p.val, .int .i64 x, .int .i64 y] w fun e w' => e = .returned (.bool (twoB p.n x y)) ∧ Chg [] w w' := by
  have b1 := box_p p w
  have hch := chg_p p w
  have b1c0 := b1.c0
  have b1c1 := b1.c1
  have b1c2 := b1.c2
  have HA := Lib.hid (fun w => isParty_any p x w)
  have HB := Lib.hid (fun w => isParty_any p y w)
  unfold twoB
  cases ha : inB p.n x
  · rw [ha] at HA
    clear ha
    go_enter Try.func50, Try.ntmps50
    go_wp2_with fail
    refine (HA.out _).mono ?_
    rintro e w1 ⟨rfl, c1⟩
    replace hch := hch.then c1
    clear c1 b1 b1c0 b1c1 b1c2
    go_wp2_with fail
    go_ret
    exact ⟨rfl, hch⟩
  · rw [ha] at HA
    clear ha
    cases hb : inB p.n y
    · rw [hb] at HB
      clear hb
      go_enter Try.func50, Try.ntmps50
      go_wp2_with fail
      refine (HA.out _).mono ?_
      rintro e w1 ⟨rfl, c1⟩
      replace hch := hch.then c1
      replace b1 := b1.keep0 c1
      clear c1 b1c0 b1c1 b1c2
      have b1c0 := b1.c0
      have b1c1 := b1.c1
      have b1c2 := b1.c2
      go_wp2_with fail
      refine (HB.out _).mono ?_
      rintro e w2 ⟨rfl, c1⟩
      replace hch := hch.then c1
      clear c1 b1 b1c0 b1c1 b1c2
      go_wp2_with fail
      go_ret
      exact ⟨rfl, hch⟩
    · rw [hb] at HB
      clear hb
      rw [bne_dec]
      go_enter Try.func50, Try.ntmps50
      go_wp2_with fail
      refine (HA.out _).mono ?_
      rintro e w1 ⟨rfl, c1⟩
      replace hch := hch.then c1
      replace b1 := b1.keep0 c1
      clear c1 b1c0 b1c1 b1c2
      have b1c0 := b1.c0
      have b1c1 := b1.c1
      have b1c2 := b1.c2
      go_wp2_with fail
      refine (HB.out _).mono ?_
      rintro e w2 ⟨rfl, c1⟩
      replace hch := hch.then c1
      clear c1 b1 b1c0 b1c1 b1c2
      go_wp2_with fail
      go_ret
      exact ⟨rfl, hch⟩

set_option maxRecDepth 20000 in
set_option maxHeartbeats 2000000 in
theorem checkStake_any (p : PV) (s : Stk) (k : Nat) (w : World) (hp : p.At w) (hf : Num s.vt (ratOf s.vt) k) (hk : k ≤ 1000) :
    Calls Try.prog 47 #[p.val, s.val] w fun e w' => e = .returned (.int .i64 (stE p.K s)) ∧ Chg [] w w' := by
  have c0 := chg_p p w
  have c1 : Chg [] (w.alloc (.cells #[.slice p.AK p.n p.cK, .slice p.AS p.m p.cS, .slice p.AT p.t p.cT] 26)) ((w.alloc (.cells #[.slice p.AK p.n p.cK, .slice p.AS p.m p.cS, .slice p.AT p.t p.cT] 26)).alloc (.cells #[.int .i64 s.ow, .int .i64 s.co, .bool s.vt.neg, .string s.vt.num, .string s.vt.den] 36)) := (Chg.refl _ _).alloc _
  have b1 := (box_p p w).keep0 c1
  have b2 := BlkStk.alloc (w.alloc (.cells #[.slice p.AK p.n p.cK, .slice p.AS p.m p.cS, .slice p.AT p.t p.cT] 26)) (.int .i64 s.ow) (.int .i64 s.co) (.bool s.vt.neg) (.string s.vt.num) (.string s.vt.den) 36
  rw [World.size_alloc] at b2
  have hch := c0.then c1
  replace hp := hp.keep0 hch
  clear c0 c1
  have b1c0 := b1.c0
  have b1c1 := b1.c1
  have b1c2 := b1.c2
  have b2c0 := b2.c0
  have b2c1 := b2.c1
  have b2c2 := b2.c2
  have b2c3 := b2.c3
  have b2c4 := b2.c4
  have HA := Lib.hid (fun w => areTwo_any p s.ow s.co w)
  have HS := Lib.hid (fun w => SignN s.vt _ k w hf (by omega))
  obtain ⟨r, HR⟩ := name_it (stE p.K s)
  rw [HR.out]
  have hkn := hp.kn
  unfold stE at HR
  rw [hkn] at HR
  cases ht : twoB p.n s.ow s.co
  · have hr : r = 14 := by rw [← HR.out, if_pos (.inl ht)]
    subst hr
    rw [ht] at HA
    clear HR ht hp hkn hf
    go_enter Try.func47, Try.ntmps47
    go_wp2_with fail
    refine (HA.out _).mono ?_
    rintro e w1 ⟨rfl, c1⟩
    replace hch := hch.then c1
    clear c1 b1c0 b1c1 b1c2 b2c0 b2c1 b2c2 b2c3 b2c4
    go_wp2_with fail
    go_ret
    exact ⟨rfl, hch⟩
  · rw [ht] at HA HR
    obtain ⟨c, hc, hcn⟩ := inB_nat (twoB_iff.1 ht).2.1
    obtain ⟨K, S, T, n, m, tn, AK, AS, AT, cK, cS, cT⟩ := p
    dsimp only at *
    obtain ⟨g, o, rfl, hgl⟩ := hp.k.form (by rw [hkn]; omega)
    have hcell := hp.k.at_ (j := c) (by rw [hkn]; exact hcn)
    have hkd : kdA K s.co = (K.getD c zn0).x := by unfold kdA; rw [hc, Int.toNat_natCast]
    rw [hkd] at HR
    obtain ⟨kd, HKD⟩ := name_it ((K.getD c zn0).x)
    have hcc : CZn ((w.alloc (.cells #[.slice (some ⟨g, o, none⟩) n cK, .slice AS m cS, .slice AT tn cT] 26)).alloc (.cells #[.int .i64 s.ow, .int .i64 s.co, .bool s.vt.neg, .string s.vt.num, .string s.vt.den] 36)) g (o + c) ⟨kd⟩ := by
      rw [← HKD.out]
      have := hcell
      rw [Nat.mul_one] at this
      exact this
    rw [HKD.out] at HR
    have HC := Lib.hid hc
    clear ht hp hkd hcell hkn HKD hc
    go_enter Try.func47, Try.ntmps47
    go_wp2_with fail
    refine (HA.out _).mono ?_
    rintro e w1 ⟨rfl, c1⟩
    replace hch := hch.then c1
    replace b1 := b1.keep0 c1
    replace b2 := b2.keep0 c1
    replace hcc := hcc.keep0 c1
    clear c1 b1c0 b1c1 b1c2 b2c0 b2c1 b2c2 b2c3 b2c4
    have b1c0 := b1.c0
    have b2c1 := b2.c1
    rw [HC.out] at b2c1
    have b2c2 := b2.c2
    have b2c3 := b2.c3
    have b2c4 := b2.c4
    have hcc0 := hcc.c0
    have i1 : (0 : Int) ≤ (c : Int) := by omega
    have i2 : (c : Int) < (n : Int) := by omega
    by_cases hk2 : kd = 2
    · have d1 : (kd == 2) = true := by simp [hk2]
      have HR2 : Hid ((if sg (ratOf s.vt) ≤ 0 then (1 : Int) else 0) = r) := Lib.hid (by have h := HR.out; rw [if_neg (by simp [hk2])] at h; exact h)
      obtain ⟨u, HU⟩ := name_it (sg (ratOf s.vt))
      rw [HU.out] at HS HR2
      clear HR hk2
      go_wp2_with fail
      refine (HS.out _).mono ?_
      rintro e w2 ⟨rfl, c1⟩
      replace hch := hch.then c1
      clear c1 b1c0 b2c1 b2c2 b2c3 b2c4 hcc0
      by_cases hu : u ≤ 0
      · have d2 : decide (u ≤ 0) = true := decide_eq_true hu
        have hr : r = 1 := by rw [← HR2.out, if_pos hu]
        subst hr
        clear hu
        go_wp2_with fail
        go_ret
        exact ⟨rfl, hch⟩
      · have d2 : decide (u ≤ 0) = false := decide_eq_false hu
        have hr : r = 0 := by rw [← HR2.out, if_neg hu]
        subst hr
        clear hu
        go_wp2_with fail
        go_ret
        exact ⟨rfl, hch⟩
    · have d1 : (kd == 2) = false := by simp [hk2]
      have hr : r = 14 := by rw [← HR.out, if_pos (.inr hk2)]
      subst hr
      clear HR hk2
      go_wp2_with fail
      go_ret
      exact ⟨rfl, hch⟩

theorem den_emp {x : Q3} {q : Rat} {k : Nat} (hx : Val x q k) : (x.den.toList == []) = decide (q.den = 1) := by
  have h := Is_empty hx.enc.den
  have e : (x.den.toList == []) = x.den.toList.isEmpty := by cases x.den.toList <;> rfl
  rw [e, h]
  have := q.den_nz
  by_cases h1 : q.den = 1 <;> simp [h1, this]
set_option maxRecDepth 20000 in
set_option maxHeartbeats 1000000 in
theorem pden_any (x : Q3) (q : Rat) (k : Nat) (w : World) (hx : Val x q k) :
    Calls Try.prog 67 #[.agg #[.bool x.neg, .string x.num, .string x.den]] w fun e w' => e = .returned (.string (nb q.den)) ∧ Chg [] w w' := by
  have hch : Chg [] w (w.alloc (.cells #[.bool x.neg, .string x.num, .string x.den] 33)) := (Chg.refl _ _).alloc _
  have b1 := Blk3.alloc w (.bool x.neg) (.string x.num) (.string x.den) 33
  have b1c2 := b1.c2
  have he := den_emp hx
  have hd := hx.enc.den
  by_cases h1 : q.den = 1
  · have d1 : (x.den.toList == []) = true := by rw [he]; simp [h1]
    rw [h1, nb_one]
    clear he hd h1
    go_enter Try.func67, Try.ntmps67
    go_wp2_with fail
    go_ret
    exact ⟨rfl, hch⟩
  · have d1 : (x.den.toList == []) = false := by rw [he]; simp [h1]
    rw [if_neg h1] at hd
    rw [← nb_of hd]
    clear he hd h1
    go_enter Try.func67, Try.ntmps67
    go_wp2_with fail
    go_ret
    exact ⟨rfl, hch⟩

set_option maxRecDepth 20000 in
set_option maxHeartbeats 1000000 in
theorem plcm_any (x y z : Nat) (w : World) (hx : x < 256 ^ z) (hy : y < 256 ^ z) (hy0 : y ≠ 0) (hz : z ≤ 1000000) :
    Calls Try.prog 66 #[.string (nb x), .string (nb y)] w fun e w' => e = .returned (.string (nb (Nat.lcm x y))) ∧ Chg [] w w' := by
  have hch : Chg [] w w := Chg.refl _ _
  have sx : (nb x).size ≤ z := nb_size hx
  have sy : (nb y).size ≤ z := nb_size hy
  have HG : Hid (∀ w, Calls Try.prog 86 #[.string (nb x), .string (nb y)] w fun e w' => e = .returned (.string (nb (Nat.gcd x y))) ∧ Chg [] w w') := Lib.hid fun w => by
    refine (GCD_any (nb x) (nb y) w (by omega) (by omega)).mono ?_
    rintro e w' ⟨s, rfl, hs, hc⟩
    rw [val_nb, val_nb] at hs
    exact ⟨by rw [nb_of hs], hc⟩
  have hg0 : Nat.gcd x y ≠ 0 := fun h => hy0 (Nat.eq_zero_of_gcd_eq_zero_right h)
  have hgl : Nat.gcd x y ≤ y := Nat.le_of_dvd (Nat.pos_of_ne_zero hy0) (Nat.gcd_dvd_right x y)
  have sg1 : (nb (Nat.gcd x y)).size ≤ z := nb_size (by omega)
  have HD : Hid (∀ w, Calls Try.prog 68 #[.string (nb y), .string (nb (Nat.gcd x y))] w fun e w' => ∃ r, e = .returned (.tuple #[.string (nb (y / Nat.gcd x y)), .string r, .bool true]) ∧ Chg [] w w') := Lib.hid fun w => by
    refine (Divide_any (nb y) (nb (Nat.gcd x y)) w (by omega) (by omega) (by rw [val_nb]; exact hg0)).mono ?_
    rintro e w' ⟨q, r, rfl, hq, _, hc⟩
    rw [val_nb, val_nb] at hq
    exact ⟨r, by rw [nb_of hq], hc⟩
  have hdl : y / Nat.gcd x y ≤ y := Nat.div_le_self _ _
  have sd : (nb (y / Nat.gcd x y)).size ≤ z := nb_size (by omega)
  have HM : Hid (∀ w, Calls Try.prog 69 #[.string (nb x), .string (nb (y / Nat.gcd x y))] w fun e w' => e = .returned (.string (nb (Nat.lcm x y))) ∧ Chg [] w w') := Lib.hid fun w => by
    refine (multiply_any (nb x) (nb (y / Nat.gcd x y)) w (by omega) (by omega)).mono ?_
    rintro e w' ⟨s, rfl, hs, hc⟩
    rw [val_nb, val_nb, Nat.gcd_comm, lcm_prog] at hs
    exact ⟨by rw [nb_of hs], hc⟩
  obtain ⟨X, HX⟩ := name_it (nb x)
  obtain ⟨Y, HY⟩ := name_it (nb y)
  obtain ⟨G, HGG⟩ := name_it (nb (Nat.gcd x y))
  obtain ⟨D, HDD⟩ := name_it (nb (y / Nat.gcd x y))
  obtain ⟨L, HL⟩ := name_it (nb (Nat.lcm x y))
  rw [HX.out, HY.out, HGG.out] at HG
  rw [HY.out, HGG.out, HDD.out] at HD
  rw [HX.out, HDD.out, HL.out] at HM
  rw [HX.out, HY.out, HL.out]
  clear hg0 hgl hdl hx hy hy0 sx sy sg1 sd
  go_enter Try.func66, Try.ntmps66
  go_wp2_with fail
  refine (HG.out _).mono ?_
  rintro e w1 ⟨rfl, c1⟩
  replace hch := hch.then c1
  clear c1
  go_wp2_with fail
  refine (HD.out _).mono ?_
  rintro e w2 ⟨r, rfl, c1⟩
  replace hch := hch.then c1
  clear c1
  go_wp2_with fail
  refine (HM.out _).mono ?_
  rintro e w3 ⟨rfl, c1⟩
  replace hch := hch.then c1
  clear c1
  go_wp2_with fail
  go_ret
  exact ⟨rfl, hch⟩

/-- Votes counted, in memory: a the stakes, b the units of each stake, c the units of each party. -/
structure Cnt (w : World) (p : PV) (P : PD) (gv gu : Nat) : Prop where
  v : Fb w gv p.m (fun i => .string (nb (Vn P i)))
  u : Fb w gu p.n (fun k => .string (nb (Un P k)))
theorem Cnt.keep0 {w w' : World} {p : PV} {P : PD} {gv gu : Nat} (h : Cnt w p P gv gu) (hc : Chg [] w w') : Cnt w' p P gv gu := ⟨h.v.keep0 hc, h.u.keep0 hc⟩
abbrev cntV (p : PV) (gv gu : Nat) : Value := .agg #[.slice p.AS p.m p.cS, .slice (some ⟨gv, 0, none⟩) p.m p.m, .slice (some ⟨gu, 0, none⟩) p.n p.n]

theorem ord_pos (a b : Nat) : decide (0 < ord a b) = decide (b < a) := by
  rcases Nat.lt_trichotomy a b with h | h | h
  · rw [ord_lt h]; simp; omega
  · subst h; rw [show ord a a = 0 by simp [ord]]; simp
  · rw [ord_gt h]; simp [h]

set_option maxRecDepth 20000 in
set_option maxHeartbeats 2000000 in
theorem isMajority_any (p : PV) (P : PD) (gv gu h c Z : Nat) (w : World) (hc : Cnt w p P gv gu) (hcn : c < p.n) (hh : h < 256 ^ Z) (hu : Un P c < 256 ^ Z) (hZ : Z ≤ 1000000) :
    Calls Try.prog 60 #[cntV p gv gu, .string (nb h), .int .i64 c] w fun e w' => e = .returned (.bool (decide (Un P c < h * 2))) ∧ Chg [] w w' := by
  have hch : Chg [] w (w.alloc (.cells #[.slice p.AS p.m p.cS, .slice (some ⟨gv, 0, none⟩) p.m p.m, .slice (some ⟨gu, 0, none⟩) p.n p.n] 63)) := (Chg.refl _ _).alloc _
  have b1 := Blk3.alloc w (.slice p.AS p.m p.cS) (.slice (some ⟨gv, 0, none⟩) p.m p.m) (.slice (some ⟨gu, 0, none⟩) p.n p.n) 63
  have hx : C1 w gu c (.string (nb (Un P c))) := ⟨hc.u.cell c hcn, hc.u.lt⟩
  replace hx := hx.keep0 hch
  have sh : (nb h).size ≤ Z := nb_size hh
  have su : (nb (Un P c)).size ≤ Z := nb_size hu
  have hh2 : h * 2 < 256 ^ (Z + 1) := by rw [Nat.pow_succ]; omega
  have sh2 : (nb (h * 2)).size ≤ Z + 1 := nb_size hh2
  have HM : Hid (∀ w, Calls Try.prog 69 #[.string (nb h), .string ⟨#[2]⟩] w fun e w' => e = .returned (.string (nb (h * 2))) ∧ Chg [] w w') := Lib.hid fun w => by
    have h2 : val ⟨#[2]⟩ = 2 := rfl
    refine (multiply_any (nb h) ⟨#[2]⟩ w (by omega) (by decide)).mono ?_
    rintro e w' ⟨s, rfl, hs, hc⟩
    rw [val_nb, h2] at hs
    exact ⟨by rw [nb_of hs], hc⟩
  have HC : Hid (∀ w, Calls Try.prog 62 #[.string (nb (h * 2)), .string (nb (Un P c))] w fun e w' => e = .returned (.int .i64 (ord (h * 2) (Un P c))) ∧ w = w') := Lib.hid fun w => by
    have := compare_any (nb (h * 2)) (nb (Un P c)) w (by omega) (by omega)
    rw [val_nb, val_nb] at this
    exact this
  have HO : Hid (decide (0 < ord (h * 2) (Un P c)) = decide (Un P c < h * 2)) := Lib.hid (ord_pos _ _)
  obtain ⟨O, HOO⟩ := name_it (ord (h * 2) (Un P c))
  rw [HOO.out] at HC HO
  obtain ⟨r, HR⟩ := name_it (decide (Un P c < h * 2))
  rw [HR.out] at HO ⊢
  obtain ⟨X, HX⟩ := name_it (nb h)
  obtain ⟨Y, HY⟩ := name_it (nb (h * 2))
  obtain ⟨U, HU⟩ := name_it (nb (Un P c))
  rw [HX.out, HY.out] at HM
  rw [HY.out, HU.out] at HC
  rw [HU.out] at hx
  rw [HX.out]
  have i1 : (0 : Int) ≤ (c : Int) := by omega
  have i2 : (c : Int) < (p.n : Int) := by omega
  have hO := HO.out
  clear hc hh hu hh2 sh su sh2 HX HY HU HR HOO HO
  go_enter Try.func60, Try.ntmps60
  go_wp2_with fail
  obtain ⟨w1, HW1⟩ := name_it (w.alloc (.cells #[.slice p.AS p.m p.cS, .slice (some ⟨gv, 0, none⟩) p.m p.m, .slice (some ⟨gu, 0, none⟩) p.n p.n] 63))
  obtain ⟨g1, HG1⟩ := name_it w.heap.size
  rw [HW1.out] at b1 hx hch ⊢
  rw [HG1.out] at b1 ⊢
  have c8 : Chg [] w1 w1.drew := (Chg.refl _ _).drew
  replace b1 := b1.keep0 c8
  replace hx := hx.keep0 c8
  replace hch := hch.then c8
  clear c8
  go_region_held3 (fun w' => w'.cell? ⟨g1, 2, none⟩ = some (.slice (some ⟨gu, 0, none⟩) p.n p.n) ∧ w'.cell? ⟨gu, c, none⟩ = some (.string U)) (first | exact ⟨b1.c2, hx.c0⟩) (first
    | (go_at_call 69
       refine (HM.out _).mono ?_
       rintro e w6 ⟨rfl, c6⟩
       replace b1 := b1.keep0 c6
       replace hx := hx.keep0 c6
       replace hch := hch.then c6
       clear c6)
    | (go_at_call 62
       refine (HC.out _).mono ?_
       rintro e w7 ⟨rfl, h7⟩
       obtain rfl := h7.symm
       clear h7)
    | fail)
  all_goals
    go_wp2_with fail
    go_ret
    exact ⟨rfl, hch⟩

/-- The indices of a set, in ascending order. -/
def idx (X : Nat → Bool) : Nat → List Zn
  | 0 => []
  | n + 1 => if X n then idx X n ++ [⟨(n : Int)⟩] else idx X n
theorem idx_len (X : Nat → Bool) : ∀ n, (idx X n).length ≤ n
  | 0 => Nat.le_refl _
  | n + 1 => by
    have := idx_len X n
    simp only [idx]
    split
    · rw [List.length_append]; simp; omega
    · omega
theorem OwnZn.new (w : World) : OwnZn (w.alloc (.cells #[] 3)) (.slice (some ⟨w.heap.size, 0, none⟩) 0 0) [] := by
  have := World.ownsRow_lit (base := 0) (e := 3) (size := 1) w #[] 0 (Nat.zero_le _) (by simp [maxLen]) (by simp)
  exact this

set_option maxRecDepth 20000 in
set_option maxHeartbeats 2000000 in
theorem list_any (X : Nat → Bool) (g n : Nat) (w : World) (hn : n ≤ 1000000) (hx : Fb w g n (fun j => .bool (X j))) :
    Calls Try.prog 37 #[.slice (some ⟨g, 0, none⟩) n n] w fun e w' => ∃ v, e = .returned v ∧ OwnZn w' v (idx X n) ∧ (∀ x ∈ v.ownBlock.toList, w.heap.size ≤ x) ∧ Chg [] w w' := by
  have hch : Chg [] w (w.alloc (.cells #[] 3)) := (Chg.refl _ _).alloc _
  have hown := OwnZn.new w
  have hgl := hx.lt
  replace hx := hx.keep0 hch
  go_enter Try.func37, Try.ntmps37
  go_wp2_with fail
  go_loopw [3, 9] (fun pv iv wr => ∃ i : Nat, i ≤ n ∧ iv = .int .i64 i ∧ OwnZn wr pv (idx X i) ∧ (∀ x ∈ pv.ownBlock.toList, w.heap.size ≤ x) ∧ Fb wr g n (fun j => .bool (X j)) ∧ Chg [] w wr) (fun _ iv _ => n - (intOf iv).toNat)
  case atStart => exact ⟨0, Nat.zero_le _, rfl, hown, by simp [Value.ownBlock], hx, hch⟩
  case round =>
    clear hx hch hown
    obtain ⟨i, hi, rfl, hown, hpb, hx, hch⟩ := hrel
    have HOWN := Lib.hid hown
    have HPB := Lib.hid hpb
    clear hown hpb
    by_cases hlt : i < n
    · have hc0 : wr.cell? ⟨g, i, none⟩ = some (.bool (X i)) := hx.cell i hlt
      have HID : Hid (idx X (i + 1) = if X i then idx X i ++ [⟨(i : Int)⟩] else idx X i) := Lib.hid rfl
      have HLEN := Lib.hid (idx_len X i)
      obtain ⟨xi, HXI⟩ := name_it (X i)
      rw [HXI.out] at hc0 HID
      have i1 : (0 : Int) ≤ (i : Int) := by omega
      have i2 : (i : Int) < (n : Int) := by omega
      cases xi with
      | false =>
        go_wp2_with fail
        go_roundw
        case rel => exact ⟨i + 1, by omega, by go_num, by rw [HID.out]; exact HOWN.out, HPB.out, hx, hch⟩
        case measure => simp [intOf]; omega
      | true =>
        have c4 : Chg [] wr (wr.alloc (.cells #[.int .i64 (i : Int)] 3)) := (Chg.refl _ _).alloc _
        go_wp2_with (at_builtin; refine wpList_appendZn _ rfl (.tmp 15) (.tmp 17) rfl _ (idx X i) rfl (HOWN.out.keep0 c4) _ 1 ⟨(i : Int)⟩ rfl (sZn_new _ ⟨(i : Int)⟩) (by have := HLEN.out; omega) ?_)
        intro v5 w5 own5 cv5 hv5
        have HO5 := Lib.hid own5
        have hs5 := hch.size
        have HPB5 : Hid (∀ x ∈ v5.ownBlock.toList, w.heap.size ≤ x) := Lib.hid fun x hx => by
          rcases hv5 with h5 | h5
          · rw [h5] at hx; exact HPB.out x hx
          · rw [h5] at hx; simp at hx; omega
        have c7 : Chg u3.ownBlock.toList wr w5 := (c4.mono (fun x hx => by cases hx)).trans cv5 (fun x hx => .inl hx)
        have hx5 := hx.keep c7 (fun hm => by have := HPB.out _ hm; omega)
        have hch5 : Chg [] w w5 := hch.trans c7 (fun x hx => .inr (HPB.out x hx))
        clear own5 cv5 hv5 hx hch c7 c4 hs5 hc0
        go_wp2_with fail
        go_roundw
        case rel => exact ⟨i + 1, by omega, by go_num, by rw [HID.out]; exact HO5.out, HPB5.out, hx5, hch5⟩
        case measure => simp [intOf]; omega
    · have hin : i = n := by omega
      subst hin
      go_wp2_with fail
      go_ret
      exact ⟨_, rfl, HOWN.out, HPB.out, hch⟩
end Go.Proofs.Ytgdpcpbmjgaliaa
