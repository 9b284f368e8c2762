/-
  commonDenominator.
-/
import Derived.Test.YtnbajendnknejaaLX4
import Derived.Test.YtnbajendnknejaaGJ
namespace Go.Proofs.Ytnbajendnknejaa
open Go.RowKit Nd
theorem den_empty {x : Q3} (h : x.den.toList.isEmpty = true) : (ratOf x).den = 1 := by
  have h1 : x.den = ⟨#[]⟩ := (empty_iff x.den).1 h
  unfold ratOf
  split
  · have : dn x = 1 := by unfold dn; rw [h1]; rfl
    rw [this, sq_int]; exact Rat.den_intCast _
  · rfl
theorem den_bad {x : Q3} (h : okB x = false) : (ratOf x).den = 1 := by unfold ratOf; rw [h]; rfl
theorem den_good {x : Q3} (h : okB x = true) (h2 : x.den.toList.isEmpty = false) : val x.den = (ratOf x).den ∧ Is x.den (ratOf x).den := by
  have e := (ok_enc h).den
  split at e
  · have : x.den = ⟨#[]⟩ := Is_zero.1 e
    rw [(empty_iff x.den).2 this] at h2; cases h2
  · exact ⟨Is_val e, e⟩
theorem lcm_dvd {N d : Nat} (hd : 0 < d) : N ∣ N * (d / Nat.gcd N d) ∧ d ∣ N * (d / Nat.gcd N d) ∧ 0 < d / Nat.gcd N d := by
  have hg : Nat.gcd N d ∣ d := Nat.gcd_dvd_right _ _
  have hg2 : Nat.gcd N d ∣ N := Nat.gcd_dvd_left _ _
  have hp : 0 < Nat.gcd N d := Nat.gcd_pos_of_pos_right _ hd
  refine ⟨Nat.dvd_mul_right _ _, ?_, Nat.div_pos (Nat.le_of_dvd hd hg) hp⟩
  obtain ⟨c, hc⟩ := hg2
  have h1 : d = Nat.gcd N d * (d / Nat.gcd N d) := (Nat.mul_div_cancel' hg).symm
  generalize d / Nat.gcd N d = e at h1 ⊢
  generalize Nat.gcd N d = g at h1 hc
  rw [h1, hc]
  exact ⟨c, by rw [Nat.mul_assoc, Nat.mul_assoc, Nat.mul_comm c e]⟩

set_option maxRecDepth 20000 in
set_option maxHeartbeats 4000000 in
theorem commonDen_any (xs : List Q3) (m k : Nat) (A : Option Addr) (ca : Nat) (w : World) (hl : xs.length = m) (hf : ∀ j, j < m → fits (xs.getD j q0) k) (hk : 1 ≤ k) (hm : m ≤ 1000000) (hkm : 1 + m * k ≤ 34359738367) (hx : Rds w A xs) :
    Calls Try.prog 106 #[.slice A m ca] w fun e w' => ∃ (s : ByteArray) (N : Nat), e = .returned (.agg #[.bool false, .string s, .string ⟨#[]⟩]) ∧ Is s N ∧ 0 < N ∧ N < 256 ^ (1 + m * k) ∧ (∀ j, j < m → (ratOf (xs.getD j q0)).den ∣ N) ∧ Chg [] w w' := by
  have HFT := Lib.hid hf
  clear hf
  have b1 := Blk3.alloc w (.bool false) (.string ⟨#[]⟩) (.string ⟨#[]⟩) 49
  have hch : Chg [] w (w.alloc (.cells #[.bool false, .string ⟨#[]⟩, .string ⟨#[]⟩] 49)) := (Chg.refl _ _).alloc _
  replace hx := hx.keep0 hch
  have i1s : Is ⟨#[1]⟩ 1 := Is_one.2 rfl
  go_enter Try.func106, Try.ntmps106
  go_wp2_with fail
  go_loopw [3, 11] (fun sv iv wr => ∃ (i : Nat) (s : ByteArray) (N : Nat), i ≤ m ∧ iv = .int .i64 i ∧ sv = .string s ∧ Is s N ∧ 0 < N ∧ N < 256 ^ (1 + i * k) ∧ (∀ j, j < i → (ratOf (xs.getD j q0)).den ∣ N) ∧ Rds wr A xs ∧ Blk3 wr w.heap.size (.bool false) (.string ⟨#[]⟩) (.string ⟨#[]⟩) ∧ Chg [] w wr) (fun _ iv _ => m - (intOf iv).toNat)
  case atStart => exact ⟨0, _, 1, Nat.zero_le _, rfl, rfl, i1s, by omega, by simp, fun j h => absurd h (by omega), hx, b1, hch⟩
  case round =>
    clear hx b1 hch i1s
    obtain ⟨i, s, N, hi, rfl, rfl, hs, hN, hNl, hdv, hx, b1, hch⟩ := hrel
    have HDV := Lib.hid hdv
    have HNL := Lib.hid hNl
    have hik : i * k ≤ m * k := Nat.mul_le_mul_right k hi
    have hsz : s.size ≤ 1 + i * k := Is_size hs _ hNl
    clear hdv hNl
    by_cases hlt : i < m
    · obtain ⟨ga, oa, rfl, hga⟩ := hx.form (by omega)
      have e1 := hx.el (j := i) (by omega)
      have hfi := HFT.out i hlt
      obtain ⟨x, HX⟩ := name_it (xs.getD i q0)
      rw [HX.out] at e1 hfi
      have x0 := e1.a
      have x1 := e1.b
      have x2 := e1.c
      have j1 : (0 : Int) ≤ (i : Int) := by omega
      have j2 : (i : Int) < (m : Int) := by omega
      have hf1 := hfi.1
      have hf2 := hfi.2
      have hkb : k ≤ m * k := Nat.le_mul_of_pos_left _ (by omega)
      have b2 := Blk3.alloc wr (.bool x.neg) (.string x.num) (.string x.den) 49
      have c2 : Chg [] wr (wr.alloc (.cells #[.bool x.neg, .string x.num, .string x.den] 49)) := (Chg.refl _ _).alloc _
      have hnl2 : 256 ^ (1 + i * k) ≤ 256 ^ (1 + (i + 1) * k) := Nat.pow_le_pow_right (by omega) (by rw [Nat.add_mul]; omega)
      have HNL2 := Lib.hid hnl2
      clear e1 hnl2
      cases hem : x.den.toList.isEmpty
      · have HEM := Lib.hid hem
        go_wp2_with fail
        refine (Valid_any x _ (by omega) (by omega)).mono ?_
        rintro e w1 ⟨rfl, c1⟩
        replace b2 := b2.keep c1 (by simp)
        replace b1 := b1.keep (c2.then c1) (by simp)
        replace hx := hx.keep0 (c2.then c1)
        replace hch := hch.then (c2.then c1)
        clear c1 c2 x0 x1 x2
        cases hok : okB x
        · have HOK := Lib.hid hok
          clear hok
          have HD2 : Hid (∀ j, j < i + 1 → (ratOf (xs.getD j q0)).den ∣ N) := Lib.hid (all_succ HDV.out (by rw [HX.out, den_bad HOK.out]; exact Nat.one_dvd _))
          go_wp2_with fail
          go_roundw
          case rel => exact ⟨i + 1, s, N, by omega, by go_num, rfl, hs, hN, Nat.lt_of_lt_of_le HNL.out HNL2.out, HD2.out, hx, b1, hch⟩
          case measure => simp [intOf]; omega
        · have hdg := den_good hok HEM.out
          have HOK := Lib.hid hok
          clear hok hem
          obtain ⟨d, HD⟩ := name_it (ratOf x).den
          rw [HD.out] at hdg
          have hd0 : 0 < d := by rw [← HD.out]; exact (ratOf x).den_pos
          have hdl : d < 256 ^ k := by rw [← hdg.1]; exact Nat.lt_of_lt_of_le (val_lt _) (Nat.pow_le_pow_right (by omega) hf2)
          have hvd := Lib.hid hdg.1
          clear hdg
          have b2c0 := b2.c0
          have b2c1 := b2.c1
          have b2c2 := b2.c2
          have b2f0 := b2.f0
          have b2f1 := b2.f1
          have b2f2 := b2.f2
          have b2l := b2.lt
          go_wp2_with fail
          clear b2c0 b2f0 b2c1 b2f1 b2c2 b2f2 b2l
          obtain ⟨w8, HW8⟩ := name_it w1
          rw [HW8.out] at b1 b2 hx hch ⊢
          replace b1 := b1.keep ((Chg.refl [] _).drew) (by simp)
          replace b2 := b2.keep ((Chg.refl [] _).drew) (by simp)
          try replace hx := hx.keep0 ((Chg.refl [] _).drew)
          replace hch := hch.drew
          go_region_held3 (fun w' => w'.cell? ⟨wr.heap.size, 0, none⟩ = some (.bool x.neg) ∧ w'.cell? ⟨wr.heap.size, 1, none⟩ = some (.string x.num) ∧ w'.cell? ⟨wr.heap.size, 2, none⟩ = some (.string x.den)) (first | exact ⟨b2.c0, b2.c1, b2.c2⟩ | exact ⟨by simp [go_sem, b2.c0], by simp [go_sem, b2.c1], by simp [go_sem, b2.c2]⟩) (first
              | (go_at_call 125
                 (with_reducible refine (GCD_any s x.den _ (by omega) (by omega)).mono ?_)
                 rintro e w1 ⟨g, rfl, hg, c1⟩
                 replace b1 := b1.keep c1 (by simp)
                 replace b2 := b2.keep c1 (by simp)
                 try replace hx := hx.keep0 c1
                 replace hch := hch.then c1
                 rw [Is_val hs, hvd.out] at hg
                 clear c1)
              | (go_at_call 103
                 (with_reducible refine (Divide_any x.den g _ (by omega) (by have := Is_size hg k (Nat.lt_of_le_of_lt (Nat.gcd_le_right _ hd0) hdl); omega) (by rw [Is_val hg]; have := Nat.gcd_pos_of_pos_right N hd0; omega)).mono ?_)
                 rintro e w1 ⟨qq, rr, rfl, hq, _, c1⟩
                 replace b1 := b1.keep c1 (by simp)
                 replace b2 := b2.keep c1 (by simp)
                 try replace hx := hx.keep0 c1
                 replace hch := hch.then c1
                 rw [hvd.out, Is_val hg] at hq
                 clear c1))
          all_goals
            have hql : d / Nat.gcd N d < 256 ^ k := Nat.lt_of_le_of_lt (Nat.div_le_self _ _) hdl
            have zq := Is_size hq k hql
            go_wp2_with fail
            refine (multiply_any s qq _ (by omega) (by omega)).mono ?_
            rintro e w5 ⟨s2, rfl, hs2, c1⟩
            rw [Is_val hs, Is_val hq] at hs2
            replace b1 := b1.keep c1 (by simp)
            replace hx := hx.keep0 c1
            replace hch := hch.then c1
            have hld := lcm_dvd (N := N) hd0
            have HD2 : Hid (∀ j, j < i + 1 → (ratOf (xs.getD j q0)).den ∣ N * (d / Nat.gcd N d)) := Lib.hid (all_succ (fun j hj => Nat.dvd_trans (HDV.out j hj) hld.1) (by rw [HX.out, HD.out]; exact hld.2.1))
            have HN2 : Hid (0 < N * (d / Nat.gcd N d)) := Lib.hid (Nat.mul_pos hN hld.2.2)
            have HL2 : Hid (N * (d / Nat.gcd N d) < 256 ^ (1 + (i + 1) * k)) := by
              show _ < _
              rw [show 1 + (i + 1) * k = (1 + i * k) + k by rw [Nat.add_mul]; omega]
              exact mul_lt_pow HNL.out hql
            clear hld hql hq hg c1
            go_wp2_with fail
            go_roundw
            case rel => exact ⟨i + 1, s2, _, by omega, by go_num, rfl, hs2, HN2.out, HL2.out, HD2.out, hx, b1, hch⟩
            case measure => simp [intOf]; omega
      · have HEM := Lib.hid hem
        have HD2 : Hid (∀ j, j < i + 1 → (ratOf (xs.getD j q0)).den ∣ N) := Lib.hid (all_succ HDV.out (by rw [HX.out, den_empty HEM.out]; exact Nat.one_dvd _))
        go_wp2_with fail
        replace b1 := b1.keep c2 (by simp)
        replace hx := hx.keep0 c2
        replace hch := hch.then c2
        go_roundw
        case rel => exact ⟨i + 1, s, N, by omega, by go_num, rfl, hs, hN, Nat.lt_of_lt_of_le HNL.out HNL2.out, HD2.out, hx, b1, hch⟩
        case measure => simp [intOf]; omega
    · obtain rfl : i = m := by omega
      have b1c0 := b1.c0
      have b1c1 := b1.c1
      have b1c2 := b1.c2
      have b1f0 := b1.f0
      have b1f1 := b1.f1
      have b1f2 := b1.f2
      have b1l := b1.lt
      go_wp2_with fail
      have S := b1.store (.bool false) (.string s) (.string ⟨#[]⟩)
      exact bodyPost_ret (v := .agg #[.bool false, .string s, .string ⟨#[]⟩]) (by simp [results, Try.results106, go_sem, S.c0, S.c1, S.c2]) rfl ⟨s, N, rfl, hs, hN, HNL.out, HDV.out, hch.store3 (.inr (Nat.le_refl _)) _ _ _⟩

end Go.Proofs.Ytnbajendnknejaa
