/-
  Law: Forms.
-/
import Derived.Test.YtlhmimbooampdaaGreatDoorLA1
import Derived.Test.YtlhmimbooampdaaGreatDoorLA5
import Derived.Test.YtlhmimbooampdaaGreatDoorV20
import Derived.Test.YtlhmimbooampdaaGreatDoorGI
import Derived.Test.YtlhmimbooampdaaGreatDoorGG
import Derived.IntWalk
namespace Go.Proofs.YtlhmimbooampdaaGreatDoor
open Go.RowKit Nd
theorem ofRep (n : Nat) : (strOf (List.replicate n 48)).data.toList = List.replicate n 48 := by rw [strOf_list]; simp [ofNums]
theorem set_rep {n i : Nat} (h : i < n) : (List.replicate i 48 ++ List.replicate (n - i) 0).set i 48 = List.replicate (i + 1) 48 ++ List.replicate (n - (i + 1)) 0 := by
  rw [List.set_append_right _ _ (by simp)]
  obtain ⟨k, hk⟩ : ∃ k, n - i = k + 1 := ⟨n - i - 1, by omega⟩
  rw [List.length_replicate, Nat.sub_self, hk, List.replicate_succ, List.set_cons_zero, List.replicate_succ' (n := i), show n - (i + 1) = k by omega]
  simp
theorem dot_bd {a b T : Nat} (ha : a < 4294967296) (hb : b < 4294967296) (h : T ≤ 10 ^ 10) : b + T * a < 256 ^ 16 := by
  have h1 : T * a ≤ 10 ^ 10 * 4294967296 := Nat.mul_le_mul h (by omega)
  have h2 : 10 ^ 10 * 4294967296 + 4294967296 < 256 ^ 16 := by decide
  omega
theorem int_bd {a : Nat} (h : a < 4294967296) : Bd 8 ((a : Int) : Rat) := bd_int (by omega) (by omega)
set_option maxRecDepth 20000 in
set_option maxHeartbeats 8000000 in
theorem lforms_nat (a b c : Nat) (w : World) (ha : a < 4294967296) (hb : b < 4294967296) (_hc : c < 65536) :
    Calls Tryz.prog 4 #[.int .u32 a, .int .u32 b, .int .u16 c] w fun e w' => e = .returned (.bool true) ∧ Chg [] w w' := by
  obtain ⟨i0, hi, hz0, hz1, hz2⟩ := info_parts Tryz.info8
  obtain ⟨n, HN⟩ := name_it (1998 + c % 5)
  have hn : n ≤ 2002 := by have := HN.out; omega
  have hn1 : 1 ≤ n := by have := HN.out; omega
  have hcn : Hid ((1998 : Int) + (c : Int) % 5 = (n : Int)) := by show _ = _; have := HN.out; omega
  have hch : Chg [] w w := Chg.refl _ _
  go_enter Tryz.func4, Tryz.ntmps4
  go_wp2_with fail
  refine (rfromUint_any a _ (by omega)).mono ?_
  rintro e w1 ⟨s, rfl, hs, c1⟩
  replace hch := hch.then c1
  clear c1
  have zs : s.size ≤ 8 := Is_size hs 8 (by omega)
  go_wp2_with fail
  refine (natFormat_any s _ (by omega)).mono ?_
  rintro e w1 ⟨x, rfl, hx, c1⟩
  replace hch := hch.then c1
  clear c1
  rw [Is_val hs] at hx
  have HX := Lib.hid (decL_of hx)
  have zx : x.size ≤ 24 := dec_size hx (k := 8) (by omega) (by omega)
  clear hs hx zs
  go_wp2_with fail
  refine (rfromUint_any b _ (by omega)).mono ?_
  rintro e w1 ⟨s, rfl, hs, c1⟩
  replace hch := hch.then c1
  clear c1
  have zs : s.size ≤ 8 := Is_size hs 8 (by omega)
  go_wp2_with fail
  refine (natFormat_any s _ (by omega)).mono ?_
  rintro e w1 ⟨y, rfl, hy, c1⟩
  replace hch := hch.then c1
  clear c1
  rw [Is_val hs] at hy
  have HY := Lib.hid (decL_of hy)
  have zy : y.size ≤ 24 := dec_size hy (k := 8) (by omega) (by omega)
  clear hs hy zs
  go_wp2_with fail
  obtain ⟨s1, Hs1⟩ := name_it ((x ++ ⟨#[47]⟩) ++ y)
  have Ls1 : Hid (s1.data.toList = decL a ++ 47 :: decL b) := by
    show _ = _
    rw [← Hs1.out]; simp only [app_list, HX.out, HY.out]; simp
  have Zs1 : s1.size ≤ 60 := by
    rw [← Hs1.out]; simp only [ByteArray.size_append]; have : (⟨#[47]⟩ : ByteArray).size = 1 := rfl; have : (⟨#[45]⟩ : ByteArray).size = 1 := rfl; have : (⟨#[46]⟩ : ByteArray).size = 1 := rfl; omega
  rw [Hs1.out]
  obtain ⟨e1, E1⟩ := name_it (parseP s1.data.toList).1
  obtain ⟨q1, Q1⟩ := name_it (parseP s1.data.toList).2
  refine (Parse_any s1 _ (by omega)).mono ?_
  rintro e w1 ⟨z1, rfl, h1, c1⟩
  rw [E1.out]
  rw [Q1.out] at h1
  replace hch := hch.then c1
  clear c1
  have b1 := Blk3.alloc w1 (.bool z1.neg) (.string z1.num) (.string z1.den) 27
  replace hch := hch.then ((Chg.refl [] _).alloc (.cells #[.bool z1.neg, .string z1.num, .string z1.den] 27))
  obtain ⟨gb1, Gb1⟩ := name_it w1.heap.size
  rw [Gb1.out] at b1
  have hgb1 := Gb1.out
  obtain ⟨wb1, HWb1⟩ := name_it (w1.alloc (.cells #[.bool z1.neg, .string z1.num, .string z1.den] 27))
  rw [HWb1.out] at b1 hch
  have b1c0 := b1.c0
  have b1c1 := b1.c1
  have b1c2 := b1.c2
  have b1f0 := b1.f0
  have b1f1 := b1.f1
  have b1f2 := b1.f2
  have b1l := b1.lt
  rw [← HWb1.out] at b1c0 b1f0 b1c1 b1f1 b1c2 b1f2 b1l
  go_wp2_with fail
  clear b1c0 b1f0 b1c1 b1f1 b1c2 b1f2 b1l
  obtain ⟨s2, Hs2⟩ := name_it (((⟨#[45]⟩ ++ x) ++ ⟨#[46]⟩) ++ y)
  have Ls2 : Hid (s2.data.toList = 45 :: (decL a ++ 46 :: decL b)) := by
    show _ = _
    rw [← Hs2.out]; simp only [app_list, HX.out, HY.out]; simp
  have Zs2 : s2.size ≤ 60 := by
    rw [← Hs2.out]; simp only [ByteArray.size_append]; have : (⟨#[47]⟩ : ByteArray).size = 1 := rfl; have : (⟨#[45]⟩ : ByteArray).size = 1 := rfl; have : (⟨#[46]⟩ : ByteArray).size = 1 := rfl; omega
  rw [Hs2.out]
  obtain ⟨e2, E2⟩ := name_it (parseP s2.data.toList).1
  obtain ⟨q2, Q2⟩ := name_it (parseP s2.data.toList).2
  refine (Parse_any s2 _ (by omega)).mono ?_
  rintro e w1 ⟨z2, rfl, h2, c1⟩
  rw [E2.out]
  rw [Q2.out] at h2
  rw [HWb1.out] at c1
  replace b1 := b1.keep c1 (by simp)
  replace hch := hch.then c1
  clear c1
  have b2 := Blk3.alloc w1 (.bool z2.neg) (.string z2.num) (.string z2.den) 27
  replace b1 := b1.keep ((Chg.refl [] _).alloc (.cells #[.bool z2.neg, .string z2.num, .string z2.den] 27)) (by simp)
  replace hch := hch.then ((Chg.refl [] _).alloc (.cells #[.bool z2.neg, .string z2.num, .string z2.den] 27))
  obtain ⟨gb2, Gb2⟩ := name_it w1.heap.size
  rw [Gb2.out] at b2
  have hgb2 := Gb2.out
  obtain ⟨wb2, HWb2⟩ := name_it (w1.alloc (.cells #[.bool z2.neg, .string z2.num, .string z2.den] 27))
  rw [HWb2.out] at b1 b2 hch
  go_upto_region 6 with fail
  rw [HWb2.out]
  go_wp2_with (at_make; refine wpList_make_cap _ rfl (.tmp 47) (.tmp 47) 38 rfl 5 i0 .u8 Tryz.underlying38 hi hz0 hz1 .i64 .i64 _ _ n n rfl rfl (by have := HN.out; omega) (by have := HN.out; omega) (Nat.le_refl _) (by rw [hz2]; omega) (by omega) ?_)
  intro w3 hrow hmk
  have l1 := b1.lt
  have l2 := b2.lt
  have hchb := hch
  replace b1 := b1.keep hmk (by simp)
  replace b2 := b2.keep hmk (by simp)
  replace hch := hch.then hmk
  obtain ⟨g, HG⟩ := name_it wb2.heap.size
  rw [HG.out] at hrow l1 l2 ⊢
  have hgw : w.heap.size ≤ g := by rw [← HG.out]; exact hchb.size
  rw [hcn.out]
  clear hi hz0 hz1 hz2 hmk hchb
  go_wp2_with fail
  go_loopw [51] (fun iv wr => ∃ (i : Nat) (M : List Nat), i ≤ n ∧ iv = .int .i64 i ∧ M = List.replicate i 48 ++ List.replicate (n - i) 0 ∧ Row 5 .u8 wr g n M ∧ Blk3 wr gb1 (.bool z1.neg) (.string z1.num) (.string z1.den) ∧ Blk3 wr gb2 (.bool z2.neg) (.string z2.num) (.string z2.den) ∧ Chg [] w wr) (fun iv _ => n - (intOf iv).toNat)
  case atStart => exact ⟨0, _, Nat.zero_le _, rfl, by simp, hrow, b1, b2, hch⟩
  case round =>
    clear hrow b1 b2 hch
    obtain ⟨i, M, hin, rfl, hM, hr, b1, b2, hch⟩ := hrel
    have hML : M.length = n := by rw [hM]; simp; omega
    have HM := Lib.hid hM
    clear hM
    by_cases hlt : i < n
    · have hc := hr.cell i (by omega)
      have hf1 := hr.frozen i
      obtain ⟨old, HO⟩ := name_it (M.getD i 0)
      rw [HO.out] at hc
      have HS := Lib.hid (set_rep hlt)
      go_wp2_with fail
      go_roundw
      case rel => exact ⟨i + 1, _, by omega, by go_num, (by rw [HM.out]; exact HS.out), hr.store i 48, b1.keep ((Chg.refl [g] _).setCell (.inl (by simp)) _) (by simp; omega), b2.keep ((Chg.refl [g] _).setCell (.inl (by simp)) _) (by simp; omega), hch.setCell (.inr hgw) _⟩
      case measure => simp [intOf]; omega
    · obtain rfl : n = i := by omega
      have hMr : M = List.replicate n 48 := by rw [HM.out]; simp
      clear HM
      subst hMr
      have hstr := run_str hr
      rw [List.length_replicate] at hstr
      obtain ⟨t, HT⟩ := name_it (strOf (List.replicate n 48))
      rw [HT.out] at hstr
      have LT : Hid (t.data.toList = List.replicate n 48) := by show _ = _; rw [← HT.out]; exact ofRep n
      have zt : t.size ≤ 2002 := by rw [← size_len, LT.out]; simpa using hn
      have b1c0 := b1.c0
      have b1c1 := b1.c1
      have b1c2 := b1.c2
      have b1f0 := b1.f0
      have b1f1 := b1.f1
      have b1f2 := b1.f2
      have b1l := b1.lt
      have b2c0 := b2.c0
      have b2c1 := b2.c1
      have b2c2 := b2.c2
      have b2f0 := b2.f0
      have b2f1 := b2.f1
      have b2f2 := b2.f2
      have b2l := b2.lt
      go_wp2_with fail
      clear b1c0 b1f0 b1c1 b1f1 b1c2 b1f2 b1l b2c0 b2f0 b2c1 b2f1 b2c2 b2f2 b2l
      obtain ⟨s3, Hs3⟩ := name_it (⟨#[49, 46]⟩ ++ t : ByteArray)
      have Ls3 : Hid (s3.data.toList = 49 :: 46 :: List.replicate n 48) := by
        show _ = _
        rw [← Hs3.out, app_list, LT.out]; rfl
      have Zs3 : s3.size ≤ 3000 := by
        rw [← Hs3.out, ByteArray.size_append]; have : (⟨#[49, 46]⟩ : ByteArray).size = 2 := rfl; omega
      rw [Hs3.out]
      clear hstr hr
      obtain ⟨e3, E3⟩ := name_it (parseP s3.data.toList).1
      obtain ⟨q3, Q3⟩ := name_it (parseP s3.data.toList).2
      refine (Parse_any s3 _ (by omega)).mono ?_
      rintro e w1 ⟨z3, rfl, h3, c1⟩
      rw [E3.out]
      rw [Q3.out] at h3
      replace b1 := b1.keep c1 (by simp)
      replace b2 := b2.keep c1 (by simp)
      replace hch := hch.then c1
      clear c1
      have b3 := Blk3.alloc w1 (.bool z3.neg) (.string z3.num) (.string z3.den) 27
      replace b1 := b1.keep ((Chg.refl [] _).alloc (.cells #[.bool z3.neg, .string z3.num, .string z3.den] 27)) (by simp)
      replace b2 := b2.keep ((Chg.refl [] _).alloc (.cells #[.bool z3.neg, .string z3.num, .string z3.den] 27)) (by simp)
      replace hch := hch.then ((Chg.refl [] _).alloc (.cells #[.bool z3.neg, .string z3.num, .string z3.den] 27))
      obtain ⟨gb3, Gb3⟩ := name_it w1.heap.size
      rw [Gb3.out] at b3
      have hgb3 := Gb3.out
      obtain ⟨wb3, HWb3⟩ := name_it (w1.alloc (.cells #[.bool z3.neg, .string z3.num, .string z3.den] 27))
      rw [HWb3.out] at b1 b2 b3 hch
      go_upto_region 13 with fail
      rw [HWb3.out]
      have P2 := Lib.hid (forms_dot a b (by have := dec32 ha; omega) (by have := dec32 hb; omega))
      have he2 : e2 = 0 := by rw [← E2.out, Ls2.out, P2.out]
      subst he2
      have hq2 : Hid (q2 = sq true (b + 10 ^ (decL b).length * a) (10 ^ (decL b).length)) := by show _ = _; rw [← Q2.out, Ls2.out, P2.out]
      have low := Lib.hid (forms_low a b (t := 10 ^ (decL b).length) (Nat.ne_of_gt (Nat.pow_pos (by omega))))
      rw [← hq2.out] at low
      have ht10 : 10 ^ (decL b).length ≤ 10 ^ 10 := Nat.pow_le_pow_right (by omega) (dec32 hb)
      have ht16 : 10 ^ (decL b).length < 256 ^ 16 := Nat.lt_of_le_of_lt ht10 (by decide)
      have v2 : Val z2 q2 16 := ⟨h2, by rw [hq2.out]; exact bd32 (Nat.ne_of_gt (Nat.pow_pos (by omega))) (dot_bd ha hb ht10) ht16⟩
      clear ht10 ht16 h2 P2 hq2
      rcases Nat.eq_zero_or_pos b with hb0 | hb0
      · subst hb0
        have P1 := Lib.hid (forms_zero a (by have := dec32 ha; omega))
        have he1 : e1 = 1 := by rw [← E1.out, Ls1.out, P1.out]
        subst he1
        have hq1 : q1 = 0 := by rw [← Q1.out, Ls1.out, P1.out]
        rw [hq1] at h1
        obtain rfl := h1.unique Enc_zero
        clear h1 P1
        have b1c0 := b1.c0
        have b1c1 := b1.c1
        have b1c2 := b1.c2
        have b1f0 := b1.f0
        have b1f1 := b1.f1
        have b1f2 := b1.f2
        have b1l := b1.lt
        have b2c0 := b2.c0
        have b2c1 := b2.c1
        have b2c2 := b2.c2
        have b2f0 := b2.f0
        have b2f1 := b2.f1
        have b2f2 := b2.f2
        have b2l := b2.lt
        have b3c0 := b3.c0
        have b3c1 := b3.c1
        have b3c2 := b3.c2
        have b3f0 := b3.f0
        have b3f1 := b3.f1
        have b3f2 := b3.f2
        have b3l := b3.lt
        go_wp2_with fail
        clear b1c0 b1f0 b1c1 b1f1 b1c2 b1f2 b1l b2c0 b2f0 b2c1 b2f1 b2c2 b2f2 b2l b3c0 b3f0 b3c1 b3f1 b3c2 b3f2 b3l
        rcases sg_np low.out.1 with hg | hg
        all_goals
          refine (SignN z2 q2 16 _ v2.num (by omega)).mono ?_
          rintro e w4 ⟨rfl, c1⟩
          rw [hg]
          replace b1 := b1.keep c1 (by simp)
          replace b2 := b2.keep c1 (by simp)
          replace b3 := b3.keep c1 (by simp)
          replace hch := hch.then c1
          clear c1
          have b1c0 := b1.c0
          have b1c1 := b1.c1
          have b1c2 := b1.c2
          have b1f0 := b1.f0
          have b1f1 := b1.f1
          have b1f2 := b1.f2
          have b1l := b1.lt
          have b2c0 := b2.c0
          have b2c1 := b2.c1
          have b2c2 := b2.c2
          have b2f0 := b2.f0
          have b2f1 := b2.f1
          have b2f2 := b2.f2
          have b2l := b2.lt
          have b3c0 := b3.c0
          have b3c1 := b3.c1
          have b3c2 := b3.c2
          have b3f0 := b3.f0
          have b3f1 := b3.f1
          have b3f2 := b3.f2
          have b3l := b3.lt
          go_wp2_with fail
          clear b1c0 b1f0 b1c1 b1f1 b1c2 b1f2 b1l b2c0 b2f0 b2c1 b2f1 b2c2 b2f2 b2l b3c0 b3f0 b3c1 b3f1 b3c2 b3f2 b3l
          refine (NegateN z2 q2 16 _ v2.num (by omega)).mono ?_
          rintro e w5 ⟨u, rfl, hu, c1⟩
          replace b1 := b1.keep c1 (by simp)
          replace b2 := b2.keep c1 (by simp)
          replace b3 := b3.keep c1 (by simp)
          replace hch := hch.then c1
          clear c1
          go_wp2_with fail
          refine (IntN a _ (by omega) (by omega)).mono ?_
          rintro e w6 ⟨v, rfl, hv, c1⟩
          replace b1 := b1.keep c1 (by simp)
          replace b2 := b2.keep c1 (by simp)
          replace b3 := b3.keep c1 (by simp)
          replace hch := hch.then c1
          clear c1
          go_wp2_with fail
          refine (CompareN u v (-q2) ((a : Int) : Rat) 16 8 _ hu.num hv.num (by omega)).mono ?_
          rintro e w7 ⟨rfl, c1⟩
          replace b1 := b1.keep c1 (by simp)
          replace b2 := b2.keep c1 (by simp)
          replace b3 := b3.keep c1 (by simp)
          replace hch := hch.then c1
          clear c1 hu hv hg
          rcases qo_ge low.out.2 with hg | hg
          all_goals
            rw [hg]
            clear hg
            by_cases hbig : 2000 < n
            · have P3 := Lib.hid (forms_long hbig)
              have he3 : e3 = 2 := by rw [← E3.out, Ls3.out, P3.out]
              subst he3
              have hq3 : q3 = 0 := by rw [← Q3.out, Ls3.out, P3.out]
              rw [hq3] at h3
              obtain rfl := h3.unique Enc_zero
              clear h3 P3
              go_wp2_with fail
              refine (awake2_any _).mono ?_
              rintro e w8 ⟨rfl, c1⟩
              replace b1 := b1.keep c1 (by simp)
              replace b2 := b2.keep c1 (by simp)
              replace b3 := b3.keep c1 (by simp)
              replace hch := hch.then c1
              clear c1
              have b1c0 := b1.c0
              have b1c1 := b1.c1
              have b1c2 := b1.c2
              have b1f0 := b1.f0
              have b1f1 := b1.f1
              have b1f2 := b1.f2
              have b1l := b1.lt
              have b2c0 := b2.c0
              have b2c1 := b2.c1
              have b2c2 := b2.c2
              have b2f0 := b2.f0
              have b2f1 := b2.f1
              have b2f2 := b2.f2
              have b2l := b2.lt
              have b3c0 := b3.c0
              have b3c1 := b3.c1
              have b3c2 := b3.c2
              have b3f0 := b3.f0
              have b3f1 := b3.f1
              have b3f2 := b3.f2
              have b3l := b3.lt
              go_wp2_with fail
              go_ret
              exact ⟨ret_eq (by simp), hch⟩
            · have P3 := Lib.hid (forms_ones hn1 (by omega : n ≤ 2000))
              have he3 : e3 = 0 := by rw [← E3.out, Ls3.out, P3.out]
              subst he3
              have hq3 : q3 = ((1 : Int) : Rat) := by rw [← Q3.out, Ls3.out, P3.out]
              rw [hq3] at h3
              clear hq3 P3
              go_upto_region 22 with fail
              obtain ⟨w9, HW9⟩ := name_it w7
              rw [HW9.out] at b1 b2 b3 hch ⊢
              replace b1 := b1.keep ((Chg.refl [] _).drew) (by simp)
              replace b2 := b2.keep ((Chg.refl [] _).drew) (by simp)
              replace b3 := b3.keep ((Chg.refl [] _).drew) (by simp)
              replace hch := hch.drew
              go_region_held3 (fun w' => w'.cell? ⟨gb3, 0, none⟩ = some (.bool z3.neg) ∧ w'.cell? ⟨gb3, 1, none⟩ = some (.string z3.num) ∧ w'.cell? ⟨gb3, 2, none⟩ = some (.string z3.den)) (first | exact ⟨b3.c0, b3.c1, b3.c2⟩ | exact ⟨by simp [go_sem, b3.c0], by simp [go_sem, b3.c1], by simp [go_sem, b3.c2]⟩) (first
                  | (go_at_call 8
                     (with_reducible refine (awake2_any _).mono ?_)
                     rintro e w1 ⟨rfl, c1⟩
                     replace b1 := b1.keep c1 (by simp)
                     replace b2 := b2.keep c1 (by simp)
                     replace b3 := b3.keep c1 (by simp)
                     replace hch := hch.then c1
                     clear c1)
                  | (go_at_call 17
                     (with_reducible refine (IntN 1 _ (by omega) (by omega)).mono ?_)
                     rintro e w1 ⟨t1, rfl, ht1, c1⟩
                     replace b1 := b1.keep c1 (by simp)
                     replace b2 := b2.keep c1 (by simp)
                     replace b3 := b3.keep c1 (by simp)
                     replace hch := hch.then c1
                     obtain rfl := h3.unique ht1.enc
                     clear c1))
              all_goals
                go_wp2_with fail
                go_ret
                exact ⟨ret_eq (by simp), hch⟩
      · have hbn : b ≠ 0 := by omega
        have P1 := Lib.hid (forms_quo a b (by have := dec32 ha; omega) (by have := dec32 hb; omega) hbn)
        have he1 : e1 = 0 := by rw [← E1.out, Ls1.out, P1.out]
        subst he1
        have hq1 : q1 = sq false a b := by rw [← Q1.out, Ls1.out, P1.out]
        rw [hq1] at h1
        have v1 : Val z1 (sq false a b) 8 := ⟨h1, bd32 hbn (by omega) (by omega)⟩
        have TM := Lib.hid (forms_times (a := a) hbn)
        have hbd : decide ((b : Int) = 0) = false := by simpa using hbn
        clear hq1 h1 P1 hbn
        go_upto_region 16 with fail
        clear hbd
        have hbn0 : Hid (b ≠ 0) := by show _ ≠ _; omega
        replace b1 := b1.keep ((Chg.refl [] _).drew) (by simp)
        replace b2 := b2.keep ((Chg.refl [] _).drew) (by simp)
        replace b3 := b3.keep ((Chg.refl [] _).drew) (by simp)
        replace hch := hch.drew
        have wa : IntKind.i64.wrap (a : Int) = (a : Int) := IntWalk.i64_in _ (by omega)
        have wb : IntKind.i64.wrap (b : Int) = (b : Int) := IntWalk.i64_in _ (by omega)
        go_region_held3 (fun w' => w'.cell? ⟨gb1, 0, none⟩ = some (.bool z1.neg) ∧ w'.cell? ⟨gb1, 1, none⟩ = some (.string z1.num) ∧ w'.cell? ⟨gb1, 2, none⟩ = some (.string z1.den)) (first | exact ⟨b1.c0, b1.c1, b1.c2⟩ | exact ⟨by simp [go_sem, b1.c0], by simp [go_sem, b1.c1], by simp [go_sem, b1.c2]⟩) (first
            | (go_at_call 17
               (with_reducible refine (IntN b _ (by omega) (by omega)).mono ?_)
               rintro e w1 ⟨tb, rfl, htb, c1⟩
               replace b1 := b1.keep c1 (by simp)
               replace b2 := b2.keep c1 (by simp)
               replace b3 := b3.keep c1 (by simp)
               replace hch := hch.then c1
               clear c1)
            | (go_at_call 17
               (with_reducible refine (IntN a _ (by omega) (by omega)).mono ?_)
               rintro e w1 ⟨ta, rfl, hta, c1⟩
               replace b1 := b1.keep c1 (by simp)
               replace b2 := b2.keep c1 (by simp)
               replace b3 := b3.keep c1 (by simp)
               replace hch := hch.then c1
               clear c1)
            | (go_at_call 16
               (with_reducible refine (MultiplyN z1 tb (sq false a b) ((b : Int) : Rat) 8 8 _ v1.num htb.num (by omega)).mono ?_)
               rintro e w1 ⟨m, rfl, hm, c1⟩
               replace b1 := b1.keep c1 (by simp)
               replace b2 := b2.keep c1 (by simp)
               replace b3 := b3.keep c1 (by simp)
               replace hch := hch.then c1
               rw [TM.out] at hm
               clear c1)
            | (go_at_call 15
               (with_reducible refine (CompareN m ta ((a : Int) : Rat) ((a : Int) : Rat) 16 8 _ hm.num hta.num (by omega)).mono ?_)
               rintro e w1 ⟨rfl, c1⟩
               replace b1 := b1.keep c1 (by simp)
               replace b2 := b2.keep c1 (by simp)
               replace b3 := b3.keep c1 (by simp)
               replace hch := hch.then c1
               rw [qo_self]
               clear c1))
        all_goals
          clear htb hta hm wa wb
          obtain ⟨wv, HWv⟩ := name_it w1
          rw [HWv.out] at b1 b2 b3 hch ⊢
          have b1c0 := b1.c0
          have b1c1 := b1.c1
          have b1c2 := b1.c2
          have b1f0 := b1.f0
          have b1f1 := b1.f1
          have b1f2 := b1.f2
          have b1l := b1.lt
          have b2c0 := b2.c0
          have b2c1 := b2.c1
          have b2c2 := b2.c2
          have b2f0 := b2.f0
          have b2f1 := b2.f1
          have b2f2 := b2.f2
          have b2l := b2.lt
          have b3c0 := b3.c0
          have b3c1 := b3.c1
          have b3c2 := b3.c2
          have b3f0 := b3.f0
          have b3f1 := b3.f1
          have b3f2 := b3.f2
          have b3l := b3.lt
          go_wp2_with fail
          clear b1c0 b1f0 b1c1 b1f1 b1c2 b1f2 b1l b2c0 b2f0 b2c1 b2f1 b2c2 b2f2 b2l b3c0 b3f0 b3c1 b3f1 b3c2 b3f2 b3l
          rcases sg_np low.out.1 with hg | hg
          all_goals
            refine (SignN z2 q2 16 _ v2.num (by omega)).mono ?_
            rintro e w4 ⟨rfl, c1⟩
            rw [hg]
            replace b1 := b1.keep c1 (by simp)
            replace b2 := b2.keep c1 (by simp)
            replace b3 := b3.keep c1 (by simp)
            replace hch := hch.then c1
            clear c1
            have b1c0 := b1.c0
            have b1c1 := b1.c1
            have b1c2 := b1.c2
            have b1f0 := b1.f0
            have b1f1 := b1.f1
            have b1f2 := b1.f2
            have b1l := b1.lt
            have b2c0 := b2.c0
            have b2c1 := b2.c1
            have b2c2 := b2.c2
            have b2f0 := b2.f0
            have b2f1 := b2.f1
            have b2f2 := b2.f2
            have b2l := b2.lt
            have b3c0 := b3.c0
            have b3c1 := b3.c1
            have b3c2 := b3.c2
            have b3f0 := b3.f0
            have b3f1 := b3.f1
            have b3f2 := b3.f2
            have b3l := b3.lt
            go_wp2_with fail
            clear b1c0 b1f0 b1c1 b1f1 b1c2 b1f2 b1l b2c0 b2f0 b2c1 b2f1 b2c2 b2f2 b2l b3c0 b3f0 b3c1 b3f1 b3c2 b3f2 b3l
            refine (NegateN z2 q2 16 _ v2.num (by omega)).mono ?_
            rintro e w5 ⟨u, rfl, hu, c1⟩
            replace b1 := b1.keep c1 (by simp)
            replace b2 := b2.keep c1 (by simp)
            replace b3 := b3.keep c1 (by simp)
            replace hch := hch.then c1
            clear c1
            go_wp2_with fail
            refine (IntN a _ (by omega) (by omega)).mono ?_
            rintro e w6 ⟨v, rfl, hv, c1⟩
            replace b1 := b1.keep c1 (by simp)
            replace b2 := b2.keep c1 (by simp)
            replace b3 := b3.keep c1 (by simp)
            replace hch := hch.then c1
            clear c1
            go_wp2_with fail
            refine (CompareN u v (-q2) ((a : Int) : Rat) 16 8 _ hu.num hv.num (by omega)).mono ?_
            rintro e w7 ⟨rfl, c1⟩
            replace b1 := b1.keep c1 (by simp)
            replace b2 := b2.keep c1 (by simp)
            replace b3 := b3.keep c1 (by simp)
            replace hch := hch.then c1
            clear c1 hu hv hg
            rcases qo_ge low.out.2 with hg | hg
            all_goals
              rw [hg]
              clear hg
              by_cases hbig : 2000 < n
              · have P3 := Lib.hid (forms_long hbig)
                have he3 : e3 = 2 := by rw [← E3.out, Ls3.out, P3.out]
                subst he3
                have hq3 : q3 = 0 := by rw [← Q3.out, Ls3.out, P3.out]
                rw [hq3] at h3
                obtain rfl := h3.unique Enc_zero
                clear h3 P3
                go_wp2_with fail
                refine (awake2_any _).mono ?_
                rintro e w8 ⟨rfl, c1⟩
                replace b1 := b1.keep c1 (by simp)
                replace b2 := b2.keep c1 (by simp)
                replace b3 := b3.keep c1 (by simp)
                replace hch := hch.then c1
                clear c1
                have b1c0 := b1.c0
                have b1c1 := b1.c1
                have b1c2 := b1.c2
                have b1f0 := b1.f0
                have b1f1 := b1.f1
                have b1f2 := b1.f2
                have b1l := b1.lt
                have b2c0 := b2.c0
                have b2c1 := b2.c1
                have b2c2 := b2.c2
                have b2f0 := b2.f0
                have b2f1 := b2.f1
                have b2f2 := b2.f2
                have b2l := b2.lt
                have b3c0 := b3.c0
                have b3c1 := b3.c1
                have b3c2 := b3.c2
                have b3f0 := b3.f0
                have b3f1 := b3.f1
                have b3f2 := b3.f2
                have b3l := b3.lt
                go_wp2_with fail
                go_ret
                exact ⟨ret_eq (by simp), hch⟩
              · have P3 := Lib.hid (forms_ones hn1 (by omega : n ≤ 2000))
                have he3 : e3 = 0 := by rw [← E3.out, Ls3.out, P3.out]
                subst he3
                have hq3 : q3 = ((1 : Int) : Rat) := by rw [← Q3.out, Ls3.out, P3.out]
                rw [hq3] at h3
                clear hq3 P3
                go_upto_region 22 with fail
                obtain ⟨w9, HW9⟩ := name_it w7
                rw [HW9.out] at b1 b2 b3 hch ⊢
                replace b1 := b1.keep ((Chg.refl [] _).drew) (by simp)
                replace b2 := b2.keep ((Chg.refl [] _).drew) (by simp)
                replace b3 := b3.keep ((Chg.refl [] _).drew) (by simp)
                replace hch := hch.drew
                go_region_held3 (fun w' => w'.cell? ⟨gb3, 0, none⟩ = some (.bool z3.neg) ∧ w'.cell? ⟨gb3, 1, none⟩ = some (.string z3.num) ∧ w'.cell? ⟨gb3, 2, none⟩ = some (.string z3.den)) (first | exact ⟨b3.c0, b3.c1, b3.c2⟩ | exact ⟨by simp [go_sem, b3.c0], by simp [go_sem, b3.c1], by simp [go_sem, b3.c2]⟩) (first
                    | (go_at_call 8
                       (with_reducible refine (awake2_any _).mono ?_)
                       rintro e w1 ⟨rfl, c1⟩
                       replace b1 := b1.keep c1 (by simp)
                       replace b2 := b2.keep c1 (by simp)
                       replace b3 := b3.keep c1 (by simp)
                       replace hch := hch.then c1
                       clear c1)
                    | (go_at_call 17
                       (with_reducible refine (IntN 1 _ (by omega) (by omega)).mono ?_)
                       rintro e w1 ⟨t1, rfl, ht1, c1⟩
                       replace b1 := b1.keep c1 (by simp)
                       replace b2 := b2.keep c1 (by simp)
                       replace b3 := b3.keep c1 (by simp)
                       replace hch := hch.then c1
                       obtain rfl := h3.unique ht1.enc
                       clear c1))
                all_goals
                  go_wp2_with fail
                  go_ret
                  exact ⟨ret_eq (by simp), hch⟩

theorem lforms_any (a b c : Int) (w : World) (ha : (Lit.int .u32 a).wf = true) (hb : (Lit.int .u32 b).wf = true) (hc : (Lit.int .u16 c).wf = true) :
    Calls Tryz.prog 4 #[.int .u32 a, .int .u32 b, .int .u16 c] w fun e w' => e = .returned (.bool true) ∧ Chg [] w w' := by
  have ha2 : 0 ≤ a ∧ a ≤ 4294967295 := by simpa [Lit.wf, IntKind.min, IntKind.max, IntKind.signed, IntKind.bits] using ha
  have hb2 : 0 ≤ b ∧ b ≤ 4294967295 := by simpa [Lit.wf, IntKind.min, IntKind.max, IntKind.signed, IntKind.bits] using hb
  have hc2 : 0 ≤ c ∧ c ≤ 65535 := by simpa [Lit.wf, IntKind.min, IntKind.max, IntKind.signed, IntKind.bits] using hc
  obtain ⟨a, rfl⟩ := Int.eq_ofNat_of_zero_le ha2.1
  obtain ⟨b, rfl⟩ := Int.eq_ofNat_of_zero_le hb2.1
  obtain ⟨c, rfl⟩ := Int.eq_ofNat_of_zero_le hc2.1
  exact lforms_nat a b c w (by omega) (by omega) (by omega)

end Go.Proofs.YtlhmimbooampdaaGreatDoor
