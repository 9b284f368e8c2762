/-
  Law: Truncated.
-/
import Derived.Test.YtlhmimbooampdaaGreatDoorLA1
import Derived.Test.YtlhmimbooampdaaGreatDoorLA5
import Derived.Test.YtlhmimbooampdaaGreatDoorV19
namespace Go.Proofs.YtlhmimbooampdaaGreatDoor
open Go.RowKit Nd
theorem Blk3.st2 {w : World} {g k : Nat} {a b c : Value} (h : Blk3 w g a b c) (hk : g ≠ k) (x y z : Value) : Blk3 (((w.setCell ⟨k, 0, none⟩ x).setCell ⟨k, 1, none⟩ y).setCell ⟨k, 2, none⟩ z) g a b c :=
  h.keep ((Chg.refl [k] w).store3 (.inl (by simp)) x y z) (by simpa using hk)

set_option maxRecDepth 20000 in
set_option maxHeartbeats 8000000 in
theorem ltruncated_any (x : Q3) (c : Int) (w : World) (hc : (Lit.int .u8 c).wf = true) :
    Calls Tryz.prog 5 #[.agg #[.bool x.neg, .string x.num, .string x.den], .int .u8 c] w fun e w' => e = .returned (.bool true) ∧ Chg [] w w' := by
  have hb : 0 ≤ c ∧ c ≤ 255 := by simpa [Lit.wf, IntKind.min, IntKind.max, IntKind.signed, IntKind.bits] using hc
  clear hc
  obtain ⟨m, rfl⟩ := Int.eq_ofNat_of_zero_le hb.1
  obtain ⟨n, HN⟩ := name_it (m % 21)
  have hn : n ≤ 20 := by rw [← HN.out]; omega
  have hmn : Hid (((m : Int) % 21) = (n : Int)) := by show _ = _; have := HN.out; omega
  have u10 : Hid (((10 : Int) : Rat) ≠ 0) := by show _ ≠ _; decide
  have hch : Chg [] w (((w).alloc (.cells #[.bool x.neg, .string x.num, .string x.den] 27)).alloc (.cells #[.bool x.neg, .string x.num, .string x.den] 27)) := (((Chg.refl _ _).alloc _).alloc _)
  have b1 := Blk3.alloc (w) (.bool x.neg) (.string x.num) (.string x.den) 27
  replace b1 := b1.keep ((Chg.refl [] _).alloc (.cells #[.bool x.neg, .string x.num, .string x.den] 27)) (by simp)
  have hr := Rats.one ((w).alloc (.cells #[.bool x.neg, .string x.num, .string x.den] 27)) x 27
  simp only [World.size_alloc] at hr b1
  cases hf : fewQ [x]
  · have HF := Lib.hid hf
    clear hf
    go_enter Tryz.func5, Tryz.ntmps5
    go_wp2_with fail
    refine (few2_any [x] (w.heap.size + 1) 1 _ hr (by simp)).mono ?_
    rintro e w1 ⟨rfl, c1⟩
    rw [HF.out]
    replace hch := hch.then c1
    clear c1
    go_wp2_with fail
    refine (awake2_any _).mono ?_
    rintro e w2 ⟨rfl, c1⟩
    replace hch := hch.then c1
    clear c1
    go_wp2_with fail
    go_ret
    exact ⟨rfl, hch⟩
  · have hss : x.num.size ≤ 24 ∧ x.den.size ≤ 24 := by simpa [fewQ, shortQ] using hf
    have HF := Lib.hid hf
    obtain ⟨sx1, sx2⟩ := hss
    obtain ⟨p, Hp⟩ := name_it (ratOf x)
    have nx : Num x p 24 := ⟨Hp.out, ⟨sx1, sx2⟩, by omega⟩
    clear hf sx1 sx2 Hp
    go_enter Tryz.func5, Tryz.ntmps5
    go_wp2_with fail
    refine (few2_any [x] (w.heap.size + 1) 1 _ hr (by simp)).mono ?_
    rintro e w1 ⟨rfl, c1⟩
    rw [HF.out]
    replace b1 := b1.keep c1 (by simp)
    replace hch := hch.then c1
    clear c1 hr HF
    have b1c0 := b1.c0
    have b1c1 := b1.c1
    have b1c2 := b1.c2
    have b1f0 := b1.f0
    have b1f1 := b1.f1
    have b1f2 := b1.f2
    have b1l := b1.lt
    go_wp2_with fail
    clear b1c0 b1f0 b1c1 b1f1 b1c2 b1f2 b1l
    obtain ⟨w0, HW0⟩ := name_it w1
    rw [HW0.out] at b1 hch ⊢
    refine (IntN 1 _ (by omega) (by omega)).mono ?_
    rintro e w1 ⟨z1, rfl, h1, c1⟩
    replace b1 := b1.keep c1 (by simp)
    replace hch := hch.then c1
    clear c1
    rw [unit_zero] at h1
    have hl12 := b1.lt
    have b2 := Blk3.alloc w1 (.bool z1.neg) (.string z1.num) (.string z1.den) 27
    replace b1 := b1.keep ((Chg.refl [] _).alloc (.cells #[.bool z1.neg, .string z1.num, .string z1.den] 27)) (by simp)
    replace hch := hch.then ((Chg.refl [] _).alloc (.cells #[.bool z1.neg, .string z1.num, .string z1.den] 27))
    obtain ⟨gb2, Gb2⟩ := name_it w1.heap.size
    rw [Gb2.out] at b2
    have hgb2 := Gb2.out
    obtain ⟨wb2, HWb2⟩ := name_it (w1.alloc (.cells #[.bool z1.neg, .string z1.num, .string z1.den] 27))
    rw [HWb2.out] at b1 b2 hch
    rw [hgb2] at hl12
    go_wp2_with fail
    rw [HWb2.out]
    rw [hmn.out]
    go_loopw [7] (fun iv wr => ∃ (i : Nat) (z : Q3), i ≤ n ∧ iv = .int .i64 i ∧ Val z (sq false 1 (10 ^ i)) (8 * (i + 1)) ∧ Blk3 wr w.heap.size (.bool x.neg) (.string x.num) (.string x.den) ∧ Blk3 wr gb2 (.bool z.neg) (.string z.num) (.string z.den) ∧ Chg [] w wr) (fun iv _ => n - (intOf iv).toNat)
    case atStart => exact ⟨0, z1, Nat.zero_le _, rfl, h1, b1, b2, hch⟩
    case round =>
      clear b1 b2 hch h1
      obtain ⟨i, z, hi, rfl, hz, b1, b2, hch⟩ := hrel
      by_cases hlt : i < n
      · have b1c0 := b1.c0
        have b1c1 := b1.c1
        have b1c2 := b1.c2
        have b1f0 := b1.f0
        have b1f1 := b1.f1
        have b1f2 := b1.f2
        have b1l := b1.lt
        have b2c0 := b2.c0
        have b2c1 := b2.c1
        have b2c2 := b2.c2
        have b2f0 := b2.f0
        have b2f1 := b2.f1
        have b2f2 := b2.f2
        have b2l := b2.lt
        go_wp2_with fail
        clear b1c0 b1f0 b1c1 b1f1 b1c2 b1f2 b1l b2c0 b2f0 b2c1 b2f1 b2c2 b2f2 b2l
        replace b1 := b1.keep ((Chg.refl [] _).drew) (by simp)
        replace b2 := b2.keep ((Chg.refl [] _).drew) (by simp)
        replace hch := hch.drew
        have b1c0 := b1.c0
        have b1c1 := b1.c1
        have b1c2 := b1.c2
        have b1f0 := b1.f0
        have b1f1 := b1.f1
        have b1f2 := b1.f2
        have b1l := b1.lt
        have b2c0 := b2.c0
        have b2c1 := b2.c1
        have b2c2 := b2.c2
        have b2f0 := b2.f0
        have b2f1 := b2.f1
        have b2f2 := b2.f2
        have b2l := b2.lt
        go_region_with (first
            | (go_at_call 17
               (with_reducible refine (IntN 10 _ (by omega) (by omega)).mono ?_)
               rintro e w1 ⟨t, rfl, ht, c1⟩
               clear b1c0 b1f0 b1c1 b1f1 b1c2 b1f2 b1l b2c0 b2f0 b2c1 b2f1 b2c2 b2f2 b2l
               replace b1 := b1.keep c1 (by simp)
               replace b2 := b2.keep c1 (by simp)
               replace hch := hch.then c1
               clear c1
               have b1c0 := b1.c0
               have b1f0 := b1.f0
               have b1c1 := b1.c1
               have b1f1 := b1.f1
               have b1c2 := b1.c2
               have b1f2 := b1.f2
               have b1l := b1.lt
               have b2c0 := b2.c0
               have b2f0 := b2.f0
               have b2c1 := b2.c1
               have b2f1 := b2.f1
               have b2c2 := b2.c2
               have b2f2 := b2.f2
               have b2l := b2.lt)
            | (go_at_call 21
               (with_reducible refine (DivideN z t (sq false 1 (10 ^ i)) ((10 : Int) : Rat) (8 * (i + 1)) 8 _ hz.num ht.num u10.out (by omega)).mono ?_)
               rintro e w1 ⟨z2, rfl, hz2, c1⟩
               clear b1c0 b1f0 b1c1 b1f1 b1c2 b1f2 b1l b2c0 b2f0 b2c1 b2f1 b2c2 b2f2 b2l
               replace b1 := b1.keep c1 (by simp)
               replace b2 := b2.keep c1 (by simp)
               replace hch := hch.then c1
               clear c1
               rw [unit_step] at hz2
               have b1c0 := b1.c0
               have b1f0 := b1.f0
               have b1c1 := b1.c1
               have b1f1 := b1.f1
               have b1c2 := b1.c2
               have b1f2 := b1.f2
               have b1l := b1.lt
               have b2c0 := b2.c0
               have b2f0 := b2.f0
               have b2c1 := b2.c1
               have b2f1 := b2.f1
               have b2c2 := b2.c2
               have b2f2 := b2.f2
               have b2l := b2.lt))
        all_goals
          go_wp2_with fail
          go_roundw
          case rel => exact ⟨i + 1, z2, by omega, by go_num, hz2.mono (by omega), b1.st2 (by omega) _ _ _, b2.store _ _ _, hch.store3 (.inr (by omega)) _ _ _⟩
          case measure => simp [intOf]; omega
      · obtain rfl : i = n := by omega
        clear hlt hi
        have b1c0 := b1.c0
        have b1c1 := b1.c1
        have b1c2 := b1.c2
        have b1f0 := b1.f0
        have b1f1 := b1.f1
        have b1f2 := b1.f2
        have b1l := b1.lt
        have b2c0 := b2.c0
        have b2c1 := b2.c1
        have b2c2 := b2.c2
        have b2f0 := b2.f0
        have b2f1 := b2.f1
        have b2f2 := b2.f2
        have b2l := b2.lt
        go_wp2_with fail
        clear b1c0 b1f0 b1c1 b1f1 b1c2 b1f2 b1l b2c0 b2f0 b2c1 b2f1 b2c2 b2f2 b2l
        refine (Decimal_any x i 24 _ nx.fit (by omega) (by omega) (by omega) (by omega)).mono ?_
        rintro e w3 ⟨s, rfl, hs, c1⟩
        replace b1 := b1.keep c1 (by simp)
        replace b2 := b2.keep c1 (by simp)
        replace hch := hch.then c1
        clear c1
        rw [nx.rat, clampP_nat hn] at hs
        have hpd := Lib.hid (parse_dec p i hn (scale_len nx.bd hn (by omega)))
        have hsz : s.size ≤ 2000 := by rw [← size_len, hs]; exact decimalL_len (scale_len nx.bd hn (by omega)) hn
        have HS := Lib.hid hs
        clear hs
        go_wp2_with fail
        refine (Parse_any s _ (by omega)).mono ?_
        rintro e w4 ⟨v, rfl, hv, c1⟩
        replace b1 := b1.keep c1 (by simp)
        replace b2 := b2.keep c1 (by simp)
        replace hch := hch.then c1
        clear c1
        rw [HS.out, hpd.out] at hv ⊢
        have hV : Val v (shown p i) 45 := ⟨hv, shown_bd nx.bd hn⟩
        clear hv HS hpd hsz
        have b3 := Blk3.alloc w4 (.bool v.neg) (.string v.num) (.string v.den) 27
        replace b1 := b1.keep ((Chg.refl [] _).alloc (.cells #[.bool v.neg, .string v.num, .string v.den] 27)) (by simp)
        replace b2 := b2.keep ((Chg.refl [] _).alloc (.cells #[.bool v.neg, .string v.num, .string v.den] 27)) (by simp)
        replace hch := hch.then ((Chg.refl [] _).alloc (.cells #[.bool v.neg, .string v.num, .string v.den] 27))
        obtain ⟨gb3, Gb3⟩ := name_it w4.heap.size
        rw [Gb3.out] at b3
        have hgb3 := Gb3.out
        obtain ⟨wb3, HWb3⟩ := name_it (w4.alloc (.cells #[.bool v.neg, .string v.num, .string v.den] 27))
        rw [HWb3.out] at b1 b2 b3 hch
        have b1c0 := b1.c0
        have b1c1 := b1.c1
        have b1c2 := b1.c2
        have b1f0 := b1.f0
        have b1f1 := b1.f1
        have b1f2 := b1.f2
        have b1l := b1.lt
        have b2c0 := b2.c0
        have b2c1 := b2.c1
        have b2c2 := b2.c2
        have b2f0 := b2.f0
        have b2f1 := b2.f1
        have b2f2 := b2.f2
        have b2l := b2.lt
        have b3c0 := b3.c0
        have b3c1 := b3.c1
        have b3c2 := b3.c2
        have b3f0 := b3.f0
        have b3f1 := b3.f1
        have b3f2 := b3.f2
        have b3l := b3.lt
        rw [← HWb3.out] at b1c0 b1f0 b1c1 b1f1 b1c2 b1f2 b2c0 b2f0 b2c1 b2f1 b2c2 b2f2 b3c0 b3f0 b3c1 b3f1 b3c2 b3f2 b1l b2l b3l
        go_wp2_with fail
        clear b1c0 b1f0 b1c1 b1f1 b1c2 b1f2 b1l b2c0 b2f0 b2c1 b2f1 b2c2 b2f2 b2l b3c0 b3f0 b3c1 b3f1 b3c2 b3f2 b3l
        refine (SubtractN x v p (shown p i) 24 45 _ nx hV.num (by omega)).mono ?_
        rintro e w5 ⟨d, rfl, hd, c1⟩
        rw [HWb3.out] at c1
        replace b1 := b1.keep c1 (by simp)
        replace b2 := b2.keep c1 (by simp)
        replace b3 := b3.keep c1 (by simp)
        replace hch := hch.then c1
        clear c1 hV
        have hl14 := b1.lt
        have hl24 := b2.lt
        have b4 := Blk3.alloc w5 (.bool d.neg) (.string d.num) (.string d.den) 27
        replace b1 := b1.keep ((Chg.refl [] _).alloc (.cells #[.bool d.neg, .string d.num, .string d.den] 27)) (by simp)
        replace b2 := b2.keep ((Chg.refl [] _).alloc (.cells #[.bool d.neg, .string d.num, .string d.den] 27)) (by simp)
        replace b3 := b3.keep ((Chg.refl [] _).alloc (.cells #[.bool d.neg, .string d.num, .string d.den] 27)) (by simp)
        replace hch := hch.then ((Chg.refl [] _).alloc (.cells #[.bool d.neg, .string d.num, .string d.den] 27))
        obtain ⟨gb4, Gb4⟩ := name_it w5.heap.size
        rw [Gb4.out] at b4
        have hgb4 := Gb4.out
        obtain ⟨wb4, HWb4⟩ := name_it (w5.alloc (.cells #[.bool d.neg, .string d.num, .string d.den] 27))
        rw [HWb4.out] at b1 b2 b3 b4 hch
        rw [hgb4] at hl14 hl24
        have b1c0 := b1.c0
        have b1c1 := b1.c1
        have b1c2 := b1.c2
        have b1f0 := b1.f0
        have b1f1 := b1.f1
        have b1f2 := b1.f2
        have b1l := b1.lt
        have b2c0 := b2.c0
        have b2c1 := b2.c1
        have b2c2 := b2.c2
        have b2f0 := b2.f0
        have b2f1 := b2.f1
        have b2f2 := b2.f2
        have b2l := b2.lt
        have b3c0 := b3.c0
        have b3c1 := b3.c1
        have b3c2 := b3.c2
        have b3f0 := b3.f0
        have b3f1 := b3.f1
        have b3f2 := b3.f2
        have b3l := b3.lt
        have b4c0 := b4.c0
        have b4c1 := b4.c1
        have b4c2 := b4.c2
        have b4f0 := b4.f0
        have b4f1 := b4.f1
        have b4f2 := b4.f2
        have b4l := b4.lt
        rw [← HWb4.out] at b1c0 b1f0 b1c1 b1f1 b1c2 b1f2 b2c0 b2f0 b2c1 b2f1 b2c2 b2f2 b3c0 b3f0 b3c1 b3f1 b3c2 b3f2 b4c0 b4f0 b4c1 b4f1 b4c2 b4f2 b1l b2l b3l b4l
        go_wp2_with fail
        clear b1c0 b1f0 b1c1 b1f1 b1c2 b1f2 b1l b2c0 b2f0 b2c1 b2f1 b2c2 b2f2 b2l b3c0 b3f0 b3c1 b3f1 b3c2 b3f2 b3l b4c0 b4f0 b4c1 b4f1 b4c2 b4f2 b4l
        refine (SignN x p 24 _ nx (by omega)).mono ?_
        rintro e w6 ⟨rfl, c1⟩
        rw [HWb4.out] at c1
        replace b1 := b1.keep c1 (by simp)
        replace b2 := b2.keep c1 (by simp)
        replace b3 := b3.keep c1 (by simp)
        replace b4 := b4.keep c1 (by simp)
        replace hch := hch.then c1
        clear c1
        by_cases hng : p.num < 0
        · have tt := Lib.hid (trunc_neg hng i)
          rw [sg_neg1 hng]
          clear hng
          have b1c0 := b1.c0
          have b1c1 := b1.c1
          have b1c2 := b1.c2
          have b1f0 := b1.f0
          have b1f1 := b1.f1
          have b1f2 := b1.f2
          have b1l := b1.lt
          have b2c0 := b2.c0
          have b2c1 := b2.c1
          have b2c2 := b2.c2
          have b2f0 := b2.f0
          have b2f1 := b2.f1
          have b2f2 := b2.f2
          have b2l := b2.lt
          have b3c0 := b3.c0
          have b3c1 := b3.c1
          have b3c2 := b3.c2
          have b3f0 := b3.f0
          have b3f1 := b3.f1
          have b3f2 := b3.f2
          have b3l := b3.lt
          have b4c0 := b4.c0
          have b4c1 := b4.c1
          have b4c2 := b4.c2
          have b4f0 := b4.f0
          have b4f1 := b4.f1
          have b4f2 := b4.f2
          have b4l := b4.lt
          go_wp2_with fail
          clear b1c0 b1f0 b1c1 b1f1 b1c2 b1f2 b1l b2c0 b2f0 b2c1 b2f1 b2c2 b2f2 b2l b3c0 b3f0 b3c1 b3f1 b3c2 b3f2 b3l b4c0 b4f0 b4c1 b4f1 b4c2 b4f2 b4l
          refine (NegateN d _ 70 _ hd.num (by omega)).mono ?_
          rintro e w7 ⟨d2, rfl, hd2, c1⟩
          replace b1 := b1.keep c1 (by simp)
          replace b2 := b2.keep c1 (by simp)
          replace b3 := b3.keep c1 (by simp)
          replace b4 := b4.keep c1 (by simp)
          replace hch := hch.then c1
          clear c1 hd
          have b1c0 := b1.c0
          have b1c1 := b1.c1
          have b1c2 := b1.c2
          have b1f0 := b1.f0
          have b1f1 := b1.f1
          have b1f2 := b1.f2
          have b1l := b1.lt
          have b2c0 := b2.c0
          have b2c1 := b2.c1
          have b2c2 := b2.c2
          have b2f0 := b2.f0
          have b2f1 := b2.f1
          have b2f2 := b2.f2
          have b2l := b2.lt
          have b3c0 := b3.c0
          have b3c1 := b3.c1
          have b3c2 := b3.c2
          have b3f0 := b3.f0
          have b3f1 := b3.f1
          have b3f2 := b3.f2
          have b3l := b3.lt
          have b4c0 := b4.c0
          have b4c1 := b4.c1
          have b4c2 := b4.c2
          have b4f0 := b4.f0
          have b4f1 := b4.f1
          have b4f2 := b4.f2
          have b4l := b4.lt
          go_wp2_with fail
          clear b1c0 b1f0 b1c1 b1f1 b1c2 b1f2 b1l b2c0 b2f0 b2c1 b2f1 b2c2 b2f2 b2l b3c0 b3f0 b3c1 b3f1 b3c2 b3f2 b3l b4c0 b4f0 b4c1 b4f1 b4c2 b4f2 b4l
          have hd := hd2
          clear hd2
          replace b1 := b1.st2 (k := gb4) (by omega) (.bool d2.neg) (.string d2.num) (.string d2.den)
          replace b2 := b2.st2 (k := gb4) (by omega) (.bool d2.neg) (.string d2.num) (.string d2.den)
          replace b4 := b4.store (.bool d2.neg) (.string d2.num) (.string d2.den)
          replace hch := hch.store3 (g := gb4) (.inr (by omega)) (.bool d2.neg) (.string d2.num) (.string d2.den)
          clear b3
          obtain ⟨wn, HWn⟩ := name_it (((w7.setCell ⟨gb4, 0, none⟩ (.bool d2.neg)).setCell ⟨gb4, 1, none⟩ (.string d2.num)).setCell ⟨gb4, 2, none⟩ (.string d2.den))
          rw [HWn.out] at b1 b2 b4 hch ⊢
          refine (awake2_any _).mono ?_
          rintro e w8 ⟨rfl, c1⟩
          replace b1 := b1.keep c1 (by simp)
          replace b2 := b2.keep c1 (by simp)
          replace b4 := b4.keep c1 (by simp)
          replace hch := hch.then c1
          clear c1
          have b1c0 := b1.c0
          have b1c1 := b1.c1
          have b1c2 := b1.c2
          have b1f0 := b1.f0
          have b1f1 := b1.f1
          have b1f2 := b1.f2
          have b1l := b1.lt
          have b2c0 := b2.c0
          have b2c1 := b2.c1
          have b2c2 := b2.c2
          have b2f0 := b2.f0
          have b2f1 := b2.f1
          have b2f2 := b2.f2
          have b2l := b2.lt
          have b4c0 := b4.c0
          have b4c1 := b4.c1
          have b4c2 := b4.c2
          have b4f0 := b4.f0
          have b4f1 := b4.f1
          have b4f2 := b4.f2
          have b4l := b4.lt
          go_wp2_with fail
          clear b1c0 b1f0 b1c1 b1f1 b1c2 b1f2 b1l b2c0 b2f0 b2c1 b2f1 b2c2 b2f2 b2l b4c0 b4f0 b4c1 b4f1 b4c2 b4f2 b4l
          rcases sg_nn tt.out.1 with hg | hg
          all_goals
            refine (SignN d2 _ 70 _ hd.num (by omega)).mono ?_
            rintro e w9 ⟨rfl, c1⟩
            rw [hg]
            replace b1 := b1.keep c1 (by simp)
            replace b2 := b2.keep c1 (by simp)
            replace b4 := b4.keep c1 (by simp)
            replace hch := hch.then c1
            clear c1
            have b1c0 := b1.c0
            have b1c1 := b1.c1
            have b1c2 := b1.c2
            have b1f0 := b1.f0
            have b1f1 := b1.f1
            have b1f2 := b1.f2
            have b1l := b1.lt
            have b2c0 := b2.c0
            have b2c1 := b2.c1
            have b2c2 := b2.c2
            have b2f0 := b2.f0
            have b2f1 := b2.f1
            have b2f2 := b2.f2
            have b2l := b2.lt
            have b4c0 := b4.c0
            have b4c1 := b4.c1
            have b4c2 := b4.c2
            have b4f0 := b4.f0
            have b4f1 := b4.f1
            have b4f2 := b4.f2
            have b4l := b4.lt
            go_wp2_with fail
            clear b1c0 b1f0 b1c1 b1f1 b1c2 b1f2 b1l b2c0 b2f0 b2c1 b2f1 b2c2 b2f2 b2l b4c0 b4f0 b4c1 b4f1 b4c2 b4f2 b4l
            refine (CompareN d2 z _ _ 70 (8 * (i + 1)) _ hd.num hz.num (by omega)).mono ?_
            rintro e w10 ⟨rfl, c1⟩
            rw [qo_lt tt.out.2]
            replace b1 := b1.keep c1 (by simp)
            replace b2 := b2.keep c1 (by simp)
            replace b4 := b4.keep c1 (by simp)
            replace hch := hch.then c1
            clear c1
            go_wp2_with fail
            go_ret
            exact ⟨ret_eq (by simp), hch⟩
        · have tt := Lib.hid (trunc_pos hng i)
          rcases sg_nneg hng with hg0 | hg0
          all_goals
            rw [hg0]
            clear hng hg0
            have b1c0 := b1.c0
            have b1c1 := b1.c1
            have b1c2 := b1.c2
            have b1f0 := b1.f0
            have b1f1 := b1.f1
            have b1f2 := b1.f2
            have b1l := b1.lt
            have b2c0 := b2.c0
            have b2c1 := b2.c1
            have b2c2 := b2.c2
            have b2f0 := b2.f0
            have b2f1 := b2.f1
            have b2f2 := b2.f2
            have b2l := b2.lt
            have b3c0 := b3.c0
            have b3c1 := b3.c1
            have b3c2 := b3.c2
            have b3f0 := b3.f0
            have b3f1 := b3.f1
            have b3f2 := b3.f2
            have b3l := b3.lt
            have b4c0 := b4.c0
            have b4c1 := b4.c1
            have b4c2 := b4.c2
            have b4f0 := b4.f0
            have b4f1 := b4.f1
            have b4f2 := b4.f2
            have b4l := b4.lt
            go_wp2_with fail
            clear b1c0 b1f0 b1c1 b1f1 b1c2 b1f2 b1l b2c0 b2f0 b2c1 b2f1 b2c2 b2f2 b2l b3c0 b3f0 b3c1 b3f1 b3c2 b3f2 b3l b4c0 b4f0 b4c1 b4f1 b4c2 b4f2 b4l
            refine (awake2_any _).mono ?_
            rintro e w8 ⟨rfl, c1⟩
            replace b1 := b1.keep c1 (by simp)
            replace b2 := b2.keep c1 (by simp)
            replace b3 := b3.keep c1 (by simp)
            replace b4 := b4.keep c1 (by simp)
            replace hch := hch.then c1
            clear c1
            have b1c0 := b1.c0
            have b1c1 := b1.c1
            have b1c2 := b1.c2
            have b1f0 := b1.f0
            have b1f1 := b1.f1
            have b1f2 := b1.f2
            have b1l := b1.lt
            have b2c0 := b2.c0
            have b2c1 := b2.c1
            have b2c2 := b2.c2
            have b2f0 := b2.f0
            have b2f1 := b2.f1
            have b2f2 := b2.f2
            have b2l := b2.lt
            have b3c0 := b3.c0
            have b3c1 := b3.c1
            have b3c2 := b3.c2
            have b3f0 := b3.f0
            have b3f1 := b3.f1
            have b3f2 := b3.f2
            have b3l := b3.lt
            have b4c0 := b4.c0
            have b4c1 := b4.c1
            have b4c2 := b4.c2
            have b4f0 := b4.f0
            have b4f1 := b4.f1
            have b4f2 := b4.f2
            have b4l := b4.lt
            go_wp2_with fail
            clear b1c0 b1f0 b1c1 b1f1 b1c2 b1f2 b1l b2c0 b2f0 b2c1 b2f1 b2c2 b2f2 b2l b3c0 b3f0 b3c1 b3f1 b3c2 b3f2 b3l b4c0 b4f0 b4c1 b4f1 b4c2 b4f2 b4l
            rcases sg_nn tt.out.1 with hg | hg
            all_goals
              refine (SignN d _ 70 _ hd.num (by omega)).mono ?_
              rintro e w9 ⟨rfl, c1⟩
              rw [hg]
              replace b1 := b1.keep c1 (by simp)
              replace b2 := b2.keep c1 (by simp)
              replace b3 := b3.keep c1 (by simp)
              replace b4 := b4.keep c1 (by simp)
              replace hch := hch.then c1
              clear c1
              have b1c0 := b1.c0
              have b1c1 := b1.c1
              have b1c2 := b1.c2
              have b1f0 := b1.f0
              have b1f1 := b1.f1
              have b1f2 := b1.f2
              have b1l := b1.lt
              have b2c0 := b2.c0
              have b2c1 := b2.c1
              have b2c2 := b2.c2
              have b2f0 := b2.f0
              have b2f1 := b2.f1
              have b2f2 := b2.f2
              have b2l := b2.lt
              have b3c0 := b3.c0
              have b3c1 := b3.c1
              have b3c2 := b3.c2
              have b3f0 := b3.f0
              have b3f1 := b3.f1
              have b3f2 := b3.f2
              have b3l := b3.lt
              have b4c0 := b4.c0
              have b4c1 := b4.c1
              have b4c2 := b4.c2
              have b4f0 := b4.f0
              have b4f1 := b4.f1
              have b4f2 := b4.f2
              have b4l := b4.lt
              go_wp2_with fail
              clear b1c0 b1f0 b1c1 b1f1 b1c2 b1f2 b1l b2c0 b2f0 b2c1 b2f1 b2c2 b2f2 b2l b3c0 b3f0 b3c1 b3f1 b3c2 b3f2 b3l b4c0 b4f0 b4c1 b4f1 b4c2 b4f2 b4l
              refine (CompareN d z _ _ 70 (8 * (i + 1)) _ hd.num hz.num (by omega)).mono ?_
              rintro e w10 ⟨rfl, c1⟩
              rw [qo_lt tt.out.2]
              replace b1 := b1.keep c1 (by simp)
              replace b2 := b2.keep c1 (by simp)
              replace b3 := b3.keep c1 (by simp)
              replace b4 := b4.keep c1 (by simp)
              replace hch := hch.then c1
              clear c1
              go_wp2_with fail
              go_ret
              exact ⟨ret_eq (by simp), hch⟩

end Go.Proofs.YtlhmimbooampdaaGreatDoor
