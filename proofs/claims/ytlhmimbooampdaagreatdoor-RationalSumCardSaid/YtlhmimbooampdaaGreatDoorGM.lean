/-
  Several parts put together: Q10, Q11, Q12.
-/
import Derived.Test.YtlhmimbooampdaaGreatDoorGL
import Derived.Test.YtlhmimbooampdaaGreatDoorGF
/- Part Q10. -/

namespace Go.Proofs.YtlhmimbooampdaaGreatDoor
open Go.RowKit Nd

/-- The text of a number. -/
def fmtL (q : Rat) : List UInt8 := (if q.num < 0 then [45] else []) ++ (decL q.num.natAbs ++ (if q.den = 1 then [] else 47 :: decL q.den))
theorem pow256_10 (k : Nat) : 256 ^ k ≤ 10 ^ (3 * k) := by rw [Nat.pow_mul]; exact Nat.pow_le_pow_left (by omega) k
theorem dec_size {t : ByteArray} {n k : Nat} (h : Dec t.data.toList n) (hn : n < 256 ^ k) (hk : 1 ≤ k) : t.size ≤ 3 * k := by
  rw [← size_len, decL_of h]
  exact decL_len (Nat.lt_of_lt_of_le hn (pow256_10 k)) (by omega)
theorem app_list (a b : ByteArray) : (a ++ b).data.toList = a.data.toList ++ b.data.toList := by simp

set_option maxRecDepth 20000 in
set_option maxHeartbeats 1000000 in
theorem Format_any (a : Q3) (k : Nat) (w : World) (fa : fits a k) (hk1 : 1 ≤ k) (hk : k ≤ 68719476736) :
    Calls Tryz.prog 28 #[.agg #[.bool a.neg, .string a.num, .string a.den]] w fun e w' => ∃ s : ByteArray, e = .returned (.string s) ∧ s.data.toList = fmtL (ratOf a) ∧ Chg [] w w' := by
  have b1 := Blk3.alloc w (.bool a.neg) (.string a.num) (.string a.den) 27
  have hch : Chg [] w (w.alloc (.cells #[.bool a.neg, .string a.num, .string a.den] 27)) := (Chg.refl _ _).alloc _
  have BA := Lib.hid (fa.bd (by omega) : Bd k (ratOf a))
  obtain ⟨fa1, fa2⟩ := fa
  obtain ⟨p, HP⟩ := name_it (ratOf a)
  rw [HP.out] at BA ⊢
  obtain ⟨r, HR⟩ := name_it (fmtL p)
  rw [HR.out]
  go_enter Tryz.func28, Tryz.ntmps28
  go_wp2_with fail
  refine (counted_any a _ (by omega) (by omega)).mono ?_
  rintro e w1 ⟨y, rfl, hy, c1⟩
  replace b1 := b1.keep c1 (by simp)
  replace hch := hch.then c1
  clear c1
  rw [HP.out] at hy
  have HY := Lib.hid hy
  clear hy
  have b1c0 := b1.c0
  have b1c1 := b1.c1
  have b1c2 := b1.c2
  have b1f0 := b1.f0
  have b1f1 := b1.f1
  have b1f2 := b1.f2
  have b1l := b1.lt
  have zn := HY.out.num_size BA.out
  have zd : y.den.size ≤ k := (HY.out.fits BA.out).2
  go_wp2_with fail
  replace b1 := b1.store (.bool y.neg) (.string y.num) (.string y.den)
  replace hch := hch.store3 (.inr (Nat.le_refl _)) (.bool y.neg) (.string y.num) (.string y.den)
  clear b1c0 b1c1 b1c2 b1f0 b1f1 b1f2 b1l
  obtain ⟨w2, HW2⟩ := name_it (((w1.setCell ⟨w.heap.size, 0, none⟩ (.bool y.neg)).setCell ⟨w.heap.size, 1, none⟩ (.string y.num)).setCell ⟨w.heap.size, 2, none⟩ (.string y.den))
  rw [HW2.out] at b1 hch ⊢
  refine (format_any y.num _ (by omega)).mono ?_
  rintro e w1 ⟨t, rfl, ht, c1⟩
  replace b1 := b1.keep c1 (by simp)
  replace hch := hch.then c1
  clear c1
  rw [Is_val HY.out.num] at ht
  have zt := dec_size ht BA.out.1 hk1
  have HT := Lib.hid (decL_of ht)
  clear ht
  have b1c0 := b1.c0
  have b1c1 := b1.c1
  have b1c2 := b1.c2
  have b1f0 := b1.f0
  have b1f1 := b1.f1
  have b1f2 := b1.f2
  have b1l := b1.lt
  have hde := Is_empty HY.out.den
  have hyn := Lib.hid HY.out.neg
  have hdz := p.den_nz
  by_cases h1 : p.den = 1
  · have hde2 : y.den.toList.isEmpty = true := by rw [hde]; simp [h1]
    by_cases hn : y.neg = true
    · have hr : Hid (r = 45 :: decL p.num.natAbs) := by
        show _ = _
        rw [← HR.out]; unfold fmtL
        have : p.num < 0 := by have := hyn.out; rw [hn] at this; simpa using this.symm
        rw [if_pos this, if_pos h1]; simp
      clear hde h1 hdz
      go_wp2_with fail
      go_ret
      exact ⟨_, rfl, by rw [hr.out, app_list, HT.out]; rfl, hch⟩
    · have hn' : y.neg = false := by simpa using hn
      have hr : Hid (r = decL p.num.natAbs) := by
        show _ = _
        rw [← HR.out]; unfold fmtL
        have : ¬ p.num < 0 := by have := hyn.out; rw [hn'] at this; simpa using this.symm
        rw [if_neg this, if_pos h1]; simp
      clear hde h1 hdz hn
      go_wp2_with fail
      go_ret
      exact ⟨_, rfl, by rw [hr.out, HT.out], hch⟩
  · have hde2 : y.den.toList.isEmpty = false := by rw [hde]; simp [h1, hdz]
    have hvd : Hid (val y.den = p.den) := by
      have := HY.out.den
      rw [if_neg h1] at this
      exact Is_val this
    have H1 := Lib.hid h1
    clear hde h1 hdz
    go_wp2_with fail
    refine (format_any y.den _ (by omega)).mono ?_
    rintro e w1 ⟨u, rfl, hu, c1⟩
    clear b1c0 b1c1 b1c2 b1f0 b1f1 b1f2 b1l
    replace b1 := b1.keep c1 (by simp)
    replace hch := hch.then c1
    clear c1
    rw [hvd.out] at hu
    have zu := dec_size hu BA.out.2 hk1
    have HU := Lib.hid (decL_of hu)
    clear hu
    have b1c0 := b1.c0
    have b1c1 := b1.c1
    have b1c2 := b1.c2
    have b1f0 := b1.f0
    have b1f1 := b1.f1
    have b1f2 := b1.f2
    have b1l := b1.lt
    by_cases hn : y.neg = true
    · have hr : Hid (r = 45 :: (decL p.num.natAbs ++ 47 :: decL p.den)) := by
        show _ = _
        rw [← HR.out]; unfold fmtL
        have : p.num < 0 := by have := hyn.out; rw [hn] at this; simpa using this.symm
        rw [if_pos this, if_neg H1.out]; simp
      go_wp2_with fail
      go_ret
      exact ⟨_, rfl, by rw [hr.out]; simp only [app_list]; rw [HT.out, HU.out]; rfl, hch⟩
    · have hn' : y.neg = false := by simpa using hn
      have hr : Hid (r = decL p.num.natAbs ++ 47 :: decL p.den) := by
        show _ = _
        rw [← HR.out]; unfold fmtL
        have : ¬ p.num < 0 := by have := hyn.out; rw [hn'] at this; simpa using this.symm
        rw [if_neg this, if_neg H1.out]; simp
      clear hn
      go_wp2_with fail
      go_ret
      exact ⟨_, rfl, by rw [hr.out]; simp only [app_list]; rw [HT.out, HU.out]; rfl, hch⟩

end Go.Proofs.YtlhmimbooampdaaGreatDoor

/- Part Q11. -/

namespace Go.Proofs.YtlhmimbooampdaaGreatDoor
open Go.RowKit Nd

theorem Chg.of_below {w w' : World} (h : Below w.heap.size w w') : Chg [] w w' := ⟨h.os, h.tape, h.output, h.size, fun k hk _ => h.block k hk⟩
theorem repeat_one (c : UInt8) : ∀ n : Nat, Lib.repeatL [c] n = List.replicate n c
  | 0 => rfl
  | n + 1 => by rw [Lib.repeatL, repeat_one c n, List.replicate_succ]; rfl
/-- How many places are shown. -/
def clampP (n : Int) : Nat := (min (max n 0) 20).toNat
theorem clampP_eq (n : Int) : min (max n 0) 20 = (clampP n : Int) := by unfold clampP; omega
theorem clampP_le (n : Int) : clampP n ≤ 20 := by unfold clampP; omega
def padL (pl : Nat) (T : List UInt8) : List UInt8 := List.replicate (pl + 1 - T.length) 48 ++ T
def pointL (pl : Nat) (T : List UInt8) : List UInt8 := if 0 < pl then T.take (T.length - pl) ++ 46 :: T.drop (T.length - pl) else T
def scaleQ (q : Rat) (pl : Nat) : Nat := q.num.natAbs * 10 ^ pl / q.den
def decimalL (q : Rat) (pl : Nat) : List UInt8 := (if q.num < 0 ∧ scaleQ q pl ≠ 0 then [45] else []) ++ pointL pl (padL pl (decL (scaleQ q pl)))
theorem pad_len (pl : Nat) (T : List UInt8) : pl + 1 ≤ (padL pl T).length := by unfold padL; rw [List.length_append, List.length_replicate]; omega

set_option maxRecDepth 20000 in
set_option maxHeartbeats 8000000 in
theorem Decimal_any (a : Q3) (n : Int) (k : Nat) (w : World) (fa : fits a k) (hk1 : 1 ≤ k) (hk : k ≤ 1073741824) (_hn1 : -9223372036854775808 ≤ n) (_hn2 : n ≤ 9223372036854775807) :
    Calls Tryz.prog 22 #[.agg #[.bool a.neg, .string a.num, .string a.den], .int .i64 n] w fun e w' => ∃ s : ByteArray, e = .returned (.string s) ∧ s.data.toList = decimalL (ratOf a) (clampP n) ∧ Chg [] w w' := by
  have b1 := Blk3.alloc w (.bool a.neg) (.string a.num) (.string a.den) 27
  have hch : Chg [] w (w.alloc (.cells #[.bool a.neg, .string a.num, .string a.den] 27)) := (Chg.refl _ _).alloc _
  have BA := Lib.hid (fa.bd (by omega) : Bd k (ratOf a))
  obtain ⟨fa1, fa2⟩ := fa
  obtain ⟨p, HP⟩ := name_it (ratOf a)
  obtain ⟨pl, HPL⟩ := name_it (clampP n)
  have hcl := clampP_eq n
  have hpl20 := clampP_le n
  rw [HPL.out] at hcl hpl20
  rw [HP.out] at BA ⊢
  rw [HPL.out]
  obtain ⟨r, HR⟩ := name_it (decimalL p pl)
  rw [HR.out]
  go_enter Tryz.func22, Tryz.ntmps22
  go_wp2_with fail
  refine (counted_any a _ (by omega) (by omega)).mono ?_
  rintro e w1 ⟨y, rfl, hy, c1⟩
  replace b1 := b1.keep c1 (by simp)
  replace hch := hch.then c1
  clear c1
  rw [HP.out] at hy
  have HY := Lib.hid hy
  clear hy
  have b1c0 := b1.c0
  have b1c1 := b1.c1
  have b1c2 := b1.c2
  have b1f0 := b1.f0
  have b1f1 := b1.f1
  have b1f2 := b1.f2
  have b1l := b1.lt
  have zn := HY.out.num_size BA.out
  have zd := HY.out.dn_size BA.out
  have hv := Lib.hid (show val (dnS y) ≠ 0 by rw [Is_val HY.out.dnS]; exact p.den_nz)
  go_wp2_with fail
  replace b1 := b1.store (.bool y.neg) (.string y.num) (.string y.den)
  replace hch := hch.store3 (.inr (Nat.le_refl _)) (.bool y.neg) (.string y.num) (.string y.den)
  clear b1c0 b1c1 b1c2 b1f0 b1f1 b1f2 b1l
  clear hcl
  obtain ⟨w2, HW2⟩ := name_it (((w1.setCell ⟨w.heap.size, 0, none⟩ (.bool y.neg)).setCell ⟨w.heap.size, 1, none⟩ (.string y.num)).setCell ⟨w.heap.size, 2, none⟩ (.string y.den))
  rw [HW2.out] at b1 hch ⊢
  go_cut [5, 6, 7] (fun qv rv ov wx => ∃ q1 r1 : ByteArray, qv = .string q1 ∧ rv = .string r1 ∧ ov = .bool true ∧ Is q1 (p.num.natAbs * 10 ^ pl / p.den) ∧ Blk3 wx w.heap.size (.bool y.neg) (.string y.num) (.string y.den) ∧ Chg [] w wx)
  case first =>
    replace b1 := b1.keep ((Chg.refl [] _).drew) (by simp)
    replace hch := hch.drew
    go_region_held3 (fun w' => w'.cell? ⟨w.heap.size, 0, none⟩ = some (.bool y.neg) ∧ w'.cell? ⟨w.heap.size, 1, none⟩ = some (.string y.num) ∧ w'.cell? ⟨w.heap.size, 2, none⟩ = some (.string y.den)) (first | exact ⟨b1.c0, b1.c1, b1.c2⟩ | exact ⟨by simp [go_sem, b1.c0], by simp [go_sem, b1.c1], by simp [go_sem, b1.c2]⟩) (first
        | (go_at_call 45
           (with_reducible refine (denominator_any y _).mono ?_)
           rintro e w1 ⟨rfl, c1⟩
           replace b1 := b1.keep c1 (by simp)
           replace hch := hch.then c1
           clear c1)
        | (go_at_call 48
           (with_reducible refine (pow10_any pl pl _ (Nat.le_refl _) (by omega)).mono ?_)
           rintro e w1 ⟨s, rfl, hs, c1⟩
           replace b1 := b1.keep c1 (by simp)
           replace hch := hch.then c1
           have zs : s.size ≤ 21 := Nat.le_trans (Is_size hs _ (pow10_lt pl)) (by omega)
           have HS := Lib.hid hs
           clear hs
           clear c1)
        | (go_at_call 47
           (with_reducible refine (multiply_any y.num s _ (by omega) (by omega)).mono ?_)
           rintro e w1 ⟨m, rfl, hm, c1⟩
           replace b1 := b1.keep c1 (by simp)
           replace hch := hch.then c1
           have zm : m.size ≤ k + 21 := Is_size hm _ (mul_lt_pow (lt_pow_le (val_lt y.num) zn) (lt_pow_le (val_lt s) zs))
           have HM := Lib.hid (mul_is HY.out.num HS.out hm)
           clear hm
           clear c1)
        | (go_at_call 46
           (with_reducible refine (Divide_any m (dnS y) _ (by omega) (by omega) hv.out).mono ?_)
           rintro e w1 ⟨q1, r1, rfl, hq, _, c1⟩
           replace b1 := b1.keep c1 (by simp)
           replace hch := hch.then c1
           rw [Is_val HM.out, Is_val HY.out.dnS] at hq
           have HQ := Lib.hid hq
           clear hq
           clear c1))
    all_goals
      go_wp2_with fail
      go_meet
      exact ⟨_, _, rfl, rfl, rfl, HQ.out, b1, hch⟩
  case rest =>
    clear b1 hch
    obtain ⟨q1, r1, rfl, rfl, rfl, hq, b1, hch⟩ := hcut
    have HQ := Lib.hid hq
    clear hq
    have hsb : Hid (scaleQ p pl < 256 ^ (k + 21)) := by
      show _ < _
      unfold scaleQ
      have h1 := mul_lt_pow BA.out.1 (lt_pow_le (pow10_lt pl) (by omega : pl + 1 ≤ 21))
      exact Nat.lt_of_le_of_lt (Nat.div_le_self _ _) h1
    have zq : q1.size ≤ k + 21 := Is_size HQ.out _ hsb.out
    have hqe := Is_empty HQ.out
    go_wp2_with fail
    refine (format_any q1 _ (by omega)).mono ?_
    rintro e w1 ⟨t, rfl, ht, c1⟩
    replace b1 := b1.keep c1 (by simp)
    replace hch := hch.then c1
    clear c1
    rw [Is_val HQ.out] at ht
    have zt := dec_size ht hsb.out (by omega)
    have HT := Lib.hid (decL_of ht)
    clear ht
    have b1c0 := b1.c0
    have b1c1 := b1.c1
    have b1c2 := b1.c2
    have b1f0 := b1.f0
    have b1f1 := b1.f1
    have b1f2 := b1.f2
    have b1l := b1.lt
    obtain ⟨sc, HSC⟩ := name_it (scaleQ p pl)
    have hqe2 : q1.toList.isEmpty = decide (sc = 0) := hqe.trans (by rw [← HSC.out]; rfl)
    clear hqe
    have HT2 : Hid (t.data.toList = decL sc) := by show _ = _; rw [← HSC.out]; exact HT.out
    have hyn := Lib.hid HY.out.neg
    have HSG : Hid ((if p.num < 0 ∧ sc ≠ 0 then [45] else []) = (if (y.neg && !decide (sc = 0)) = true then [45] else ([] : List UInt8))) := by
      show _ = _
      rw [hyn.out]
      by_cases g1 : p.num < 0 <;> by_cases g2 : sc = 0 <;> simp [g1, g2]
    obtain ⟨sz, HSZ⟩ := name_it (decide (sc = 0))
    rw [HSZ.out] at hqe2 HSG
    obtain ⟨P, HPP⟩ := name_it (padL pl t.data.toList)
    have HPL : Hid (pl + 1 ≤ P.length) := by show _ ≤ _; rw [← HPP.out]; exact pad_len _ _
    have hrr : Hid (r = (if (y.neg && !sz) = true then [45] else []) ++ pointL pl P) := by
      show _ = _
      rw [← HR.out, ← HPP.out]; unfold decimalL; rw [HSC.out, HSG.out, HT2.out]
    clear HSG HT
    have fin : ∀ T : ByteArray, T.data.toList = pointL pl P → (((⟨#[45]⟩ : ByteArray) ++ T).data.toList = r ∨ ¬ (y.neg && !sz) = true) ∧ (T.data.toList = r ∨ (y.neg && !sz) = true) := by
      intro T hT
      rw [hrr.out, app_list, hT]
      by_cases g : (y.neg && !sz) = true
      · exact ⟨.inl (by rw [if_pos g]; try rfl), .inr g⟩
      · exact ⟨.inr g, .inl (by rw [if_neg g]; try rfl)⟩
    have FIN := Lib.hid fin
    clear fin
    all_goals
      by_cases hm : t.size ≤ pl
      · obtain ⟨c, HC⟩ : ∃ c : Nat, Hid (c + t.size = pl + 1) := ⟨pl + 1 - t.size, by show _ = _; omega⟩
        have hc : (pl : Int) + 1 - (t.size : Int) = (c : Int) := by have := HC.out; omega
        have hc0 : 0 < c := by have := HC.out; omega
        have hc21 : c ≤ 21 := by have := HC.out; omega
        have b1c0 := b1.c0
        have b1c1 := b1.c1
        have b1c2 := b1.c2
        have b1f0 := b1.f0
        have b1f1 := b1.f1
        have b1f2 := b1.f2
        have b1l := b1.lt
        go_wp2_with fail
        clear b1c0 b1c1 b1c2 b1f0 b1f1 b1f2 b1l
        refine (Tryz.strings_Repeat ⟨#[48]⟩ c _ (by omega) (by show 1 * c ≤ _; omega)).mono ?_
        rintro e w3 ⟨rfl, hbel⟩
        have c1 := Chg.of_below hbel
        clear hbel
        replace b1 := b1.keep c1 (by simp)
        replace hch := hch.then c1
        clear c1 hc
        have hrep : Hid ((⟨(Lib.repeatL (⟨#[48]⟩ : ByteArray).data.toList c).toArray⟩ : ByteArray).data.toList = List.replicate c 48) := by show _ = _; exact repeat_one 48 c
        obtain ⟨rp, HRP⟩ := name_it (⟨(Lib.repeatL (⟨#[48]⟩ : ByteArray).data.toList c).toArray⟩ : ByteArray)
        rw [HRP.out] at hrep ⊢
        have zrp : rp.size = c := by rw [← size_len, hrep.out]; simp
        have zrp2 : rp.size ≤ 21 := by omega
        have ZRP := Lib.hid zrp
        clear zrp
        have b1c0 := b1.c0
        have b1c1 := b1.c1
        have b1c2 := b1.c2
        have b1f0 := b1.f0
        have b1f1 := b1.f1
        have b1f2 := b1.f2
        have b1l := b1.lt
        obtain ⟨T, HTT⟩ := name_it (rp ++ t)
        have TH : Hid (T.data.toList = P) := by
          show _ = _
          rw [← HPP.out, ← HTT.out, app_list, hrep.out]
          unfold padL
          rw [size_len]
          have : c = pl + 1 - t.size := by have := HC.out; omega
          rw [this]
        have TB : T.size ≤ 9663676479 := by
          rw [← size_len, TH.out, ← HPP.out]; unfold padL; rw [List.length_append, List.length_replicate, size_len]; omega
        have HTE := HTT.out
        have HTP : Hid (T.data.toList = P) := TH
        have hsz : pl + 1 ≤ T.size := by rw [← size_len, HTP.out]; exact HPL.out
        have hszb : T.size ≤ 9663676479 := TB
        have HSZ := Lib.hid hsz
        clear hsz
        by_cases hp : 0 < pl
        · obtain ⟨pt, HPT⟩ : ∃ pt : Nat, Hid (pt + pl = T.size) := ⟨T.size - pl, by show _ = _; have := HSZ.out; omega⟩
          have hpt : (T.size : Int) - (pl : Int) = (pt : Int) := by have := HPT.out; omega
          have hptl : pt ≤ T.size := by have := HPT.out; omega
          have hres : Hid (((T.extract 0 pt ++ ⟨#[46]⟩) ++ T.extract pt T.size).data.toList = pointL pl P) := by
            show _ = _
            rw [app_list, app_list, ext_take, ext_drop, HTP.out]
            unfold pointL
            rw [if_pos hp]
            have : P.length - pl = pt := by rw [← HTP.out, size_len]; have := HPT.out; omega
            rw [this]; simp
          have hl1 := ext_size T 0 pt
          have hl2 := ext_size T pt T.size
          have hpt0 : (0 : Int) ≤ (pt : Int) := by omega
          have hpt1 : (pt : Int) ≤ (T.size : Int) := by omega
          have hub : Hid (((T.extract 0 pt ++ ⟨#[46]⟩) ++ T.extract pt T.size).size ≤ 19327352960) := by
            show _ ≤ _
            rw [ByteArray.size_append, ByteArray.size_append]
            have : (⟨#[46]⟩ : ByteArray).size = 1 := rfl
            omega
          go_wp2_with fail
          go_cut [8] (fun v wx => ∃ U : ByteArray, v = .string U ∧ U.data.toList = pointL pl P ∧ U.size ≤ 19327352960 ∧ Blk3 wx w.heap.size (.bool y.neg) (.string y.num) (.string y.den) ∧ Chg [] w wx)
          case first =>
            go_quiet (fail)
            go_wp2_with fail
            go_meet
            exact ⟨_, rfl, hres.out, hub.out, b1.keep ((Chg.refl [] _).drewN _) (by simp), hch.drewN _⟩
          case rest =>
            clear b1 hch hres hub
            obtain ⟨U, rfl, hU, zU, b1, hch⟩ := hcut
            have hres := Lib.hid hU
            clear hU hl1 hl2 hpt hptl hpt0 hpt1
            have b1c0 := b1.c0
            have b1c1 := b1.c1
            have b1c2 := b1.c2
            cases hyn2 : y.neg <;> cases sz
            · go_wp2_with fail
              go_ret
              exact ⟨_, rfl, ((FIN.out _ hres.out).2.resolve_right (by simp [hyn2])), hch⟩
            · go_wp2_with fail
              go_ret
              exact ⟨_, rfl, ((FIN.out _ hres.out).2.resolve_right (by simp [hyn2])), hch⟩
            · go_wp2_with fail
              go_ret
              exact ⟨_, rfl, ((FIN.out _ hres.out).1.resolve_right (by simp [hyn2])), hch⟩
            · go_wp2_with fail
              go_ret
              exact ⟨_, rfl, ((FIN.out _ hres.out).2.resolve_right (by simp [hyn2])), hch⟩
        · have hp0 : pl = 0 := by omega
          have hres : Hid (T.data.toList = pointL pl P) := by
            show _ = _
            unfold pointL
            rw [if_neg hp, HTP.out]
          clear hp0
          cases hyn2 : y.neg <;> cases sz
          · go_wp2_with fail
            go_ret
            exact ⟨_, rfl, ((FIN.out _ hres.out).2.resolve_right (by simp [hyn2])), hch⟩
          · go_wp2_with fail
            go_ret
            exact ⟨_, rfl, ((FIN.out _ hres.out).2.resolve_right (by simp [hyn2])), hch⟩
          · go_wp2_with fail
            go_ret
            exact ⟨_, rfl, ((FIN.out _ hres.out).1.resolve_right (by simp [hyn2])), hch⟩
          · go_wp2_with fail
            go_ret
            exact ⟨_, rfl, ((FIN.out _ hres.out).2.resolve_right (by simp [hyn2])), hch⟩
      · obtain ⟨mi, HMI⟩ := name_it ((pl : Int) + 1 - (t.size : Int))
        have hmi := HMI.out
        have hmi0 : mi ≤ 0 := by omega
        have hmi1 : -9663676480 ≤ mi := by omega
        have tH : Hid (t.data.toList = P) := by
          show _ = _
          rw [← HPP.out]
          unfold padL
          rw [size_len, show pl + 1 - t.size = 0 by omega]; rfl
        have tB : t.size ≤ 9663676479 := by omega
        clear hm
        have b1c0 := b1.c0
        have b1c1 := b1.c1
        have b1c2 := b1.c2
        have b1f0 := b1.f0
        have b1f1 := b1.f1
        have b1f2 := b1.f2
        have b1l := b1.lt
        go_upto_region 6 with fail
        clear hmi
        have hmf : decide ((0:Int) < mi) = false := by simp; omega
        have hmg : ¬ (0:Int) < mi := by omega
        go_upto_region 8 with fail
        have HTP : Hid (t.data.toList = P) := tH
        have hsz : pl + 1 ≤ t.size := by rw [← size_len, HTP.out]; exact HPL.out
        have hszb : t.size ≤ 9663676479 := tB
        have HSZ := Lib.hid hsz
        clear hsz
        by_cases hp : 0 < pl
        · obtain ⟨pt, HPT⟩ : ∃ pt : Nat, Hid (pt + pl = t.size) := ⟨t.size - pl, by show _ = _; have := HSZ.out; omega⟩
          have hpt : (t.size : Int) - (pl : Int) = (pt : Int) := by have := HPT.out; omega
          have hptl : pt ≤ t.size := by have := HPT.out; omega
          have hres : Hid (((t.extract 0 pt ++ ⟨#[46]⟩) ++ t.extract pt t.size).data.toList = pointL pl P) := by
            show _ = _
            rw [app_list, app_list, ext_take, ext_drop, HTP.out]
            unfold pointL
            rw [if_pos hp]
            have : P.length - pl = pt := by rw [← HTP.out, size_len]; have := HPT.out; omega
            rw [this]; simp
          have hl1 := ext_size t 0 pt
          have hl2 := ext_size t pt t.size
          have hpt0 : (0 : Int) ≤ (pt : Int) := by omega
          have hpt1 : (pt : Int) ≤ (t.size : Int) := by omega
          have hub : Hid (((t.extract 0 pt ++ ⟨#[46]⟩) ++ t.extract pt t.size).size ≤ 19327352960) := by
            show _ ≤ _
            rw [ByteArray.size_append, ByteArray.size_append]
            have : (⟨#[46]⟩ : ByteArray).size = 1 := rfl
            omega
          go_wp2_with fail
          go_cut [8] (fun v wx => ∃ U : ByteArray, v = .string U ∧ U.data.toList = pointL pl P ∧ U.size ≤ 19327352960 ∧ Blk3 wx w.heap.size (.bool y.neg) (.string y.num) (.string y.den) ∧ Chg [] w wx)
          case first =>
            go_quiet (fail)
            go_wp2_with fail
            go_meet
            exact ⟨_, rfl, hres.out, hub.out, b1.keep ((Chg.refl [] _).drewN _) (by simp), hch.drewN _⟩
          case rest =>
            clear b1 hch hres hub
            obtain ⟨U, rfl, hU, zU, b1, hch⟩ := hcut
            have hres := Lib.hid hU
            clear hU hl1 hl2 hpt hptl hpt0 hpt1
            have b1c0 := b1.c0
            have b1c1 := b1.c1
            have b1c2 := b1.c2
            cases hyn2 : y.neg <;> cases sz
            · go_wp2_with fail
              go_ret
              exact ⟨_, rfl, ((FIN.out _ hres.out).2.resolve_right (by simp [hyn2])), hch⟩
            · go_wp2_with fail
              go_ret
              exact ⟨_, rfl, ((FIN.out _ hres.out).2.resolve_right (by simp [hyn2])), hch⟩
            · go_wp2_with fail
              go_ret
              exact ⟨_, rfl, ((FIN.out _ hres.out).1.resolve_right (by simp [hyn2])), hch⟩
            · go_wp2_with fail
              go_ret
              exact ⟨_, rfl, ((FIN.out _ hres.out).2.resolve_right (by simp [hyn2])), hch⟩
        · have hp0 : pl = 0 := by omega
          have hres : Hid (t.data.toList = pointL pl P) := by
            show _ = _
            unfold pointL
            rw [if_neg hp, HTP.out]
          clear hp0
          cases hyn2 : y.neg <;> cases sz
          · go_wp2_with fail
            go_ret
            exact ⟨_, rfl, ((FIN.out _ hres.out).2.resolve_right (by simp [hyn2])), hch⟩
          · go_wp2_with fail
            go_ret
            exact ⟨_, rfl, ((FIN.out _ hres.out).2.resolve_right (by simp [hyn2])), hch⟩
          · go_wp2_with fail
            go_ret
            exact ⟨_, rfl, ((FIN.out _ hres.out).1.resolve_right (by simp [hyn2])), hch⟩
          · go_wp2_with fail
            go_ret
            exact ⟨_, rfl, ((FIN.out _ hres.out).2.resolve_right (by simp [hyn2])), hch⟩

end Go.Proofs.YtlhmimbooampdaaGreatDoor

/- Part Q12. -/

namespace Go.Proofs.YtlhmimbooampdaaGreatDoor
open Go.RowKit Nd

theorem aw1 : fmtL (sq (fsg 6 (-4)) (6 : Int).natAbs (-4 : Int).natAbs) = [45, 51, 47, 50] := by decide +kernel
theorem aw2 : fmtL (flo (sq (fsg 6 (-4)) (6 : Int).natAbs (-4 : Int).natAbs)) = [45, 50] := by decide +kernel
theorem aw3 : (parseP [51, 46, 50, 53, 48]).1 = 0 := by decide +kernel
theorem aw4 : fmtL (parseP [51, 46, 50, 53, 48]).2 = [49, 51, 47, 52] := by decide +kernel
theorem aw5 : decimalL (sq (fsg (-2) 3) (-2 : Int).natAbs (3 : Int).natAbs) (clampP 2) = [45, 48, 46, 54, 54] := by decide +kernel
theorem bdw1 : Bd 8 (sq (fsg 6 (-4)) (6 : Int).natAbs (-4 : Int).natAbs) := ⟨by decide +kernel, by decide +kernel⟩
theorem bdw2 : Bd 8 (flo (sq (fsg 6 (-4)) (6 : Int).natAbs (-4 : Int).natAbs)) := ⟨by decide +kernel, by decide +kernel⟩
theorem bdw3 : Bd 8 (parseP [51, 46, 50, 53, 48]).2 := ⟨by decide +kernel, by decide +kernel⟩
theorem bdw4 : Bd 8 (sq (fsg (-2) 3) (-2 : Int).natAbs (3 : Int).natAbs) := ⟨by decide +kernel, by decide +kernel⟩
theorem str_lit {s : ByteArray} {l : List UInt8} (h : s.data.toList = l) : s = ⟨l.toArray⟩ := by
  apply ByteArray.ext
  exact Array.toList_inj.1 (by rw [h])

set_option maxRecDepth 20000 in
set_option maxHeartbeats 2000000 in
theorem awake2_any (w : World) : Calls Tryz.prog 8 #[] w fun e w' => e = .returned (.bool true) ∧ Chg [] w w' := by
  have hch : Chg [] w w := Chg.refl _ _
  obtain ⟨q1, Q1⟩ := name_it (sq (fsg 6 (-4)) (6 : Int).natAbs (-4 : Int).natAbs)
  obtain ⟨q2, Q2⟩ := name_it (parseP [51, 46, 50, 53, 48]).2
  obtain ⟨q3, Q3'⟩ := name_it (sq (fsg (-2) 3) (-2 : Int).natAbs (3 : Int).natAbs)
  have v1 : Hid (fmtL q1 = [45, 51, 47, 50] ∧ fmtL (flo q1) = [45, 50] ∧ Bd 8 q1 ∧ Bd 8 (flo q1)) := by show _ ∧ _; rw [← Q1.out]; exact ⟨aw1, aw2, bdw1, bdw2⟩
  have v2 : Hid (fmtL q2 = [49, 51, 47, 52] ∧ Bd 8 q2) := by show _ ∧ _; rw [← Q2.out]; exact ⟨aw4, bdw3⟩
  have v3 : Hid (decimalL q3 (clampP 2) = [45, 48, 46, 54, 54] ∧ Bd 8 q3) := by show _ ∧ _; rw [← Q3'.out]; exact ⟨aw5, bdw4⟩
  go_enter Tryz.func8, Tryz.ntmps8
  go_wp2_with fail
  refine (Fraction_any 6 (-4) _ (by omega) (by omega) (by omega) (by omega) (by omega)).mono ?_
  rintro e w1 ⟨x1, rfl, hx, c1⟩
  rw [Q1.out] at hx
  have X1 := Lib.hid hx
  replace hch := hch.then c1
  clear hx c1
  have b1 := Blk3.alloc w1 (.bool x1.neg) (.string x1.num) (.string x1.den) 27
  replace hch := hch.then ((Chg.refl [] w1).alloc (.cells #[.bool x1.neg, .string x1.num, .string x1.den] 27))
  obtain ⟨g1, G1⟩ := name_it w1.heap.size
  rw [G1.out] at b1
  have hg1 := G1.out
  go_wp2_with fail
  refine (Parse_any ⟨#[51, 46, 50, 53, 48]⟩ _ (by decide)).mono ?_
  rintro e w1 ⟨x2, rfl, hx, c1⟩
  have hp3 : (parseP (⟨#[51, 46, 50, 53, 48]⟩ : ByteArray).data.toList).1 = 0 := aw3
  rw [hp3]
  clear hp3
  change Enc x2 (parseP [51, 46, 50, 53, 48]).2 at hx
  rw [Q2.out] at hx
  have X2 := Lib.hid hx
  replace hch := hch.then c1
  replace b1 := b1.keep c1 (by simp)
  clear hx c1
  have b2 := Blk3.alloc w1 (.bool x2.neg) (.string x2.num) (.string x2.den) 27
  replace b1 := b1.keep ((Chg.refl [] w1).alloc (.cells #[.bool x2.neg, .string x2.num, .string x2.den] 27)) (by simp)
  replace hch := hch.then ((Chg.refl [] w1).alloc (.cells #[.bool x2.neg, .string x2.num, .string x2.den] 27))
  obtain ⟨g2, G2⟩ := name_it w1.heap.size
  rw [G2.out] at b2
  have hg2 := G2.out
  go_wp2_with fail
  refine (Fraction_any (-2) 3 _ (by omega) (by omega) (by omega) (by omega) (by omega)).mono ?_
  rintro e w1 ⟨x3, rfl, hx, c1⟩
  rw [Q3'.out] at hx
  have X3 := Lib.hid hx
  replace hch := hch.then c1
  replace b1 := b1.keep c1 (by simp)
  replace b2 := b2.keep c1 (by simp)
  clear hx c1
  have b3 := Blk3.alloc w1 (.bool x3.neg) (.string x3.num) (.string x3.den) 27
  replace b1 := b1.keep ((Chg.refl [] w1).alloc (.cells #[.bool x3.neg, .string x3.num, .string x3.den] 27)) (by simp)
  replace b2 := b2.keep ((Chg.refl [] w1).alloc (.cells #[.bool x3.neg, .string x3.num, .string x3.den] 27)) (by simp)
  replace hch := hch.then ((Chg.refl [] w1).alloc (.cells #[.bool x3.neg, .string x3.num, .string x3.den] 27))
  obtain ⟨g3, G3⟩ := name_it w1.heap.size
  rw [G3.out] at b3
  have hg3 := G3.out
  go_upto_region 4 with fail
  obtain ⟨w0, HW0⟩ := name_it (w1.alloc (.cells #[.bool x3.neg, .string x3.num, .string x3.den] 27))
  rw [HW0.out] at b1 b2 b3 hch ⊢
  have b1c0 := b1.c0
  have b1c1 := b1.c1
  have b1c2 := b1.c2
  have b2c0 := b2.c0
  have b2c1 := b2.c1
  have b2c2 := b2.c2
  have b3c0 := b3.c0
  have b3c1 := b3.c1
  have b3c2 := b3.c2
  go_wp2_with fail
  refine (Format_any x1 8 _ (X1.out.fits v1.out.2.2.1) (by omega) (by omega)).mono ?_
  rintro e w1 ⟨s, rfl, hs, c1⟩
  clear b1c0 b1c1 b1c2 b2c0 b2c1 b2c2 b3c0 b3c1 b3c2
  replace b1 := b1.keep c1 (by simp)
  replace b2 := b2.keep c1 (by simp)
  replace b3 := b3.keep c1 (by simp)
  replace hch := hch.then c1
  clear c1
  rw [X1.out.rat, v1.out.1] at hs
  obtain rfl : s = ⟨#[45, 51, 47, 50]⟩ := str_lit hs
  clear hs
  have b1c0 := b1.c0
  have b1c1 := b1.c1
  have b1c2 := b1.c2
  have b2c0 := b2.c0
  have b2c1 := b2.c1
  have b2c2 := b2.c2
  have b3c0 := b3.c0
  have b3c1 := b3.c1
  have b3c2 := b3.c2
  go_wp2_with fail
  refine (Floor_any x1 8 _ (X1.out.fits v1.out.2.2.1) (by omega) (by omega)).mono ?_
  rintro e w1 ⟨z, rfl, hz, c1⟩
  clear b1c0 b1c1 b1c2 b2c0 b2c1 b2c2 b3c0 b3c1 b3c2
  replace b1 := b1.keep c1 (by simp)
  replace b2 := b2.keep c1 (by simp)
  replace b3 := b3.keep c1 (by simp)
  replace hch := hch.then c1
  clear c1
  rw [X1.out.rat] at hz
  have Z := Lib.hid hz
  clear hz
  have b1c0 := b1.c0
  have b1c1 := b1.c1
  have b1c2 := b1.c2
  have b2c0 := b2.c0
  have b2c1 := b2.c1
  have b2c2 := b2.c2
  have b3c0 := b3.c0
  have b3c1 := b3.c1
  have b3c2 := b3.c2
  go_wp2_with fail
  refine (Format_any z 8 _ (Z.out.fits v1.out.2.2.2) (by omega) (by omega)).mono ?_
  rintro e w1 ⟨s, rfl, hs, c1⟩
  clear b1c0 b1c1 b1c2 b2c0 b2c1 b2c2 b3c0 b3c1 b3c2
  replace b1 := b1.keep c1 (by simp)
  replace b2 := b2.keep c1 (by simp)
  replace b3 := b3.keep c1 (by simp)
  replace hch := hch.then c1
  clear c1
  rw [Z.out.rat, v1.out.2.1] at hs
  obtain rfl : s = ⟨#[45, 50]⟩ := str_lit hs
  clear hs
  have b1c0 := b1.c0
  have b1c1 := b1.c1
  have b1c2 := b1.c2
  have b2c0 := b2.c0
  have b2c1 := b2.c1
  have b2c2 := b2.c2
  have b3c0 := b3.c0
  have b3c1 := b3.c1
  have b3c2 := b3.c2
  go_wp2_with fail
  refine (Format_any x2 8 _ (X2.out.fits v2.out.2) (by omega) (by omega)).mono ?_
  rintro e w1 ⟨s, rfl, hs, c1⟩
  clear b1c0 b1c1 b1c2 b2c0 b2c1 b2c2 b3c0 b3c1 b3c2
  replace b1 := b1.keep c1 (by simp)
  replace b2 := b2.keep c1 (by simp)
  replace b3 := b3.keep c1 (by simp)
  replace hch := hch.then c1
  clear c1
  rw [X2.out.rat, v2.out.1] at hs
  obtain rfl : s = ⟨#[49, 51, 47, 52]⟩ := str_lit hs
  clear hs
  have b1c0 := b1.c0
  have b1c1 := b1.c1
  have b1c2 := b1.c2
  have b2c0 := b2.c0
  have b2c1 := b2.c1
  have b2c2 := b2.c2
  have b3c0 := b3.c0
  have b3c1 := b3.c1
  have b3c2 := b3.c2
  go_wp2_with fail
  refine (Decimal_any x3 2 8 _ (X3.out.fits v3.out.2) (by omega) (by omega) (by omega) (by omega)).mono ?_
  rintro e w1 ⟨s, rfl, hs, c1⟩
  clear b1c0 b1c1 b1c2 b2c0 b2c1 b2c2 b3c0 b3c1 b3c2
  replace b1 := b1.keep c1 (by simp)
  replace b2 := b2.keep c1 (by simp)
  replace b3 := b3.keep c1 (by simp)
  replace hch := hch.then c1
  clear c1
  rw [X3.out.rat, v3.out.1] at hs
  obtain rfl : s = ⟨#[45, 48, 46, 54, 54]⟩ := str_lit hs
  clear hs
  have b1c0 := b1.c0
  have b1c1 := b1.c1
  have b1c2 := b1.c2
  have b2c0 := b2.c0
  have b2c1 := b2.c1
  have b2c2 := b2.c2
  have b3c0 := b3.c0
  have b3c1 := b3.c1
  have b3c2 := b3.c2
  go_wp2_with fail
  go_ret
  exact ⟨rfl, hch⟩

def shortQ (x : Q3) : Bool := decide (x.num.size ≤ 24) && decide (x.den.size ≤ 24)
def fewQ (l : List Q3) : Bool := l.all shortQ
def q0 : Q3 := ⟨false, ⟨#[]⟩, ⟨#[]⟩⟩

set_option maxRecDepth 20000 in
set_option maxHeartbeats 1000000 in
theorem Few_any (x : Q3) (w : World) : Calls Tryz.prog 26 #[.agg #[.bool x.neg, .string x.num, .string x.den]] w fun e w' => e = .returned (.bool (shortQ x)) ∧ Chg [] w w' := by
  have b1 := Blk3.alloc w (.bool x.neg) (.string x.num) (.string x.den) 27
  have hch : Chg [] w (w.alloc (.cells #[.bool x.neg, .string x.num, .string x.den] 27)) := (Chg.refl _ _).alloc _
  obtain ⟨r, HR⟩ := name_it (shortQ x)
  have hr := HR.out
  unfold shortQ at hr
  rw [HR.out]
  by_cases h1 : x.num.size ≤ 24 <;> by_cases h2 : x.den.size ≤ 24
  all_goals
    go_enter Tryz.func26, Tryz.ntmps26
    go_wp2_with fail
    go_ret
    exact ⟨ret_eq (by rw [← hr]; simp [h1, h2] <;> omega), hch⟩
end Go.Proofs.YtlhmimbooampdaaGreatDoor
