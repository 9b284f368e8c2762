/-
  Walks of package rational: Format, Decimal.
-/
import Derived.Test.YtjmonodjnljhdaaDoorQ9
import Derived.Test.YtjmonodjnljhdaaDoorW16
namespace Go.Proofs.YtjmonodjnljhdaaDoor
open Go.RowKit Nd

/-- The text of a number. -/
def fmtL (q : Rat) : List UInt8 := (if q.num < 0 then [45] else []) ++ (decL q.num.natAbs ++ (if q.den = 1 then [] else 47 :: decL q.den))
theorem pow256_10 (k : Nat) : 256 ^ k ≤ 10 ^ (3 * k) := by rw [Nat.pow_mul]; exact Nat.pow_le_pow_left (by omega) k
theorem dec_size {t : ByteArray} {n k : Nat} (h : Dec t.data.toList n) (hn : n < 256 ^ k) (hk : 1 ≤ k) : t.size ≤ 3 * k := by
  rw [← size_len, decL_of h]
  exact decL_len (Nat.lt_of_lt_of_le hn (pow256_10 k)) (by omega)
theorem app_list (a b : ByteArray) : (a ++ b).data.toList = a.data.toList ++ b.data.toList := by simp

set_option maxRecDepth 20000 in
set_option maxHeartbeats 1000000 in
theorem Format_any (a : Q3) (k : Nat) (w : World) (fa : fits a k) (hk1 : 1 ≤ k) (hk : k ≤ 68719476736) :
    Calls Tryd.prog 42 #[.agg #[.bool a.neg, .string a.num, .string a.den]] w fun e w' => ∃ s : ByteArray, e = .returned (.string s) ∧ s.data.toList = fmtL (ratOf a) ∧ Chg [] w w' := by
  have b1 := Blk3.alloc w (.bool a.neg) (.string a.num) (.string a.den) 29
  have hch : Chg [] w (w.alloc (.cells #[.bool a.neg, .string a.num, .string a.den] 29)) := (Chg.refl _ _).alloc _
  have BA := Lib.hid (fa.bd (by omega) : Bd k (ratOf a))
  obtain ⟨fa1, fa2⟩ := fa
  obtain ⟨p, HP⟩ := name_it (ratOf a)
  rw [HP.out] at BA ⊢
  obtain ⟨r, HR⟩ := name_it (fmtL p)
  rw [HR.out]
  go_enter Tryd.func42, Tryd.ntmps42
  go_wp2_with fail
  refine (counted_any a _ (by omega) (by omega)).mono ?_
  rintro e w1 ⟨y, rfl, hy, c1⟩
  replace b1 := b1.keep c1 (by simp)
  replace hch := hch.then c1
  clear c1
  rw [HP.out] at hy
  have HY := Lib.hid hy
  clear hy
  have b1c0 := b1.c0
  have b1c1 := b1.c1
  have b1c2 := b1.c2
  have b1f0 := b1.f0
  have b1f1 := b1.f1
  have b1f2 := b1.f2
  have b1l := b1.lt
  have zn := HY.out.num_size BA.out
  have zd : y.den.size ≤ k := (HY.out.fits BA.out).2
  go_wp2_with fail
  replace b1 := b1.store (.bool y.neg) (.string y.num) (.string y.den)
  replace hch := hch.store3 (.inr (Nat.le_refl _)) (.bool y.neg) (.string y.num) (.string y.den)
  clear b1c0 b1c1 b1c2 b1f0 b1f1 b1f2 b1l
  obtain ⟨w2, HW2⟩ := name_it (((w1.setCell ⟨w.heap.size, 0, none⟩ (.bool y.neg)).setCell ⟨w.heap.size, 1, none⟩ (.string y.num)).setCell ⟨w.heap.size, 2, none⟩ (.string y.den))
  rw [HW2.out] at b1 hch ⊢
  refine (format_any y.num _ (by omega)).mono ?_
  rintro e w1 ⟨t, rfl, ht, c1⟩
  replace b1 := b1.keep c1 (by simp)
  replace hch := hch.then c1
  clear c1
  rw [Is_val HY.out.num] at ht
  have zt := dec_size ht BA.out.1 hk1
  have HT := Lib.hid (decL_of ht)
  clear ht
  have b1c0 := b1.c0
  have b1c1 := b1.c1
  have b1c2 := b1.c2
  have b1f0 := b1.f0
  have b1f1 := b1.f1
  have b1f2 := b1.f2
  have b1l := b1.lt
  have hde := Is_empty HY.out.den
  have hyn := Lib.hid HY.out.neg
  have hdz := p.den_nz
  by_cases h1 : p.den = 1
  · have hde2 : y.den.toList.isEmpty = true := by rw [hde]; simp [h1]
    by_cases hn : y.neg = true
    · have hr : Hid (r = 45 :: decL p.num.natAbs) := by
        show _ = _
        rw [← HR.out]; unfold fmtL
        have : p.num < 0 := by have := hyn.out; rw [hn] at this; simpa using this.symm
        rw [if_pos this, if_pos h1]; simp
      clear hde h1 hdz
      go_wp2_with fail
      go_ret
      exact ⟨_, rfl, by rw [hr.out, app_list, HT.out]; rfl, hch⟩
    · have hn' : y.neg = false := by simpa using hn
      have hr : Hid (r = decL p.num.natAbs) := by
        show _ = _
        rw [← HR.out]; unfold fmtL
        have : ¬ p.num < 0 := by have := hyn.out; rw [hn'] at this; simpa using this.symm
        rw [if_neg this, if_pos h1]; simp
      clear hde h1 hdz hn
      go_wp2_with fail
      go_ret
      exact ⟨_, rfl, by rw [hr.out, HT.out], hch⟩
  · have hde2 : y.den.toList.isEmpty = false := by rw [hde]; simp [h1, hdz]
    have hvd : Hid (val y.den = p.den) := by
      have := HY.out.den
      rw [if_neg h1] at this
      exact Is_val this
    have H1 := Lib.hid h1
    clear hde h1 hdz
    go_wp2_with fail
    refine (format_any y.den _ (by omega)).mono ?_
    rintro e w1 ⟨u, rfl, hu, c1⟩
    clear b1c0 b1c1 b1c2 b1f0 b1f1 b1f2 b1l
    replace b1 := b1.keep c1 (by simp)
    replace hch := hch.then c1
    clear c1
    rw [hvd.out] at hu
    have zu := dec_size hu BA.out.2 hk1
    have HU := Lib.hid (decL_of hu)
    clear hu
    have b1c0 := b1.c0
    have b1c1 := b1.c1
    have b1c2 := b1.c2
    have b1f0 := b1.f0
    have b1f1 := b1.f1
    have b1f2 := b1.f2
    have b1l := b1.lt
    by_cases hn : y.neg = true
    · have hr : Hid (r = 45 :: (decL p.num.natAbs ++ 47 :: decL p.den)) := by
        show _ = _
        rw [← HR.out]; unfold fmtL
        have : p.num < 0 := by have := hyn.out; rw [hn] at this; simpa using this.symm
        rw [if_pos this, if_neg H1.out]; simp
      go_wp2_with fail
      go_ret
      exact ⟨_, rfl, by rw [hr.out]; simp only [app_list]; rw [HT.out, HU.out]; rfl, hch⟩
    · have hn' : y.neg = false := by simpa using hn
      have hr : Hid (r = decL p.num.natAbs ++ 47 :: decL p.den) := by
        show _ = _
        rw [← HR.out]; unfold fmtL
        have : ¬ p.num < 0 := by have := hyn.out; rw [hn'] at this; simpa using this.symm
        rw [if_neg this, if_neg H1.out]; simp
      clear hn
      go_wp2_with fail
      go_ret
      exact ⟨_, rfl, by rw [hr.out]; simp only [app_list]; rw [HT.out, HU.out]; rfl, hch⟩

end Go.Proofs.YtjmonodjnljhdaaDoor
