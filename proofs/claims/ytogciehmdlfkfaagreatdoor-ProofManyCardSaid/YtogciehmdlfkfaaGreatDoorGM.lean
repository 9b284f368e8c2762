/-
  Several parts put together: Q10, Q11, Q12.
-/
import Derived.Test.YtogciehmdlfkfaaGreatDoorGL
import Derived.Test.YtogciehmdlfkfaaGreatDoorGF
/- Part Q10. -/

namespace Go.Proofs.YtogciehmdlfkfaaGreatDoor
open Go.RowKit Nd

/-- The text of a number. -/
def fmtL (q : Rat) : List UInt8 := (if q.num < 0 then [45] else []) ++ (decL q.num.natAbs ++ (if q.den = 1 then [] else 47 :: decL q.den))
theorem pow256_10 (k : Nat) : 256 ^ k ≤ 10 ^ (3 * k) := by rw [Nat.pow_mul]; exact Nat.pow_le_pow_left (by omega) k
theorem dec_size {t : ByteArray} {n k : Nat} (h : Dec t.data.toList n) (hn : n < 256 ^ k) (hk : 1 ≤ k) : t.size ≤ 3 * k := by
  rw [← size_len, decL_of h]
  exact decL_len (Nat.lt_of_lt_of_le hn (pow256_10 k)) (by omega)
theorem app_list (a b : ByteArray) : (a ++ b).data.toList = a.data.toList ++ b.data.toList := by simp

set_option maxRecDepth 20000 in
set_option maxHeartbeats 1000000 in
theorem Format_any (a : Q3) (k : Nat) (w : World) (fa : fits a k) (hk1 : 1 ≤ k) (hk : k ≤ 68719476736) :
    Calls Tryz.prog 72 #[.agg #[.bool a.neg, .string a.num, .string a.den]] w fun e w' => ∃ s : ByteArray, e = .returned (.string s) ∧ s.data.toList = fmtL (ratOf a) ∧ Chg [] w w' := by
  have b1 := Blk3.alloc w (.bool a.neg) (.string a.num) (.string a.den) 25
  have hch : Chg [] w (w.alloc (.cells #[.bool a.neg, .string a.num, .string a.den] 25)) := (Chg.refl _ _).alloc _
  have BA := Lib.hid (fa.bd (by omega) : Bd k (ratOf a))
  obtain ⟨fa1, fa2⟩ := fa
  obtain ⟨p, HP⟩ := name_it (ratOf a)
  rw [HP.out] at BA ⊢
  obtain ⟨r, HR⟩ := name_it (fmtL p)
  rw [HR.out]
  go_enter Tryz.func72, Tryz.ntmps72
  go_wp2_with fail
  refine (counted_any a _ (by omega) (by omega)).mono ?_
  rintro e w1 ⟨y, rfl, hy, c1⟩
  replace b1 := b1.keep c1 (by simp)
  replace hch := hch.then c1
  clear c1
  rw [HP.out] at hy
  have HY := Lib.hid hy
  clear hy
  have b1c0 := b1.c0
  have b1c1 := b1.c1
  have b1c2 := b1.c2
  have b1f0 := b1.f0
  have b1f1 := b1.f1
  have b1f2 := b1.f2
  have b1l := b1.lt
  have zn := HY.out.num_size BA.out
  have zd : y.den.size ≤ k := (HY.out.fits BA.out).2
  go_wp2_with fail
  replace b1 := b1.store (.bool y.neg) (.string y.num) (.string y.den)
  replace hch := hch.store3 (.inr (Nat.le_refl _)) (.bool y.neg) (.string y.num) (.string y.den)
  clear b1c0 b1c1 b1c2 b1f0 b1f1 b1f2 b1l
  obtain ⟨w2, HW2⟩ := name_it (((w1.setCell ⟨w.heap.size, 0, none⟩ (.bool y.neg)).setCell ⟨w.heap.size, 1, none⟩ (.string y.num)).setCell ⟨w.heap.size, 2, none⟩ (.string y.den))
  rw [HW2.out] at b1 hch ⊢
  refine (format_any y.num _ (by omega)).mono ?_
  rintro e w1 ⟨t, rfl, ht, c1⟩
  replace b1 := b1.keep c1 (by simp)
  replace hch := hch.then c1
  clear c1
  rw [Is_val HY.out.num] at ht
  have zt := dec_size ht BA.out.1 hk1
  have HT := Lib.hid (decL_of ht)
  clear ht
  have b1c0 := b1.c0
  have b1c1 := b1.c1
  have b1c2 := b1.c2
  have b1f0 := b1.f0
  have b1f1 := b1.f1
  have b1f2 := b1.f2
  have b1l := b1.lt
  have hde := Is_empty HY.out.den
  have hyn := Lib.hid HY.out.neg
  have hdz := p.den_nz
  by_cases h1 : p.den = 1
  · have hde2 : y.den.toList.isEmpty = true := by rw [hde]; simp [h1]
    by_cases hn : y.neg = true
    · have hr : Hid (r = 45 :: decL p.num.natAbs) := by
        show _ = _
        rw [← HR.out]; unfold fmtL
        have : p.num < 0 := by have := hyn.out; rw [hn] at this; simpa using this.symm
        rw [if_pos this, if_pos h1]; simp
      clear hde h1 hdz
      go_wp2_with fail
      go_ret
      exact ⟨_, rfl, by rw [hr.out, app_list, HT.out]; rfl, hch⟩
    · have hn' : y.neg = false := by simpa using hn
      have hr : Hid (r = decL p.num.natAbs) := by
        show _ = _
        rw [← HR.out]; unfold fmtL
        have : ¬ p.num < 0 := by have := hyn.out; rw [hn'] at this; simpa using this.symm
        rw [if_neg this, if_pos h1]; simp
      clear hde h1 hdz hn
      go_wp2_with fail
      go_ret
      exact ⟨_, rfl, by rw [hr.out, HT.out], hch⟩
  · have hde2 : y.den.toList.isEmpty = false := by rw [hde]; simp [h1, hdz]
    have hvd : Hid (val y.den = p.den) := by
      have := HY.out.den
      rw [if_neg h1] at this
      exact Is_val this
    have H1 := Lib.hid h1
    clear hde h1 hdz
    go_wp2_with fail
    refine (format_any y.den _ (by omega)).mono ?_
    rintro e w1 ⟨u, rfl, hu, c1⟩
    clear b1c0 b1c1 b1c2 b1f0 b1f1 b1f2 b1l
    replace b1 := b1.keep c1 (by simp)
    replace hch := hch.then c1
    clear c1
    rw [hvd.out] at hu
    have zu := dec_size hu BA.out.2 hk1
    have HU := Lib.hid (decL_of hu)
    clear hu
    have b1c0 := b1.c0
    have b1c1 := b1.c1
    have b1c2 := b1.c2
    have b1f0 := b1.f0
    have b1f1 := b1.f1
    have b1f2 := b1.f2
    have b1l := b1.lt
    by_cases hn : y.neg = true
    · have hr : Hid (r = 45 :: (decL p.num.natAbs ++ 47 :: decL p.den)) := by
        show _ = _
        rw [← HR.out]; unfold fmtL
        have : p.num < 0 := by have := hyn.out; rw [hn] at this; simpa using this.symm
        rw [if_pos this, if_neg H1.out]; simp
      go_wp2_with fail
      go_ret
      exact ⟨_, rfl, by rw [hr.out]; simp only [app_list]; rw [HT.out, HU.out]; rfl, hch⟩
    · have hn' : y.neg = false := by simpa using hn
      have hr : Hid (r = decL p.num.natAbs ++ 47 :: decL p.den) := by
        show _ = _
        rw [← HR.out]; unfold fmtL
        have : ¬ p.num < 0 := by have := hyn.out; rw [hn'] at this; simpa using this.symm
        rw [if_neg this, if_neg H1.out]; simp
      clear hn
      go_wp2_with fail
      go_ret
      exact ⟨_, rfl, by rw [hr.out]; simp only [app_list]; rw [HT.out, HU.out]; rfl, hch⟩

end Go.Proofs.YtogciehmdlfkfaaGreatDoor

/- Part Q11. -/

namespace Go.Proofs.YtogciehmdlfkfaaGreatDoor
open Go.RowKit Nd

theorem Chg.of_below {w w' : World} (h : Below w.heap.size w w') : Chg [] w w' := ⟨h.os, h.tape, h.output, h.size, fun k hk _ => h.block k hk⟩
theorem repeat_one (c : UInt8) : ∀ n : Nat, Lib.repeatL [c] n = List.replicate n c
  | 0 => rfl
  | n + 1 => by rw [Lib.repeatL, repeat_one c n, List.replicate_succ]; rfl
/-- How many places are shown. -/
def clampP (n : Int) : Nat := (min (max n 0) 20).toNat
theorem clampP_eq (n : Int) : min (max n 0) 20 = (clampP n : Int) := by unfold clampP; omega
theorem clampP_le (n : Int) : clampP n ≤ 20 := by unfold clampP; omega
def padL (pl : Nat) (T : List UInt8) : List UInt8 := List.replicate (pl + 1 - T.length) 48 ++ T
def pointL (pl : Nat) (T : List UInt8) : List UInt8 := if 0 < pl then T.take (T.length - pl) ++ 46 :: T.drop (T.length - pl) else T
def scaleQ (q : Rat) (pl : Nat) : Nat := q.num.natAbs * 10 ^ pl / q.den
def decimalL (q : Rat) (pl : Nat) : List UInt8 := (if q.num < 0 ∧ scaleQ q pl ≠ 0 then [45] else []) ++ pointL pl (padL pl (decL (scaleQ q pl)))
theorem pad_len (pl : Nat) (T : List UInt8) : pl + 1 ≤ (padL pl T).length := by unfold padL; rw [List.length_append, List.length_replicate]; omega

end Go.Proofs.YtogciehmdlfkfaaGreatDoor

/- Part Q12. -/

namespace Go.Proofs.YtogciehmdlfkfaaGreatDoor
open Go.RowKit Nd

theorem aw1 : fmtL (sq (fsg 6 (-4)) (6 : Int).natAbs (-4 : Int).natAbs) = [45, 51, 47, 50] := by decide +kernel
theorem aw2 : fmtL (flo (sq (fsg 6 (-4)) (6 : Int).natAbs (-4 : Int).natAbs)) = [45, 50] := by decide +kernel
theorem aw3 : (parseP [51, 46, 50, 53, 48]).1 = 0 := by decide +kernel
theorem aw4 : fmtL (parseP [51, 46, 50, 53, 48]).2 = [49, 51, 47, 52] := by decide +kernel
theorem aw5 : decimalL (sq (fsg (-2) 3) (-2 : Int).natAbs (3 : Int).natAbs) (clampP 2) = [45, 48, 46, 54, 54] := by decide +kernel
theorem bdw1 : Bd 8 (sq (fsg 6 (-4)) (6 : Int).natAbs (-4 : Int).natAbs) := ⟨by decide +kernel, by decide +kernel⟩
theorem bdw2 : Bd 8 (flo (sq (fsg 6 (-4)) (6 : Int).natAbs (-4 : Int).natAbs)) := ⟨by decide +kernel, by decide +kernel⟩
theorem bdw3 : Bd 8 (parseP [51, 46, 50, 53, 48]).2 := ⟨by decide +kernel, by decide +kernel⟩
theorem bdw4 : Bd 8 (sq (fsg (-2) 3) (-2 : Int).natAbs (3 : Int).natAbs) := ⟨by decide +kernel, by decide +kernel⟩
theorem str_lit {s : ByteArray} {l : List UInt8} (h : s.data.toList = l) : s = ⟨l.toArray⟩ := by
  apply ByteArray.ext
  exact Array.toList_inj.1 (by rw [h])

def shortQ (x : Q3) : Bool := decide (x.num.size ≤ 24) && decide (x.den.size ≤ 24)
def fewQ (l : List Q3) : Bool := l.all shortQ
def q0 : Q3 := ⟨false, ⟨#[]⟩, ⟨#[]⟩⟩

set_option maxRecDepth 20000 in
set_option maxHeartbeats 1000000 in
theorem Few_any (x : Q3) (w : World) : Calls Tryz.prog 29 #[.agg #[.bool x.neg, .string x.num, .string x.den]] w fun e w' => e = .returned (.bool (shortQ x)) ∧ Chg [] w w' := by
  have b1 := Blk3.alloc w (.bool x.neg) (.string x.num) (.string x.den) 25
  have hch : Chg [] w (w.alloc (.cells #[.bool x.neg, .string x.num, .string x.den] 25)) := (Chg.refl _ _).alloc _
  obtain ⟨r, HR⟩ := name_it (shortQ x)
  have hr := HR.out
  unfold shortQ at hr
  rw [HR.out]
  by_cases h1 : x.num.size ≤ 24 <;> by_cases h2 : x.den.size ≤ 24
  all_goals
    go_enter Tryz.func29, Tryz.ntmps29
    go_wp2_with fail
    go_ret
    exact ⟨ret_eq (by rw [← hr]; simp [h1, h2] <;> omega), hch⟩
end Go.Proofs.YtogciehmdlfkfaaGreatDoor
