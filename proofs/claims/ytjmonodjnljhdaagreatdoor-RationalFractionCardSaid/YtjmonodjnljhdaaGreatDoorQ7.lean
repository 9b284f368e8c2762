/-
  Walks of package rational: powerOfTen, first, parseDigits.
-/
import Derived.Test.YtjmonodjnljhdaaGreatDoorQ6
import Derived.Test.YtjmonodjnljhdaaGreatDoorW15
namespace Go.Proofs.YtjmonodjnljhdaaGreatDoor
open Go.RowKit Nd

theorem pow10_lt (n : Nat) : 10 ^ n < 256 ^ (n + 1) := Nat.lt_of_le_of_lt (Nat.pow_le_pow_left (by omega) n) (Nat.pow_lt_pow_right (by omega) (by omega))
theorem pow10_half (n : Nat) : 10 ^ n = 10 ^ (n / 2) * 10 ^ (n / 2) * (if n % 2 = 1 then 10 else 1) := by
  rw [← Nat.pow_add]
  by_cases h : n % 2 = 1
  · rw [if_pos h, ← Nat.pow_succ]; congr 1; omega
  · rw [if_neg h, Nat.mul_one]; congr 1; omega

set_option maxRecDepth 20000 in
theorem pow10_any (k : Nat) : ∀ (n : Nat) (w : World), n ≤ k → n ≤ 1000000 →
    Calls Tryz.prog 94 #[.int .i64 n] w fun e w' => ∃ s, e = .returned (.string s) ∧ Is s (10 ^ n) ∧ Chg [] w w' := by
  induction k with
  | zero =>
    intro n w hk _
    obtain rfl : n = 0 := by omega
    go_enter Tryz.func94, Tryz.ntmps94
    go_wp2_with fail
    go_ret
    exact ⟨_, rfl, Is_one.2 rfl, Chg.refl _ _⟩
  | succ k ih =>
    intro n w hk hn
    by_cases h0 : n = 0
    · subst h0
      go_enter Tryz.func94, Tryz.ntmps94
      go_wp2_with fail
      go_ret
      exact ⟨_, rfl, Is_one.2 rfl, Chg.refl _ _⟩
    · have hb : ((n : Int) == 0) = false := by rw [beq_eq_false_iff_ne]; omega
      have hh := Lib.hid (pow10_half n)
      obtain ⟨h, HH⟩ := name_it (n / 2)
      have hhb : h ≤ 1000000 := by have := HH.out; omega
      have he : Hid ((n : Int) / 2 = (h : Int)) := by show _ = _; rw [← HH.out]; omega
      have hhk : h ≤ k := by have := HH.out; omega
      rw [HH.out] at hh
      clear h0 hk
      go_enter Tryz.func94, Tryz.ntmps94
      go_wp2_with fail
      rw [he.out]
      refine (ih h _ hhk hhb).mono ?_
      rintro e w1 ⟨s, rfl, hs, c1⟩
      have zs : s.size ≤ 1099511627776 := Nat.le_trans (Is_size hs _ (pow10_lt h)) (by omega)
      have HS := Lib.hid hs
      clear hs
      go_wp2_with fail
      refine (multiply_any s s _ zs zs).mono ?_
      rintro e w2 ⟨t, rfl, ht, c2⟩
      rw [Is_val HS.out] at ht
      have zt : t.size ≤ 1099511627776 := by
        have h1 := mul_lt_pow (pow10_lt h) (pow10_lt h)
        exact Nat.le_trans (Is_size ht _ h1) (by omega)
      have HT := Lib.hid ht
      have hch := c1.then c2
      clear ht c1 c2
      by_cases hodd : n % 2 = 1
      · have hob : ((n : Int) % 2 == 1) = true := by rw [beq_iff_eq]; omega
        rw [if_pos hodd] at hh
        clear hodd
        go_wp2_with fail
        refine (multiply_any t ⟨#[10]⟩ _ zt (by decide)).mono ?_
        rintro e w3 ⟨u, rfl, hu, c3⟩
        rw [Is_val HT.out, show val ⟨#[10]⟩ = 10 from rfl] at hu
        have HU := Lib.hid hu
        clear hu
        go_wp2_with fail
        go_ret
        exact ⟨u, rfl, by rw [hh.out]; exact HU.out, hch.then c3⟩
      · have hob : ((n : Int) % 2 == 1) = false := by rw [beq_eq_false_iff_ne]; omega
        rw [if_neg hodd, Nat.mul_one] at hh
        clear hodd
        go_wp2_with fail
        go_ret
        exact ⟨t, rfl, by rw [hh.out]; exact HT.out, hch⟩

/-- The error that comes first. -/
def firstE (a b : Int) : Int := if a = 0 ∨ b = 3 then b else a
set_option maxRecDepth 20000 in
theorem first_any (a b : Int) (w : World) :
    Calls Tryz.prog 119 #[.int .i64 a, .int .i64 b] w fun e w' => e = .returned (.int .i64 (firstE a b)) ∧ w = w' := by
  obtain ⟨r, HR⟩ := name_it (firstE a b)
  rw [HR.out]
  by_cases ha : a = 0
  · have hr : Hid (r = b) := by show _ = _; rw [← HR.out]; unfold firstE; rw [if_pos (.inl ha)]
    subst ha
    go_enter Tryz.func119, Tryz.ntmps119
    go_wp2_with fail
    go_ret
    exact ⟨ret_eq (by rw [hr.out]; rfl), rfl⟩
  · have ha1 : (a == 0) = false := by rw [beq_eq_false_iff_ne]; exact ha
    by_cases hb : b = 3
    · have hr : Hid (r = b) := by show _ = _; rw [← HR.out]; unfold firstE; rw [if_pos (.inr hb)]
      subst hb
      clear ha
      go_enter Tryz.func119, Tryz.ntmps119
      go_wp2_with fail
      go_ret
      exact ⟨ret_eq (by rw [hr.out]; rfl), rfl⟩
    · have hb1 : (b == 3) = false := by rw [beq_eq_false_iff_ne]; exact hb
      have hr : Hid (r = a) := by show _ = _; rw [← HR.out]; unfold firstE; rw [if_neg (by intro h; rcases h with h | h; exact ha h; exact hb h)]
      clear ha hb
      go_enter Tryz.func119, Tryz.ntmps119
      go_wp2_with fail
      go_ret
      exact ⟨ret_eq (by rw [hr.out]; rfl), rfl⟩

/-- The error of a number in decimal. -/
def pE (l : List UInt8) : Int := if canD l = true then (if 2000 < l.length then 2 else 0) else 3
theorem pE_cases (l : List UInt8) : pE l = 0 ∨ pE l = 2 ∨ pE l = 3 := by unfold pE; split <;> (try split) <;> simp
theorem size_len (s : ByteArray) : s.data.toList.length = s.size := by simp only [ByteArray.size, Array.length_toList]
theorem dv_size {s t : ByteArray} (h : Is t (dv s.data.toList)) (hall : s.data.toList.all isD = true) : t.size ≤ s.size := by
  refine Is_size h _ ?_
  have := dv_lt _ hall
  rw [size_len] at this
  exact Nat.lt_of_lt_of_le this (Nat.pow_le_pow_left (by omega) _)
theorem canD_all {l : List UInt8} (h : canD l = true) : l.all isD = true := by simp only [canD, Bool.and_eq_true] at h; exact h.1.2

theorem parse_all (s : ByteArray) (w : World) (hs : s.size ≤ 1099511627776) :
    Calls Tryz.prog 118 #[.string s] w fun e w' => ∃ t, e = .returned (.tuple #[.string t, .int .i64 (pE s.data.toList)]) ∧ (pE s.data.toList = 0 → Is t (dv s.data.toList)) ∧ t.size ≤ 2000 ∧ Chg [] w w' := by
  by_cases hc : canD s.data.toList = true
  · by_cases hl : 2000 < s.size
    · have he : pE s.data.toList = 2 := by unfold pE; rw [if_pos hc, if_pos (by rw [size_len]; exact hl)]
      refine (parse_long s w hs hc hl).mono fun e w' ⟨h1, h2⟩ => ?_
      subst h2
      exact ⟨_, by rw [he]; exact h1, fun h => by rw [he] at h; simp at h, by decide, Chg.refl _ _⟩
    · have he : pE s.data.toList = 0 := by unfold pE; rw [if_pos hc, if_neg (by rw [size_len]; exact hl)]
      refine (parse_good s w hc (by omega)).mono fun e w' ⟨t, h1, h2, h3⟩ => ?_
      exact ⟨t, by rw [he]; exact h1, fun _ => h2, Nat.le_trans (dv_size h2 (canD_all hc)) (by omega), h3⟩
  · have hc' : canD s.data.toList = false := by simpa using hc
    have he : pE s.data.toList = 3 := by unfold pE; rw [if_neg hc]
    refine (parse_bad s w hs hc').mono fun e w' ⟨h1, h2⟩ => ?_
    subst h2
    exact ⟨_, by rw [he]; exact h1, fun h => by rw [he] at h; simp at h, by decide, Chg.refl _ _⟩

/-- The error of digits behind a point. -/
def dE (l : List UInt8) : Int := if l.isEmpty then 3 else if l.all isD then (if 2000 < l.length then 2 else 0) else 3
theorem dE_cases (l : List UInt8) : dE l = 0 ∨ dE l = 2 ∨ dE l = 3 := by unfold dE; split <;> (try split) <;> (try split) <;> simp
theorem cut0_all' (l : List UInt8) : (cut0 l).all isD = l.all isD := by
  unfold cut0
  induction l with
  | nil => rfl
  | cons x l ih =>
    by_cases h : x = 48
    · subst h; simp [isD] at ih ⊢; exact ih
    · simp [h]
theorem cut0_len (l : List UInt8) : (cut0 l).length ≤ l.length := dropWhile_le _ _
theorem canD_cut0 {l : List UInt8} (h : cut0 l ≠ []) : canD (cut0 l) = l.all isD := by
  unfold canD
  rw [cut0_all']
  have h1 := cut0_head l
  have h2 : (cut0 l).isEmpty = false := by simpa using h
  rw [h2]; simp [h1]
theorem cut0_nil_all {l : List UInt8} (h : cut0 l = []) : l.all isD = true := by
  rw [← cut0_all', h]; rfl

set_option maxRecDepth 20000 in
theorem parseDigits_any (s : ByteArray) (w : World) (hs : s.size ≤ 1099511627776) :
    Calls Tryz.prog 120 #[.string s] w fun e w' => ∃ t, e = .returned (.tuple #[.string t, .int .i64 (dE s.data.toList)]) ∧ (dE s.data.toList = 0 → Is t (dv s.data.toList)) ∧ t.size ≤ 2000 ∧ Chg [] w w' := by
  obtain ⟨r, HR⟩ := name_it (dE s.data.toList)
  rw [HR.out]
  by_cases he : s.toList.isEmpty = true
  · have hr : Hid (r = 3) := by show _ = _; rw [← HR.out]; unfold dE; rw [← toList_data, if_pos he]
    go_enter Tryz.func120, Tryz.ntmps120
    go_wp2_with fail
    go_ret2
    exact ⟨_, ret_eq (by rw [hr.out]; rfl), fun h => by rw [hr.out] at h; simp at h, by decide, Chg.refl _ _⟩
  · have he' : s.toList.isEmpty = false := by simpa using he
    have hne : Hid (s.data.toList.isEmpty = false) := by show _ = _; rw [← toList_data]; exact he'
    clear he
    go_enter Tryz.func120, Tryz.ntmps120
    go_wp2_with fail
    refine (trimLeft_any s _ hs).mono ?_
    rintro e w1 ⟨t, rfl, ht, rfl⟩
    have HT := Lib.hid ht
    clear ht
    have zt : t.size ≤ s.size := by rw [← size_len, ← size_len, HT.out]; exact cut0_len _
    by_cases h0 : t.toList.isEmpty = true
    · have hcn : Hid (cut0 s.data.toList = []) := by show _ = _; rw [← HT.out, ← toList_data]; simpa using h0
      have hz : Hid (dv s.data.toList = 0) := by show _ = _; rw [← dv_cut0, hcn.out]; rfl
      by_cases hl : 2000 < s.size
      · have hr : Hid (r = 2) := by show _ = _; rw [← HR.out]; unfold dE; rw [hne.out, cut0_nil_all hcn.out, size_len]; simp [hl]
        go_wp2_with fail
        go_ret2
        exact ⟨_, ret_eq (by rw [hr.out]; rfl), fun h => by rw [hr.out] at h; simp at h, by decide, Chg.refl _ _⟩
      · have hr : Hid (r = 0) := by show _ = _; rw [← HR.out]; unfold dE; rw [hne.out, cut0_nil_all hcn.out, size_len]; simp [hl]
        go_wp2_with fail
        go_ret2
        exact ⟨_, ret_eq (by rw [hr.out]; rfl), fun _ => by rw [hz.out]; exact Is_zero.2 rfl, by decide, Chg.refl _ _⟩
    · have h0' : t.toList.isEmpty = false := by simpa using h0
      have hcn : Hid (cut0 s.data.toList ≠ []) := by
        show _ ≠ _
        rw [← HT.out, ← toList_data]; simpa using h0
      clear h0
      go_wp2_with fail
      refine (parse_all t _ (by omega)).mono ?_
      rintro e w2 ⟨v, rfl, hv, zv, c2⟩
      have HPE : Hid (pE t.data.toList = if s.data.toList.all isD = true then (if 2000 < t.size then 2 else 0) else 3) := by
        show _ = _
        unfold pE
        rw [size_len, HT.out, canD_cut0 hcn.out]
      rw [HT.out, dv_cut0, ← HT.out] at hv
      obtain ⟨q, HQ⟩ := name_it (pE t.data.toList)
      rw [HQ.out] at hv HPE ⊢
      have HV := Lib.hid hv
      clear hv
      by_cases hall : s.data.toList.all isD = true
      · rw [if_pos hall] at HPE
        by_cases hl : 2000 < s.size
        · have hr : Hid (r = 2) := by show _ = _; rw [← HR.out]; unfold dE; rw [hne.out, hall, size_len]; simp [hl]
          by_cases hl2 : 2000 < t.size
          · rw [if_pos hl2] at HPE
            obtain rfl : q = 2 := HPE.out
            clear hall
            go_wp2_with fail
            go_ret2
            exact ⟨_, ret_eq (by rw [hr.out]; rfl), fun h => by rw [hr.out] at h; simp at h, by omega, c2⟩
          · rw [if_neg hl2] at HPE
            obtain rfl : q = 0 := HPE.out
            clear hall
            go_wp2_with fail
            go_ret2
            exact ⟨_, ret_eq (by rw [hr.out]; rfl), fun h => by rw [hr.out] at h; simp at h, by decide, c2⟩
        · have hr : Hid (r = 0) := by show _ = _; rw [← HR.out]; unfold dE; rw [hne.out, hall, size_len]; simp [hl]
          rw [if_neg (by omega)] at HPE
          obtain rfl : q = 0 := HPE.out
          clear hall
          go_wp2_with fail
          go_ret2
          exact ⟨_, ret_eq (by rw [hr.out]; rfl), fun _ => by first | exact HV.out rfl | exact HV.out trivial, zv, c2⟩
      · have hr : Hid (r = 3) := by show _ = _; rw [← HR.out]; unfold dE; rw [hne.out]; simp only [Bool.false_eq_true, if_false]; rw [if_neg hall]
        rw [if_neg hall] at HPE
        obtain rfl : q = 3 := HPE.out
        clear hall
        go_wp2_with fail
        go_ret2
        exact ⟨_, ret_eq (by rw [hr.out]; rfl), fun h => by rw [hr.out] at h; simp at h, zv, c2⟩

end Go.Proofs.YtjmonodjnljhdaaGreatDoor
