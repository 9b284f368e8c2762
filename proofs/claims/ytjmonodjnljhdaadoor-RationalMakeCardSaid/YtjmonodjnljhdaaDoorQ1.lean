/-
  Walks of package rational: normal, denominator, signed, lowest.
-/
import Derived.Test.YtjmonodjnljhdaaDoorEnc
import Derived.Test.YtjmonodjnljhdaaDoorW12
import Derived.Laws.StructEq
namespace Go.Proofs.YtjmonodjnljhdaaDoor
open Go.RowKit Nd

theorem empty_iff (s : ByteArray) : s.toList.isEmpty = true ↔ s = ⟨#[]⟩ := by
  rw [toList_data]
  constructor
  · intro h
    apply ByteArray.ext
    apply Array.toList_inj.1
    simpa using h
  · rintro rfl; rfl
theorem one_iff (s : ByteArray) : (s.toList == [1]) = true ↔ s = ⟨#[1]⟩ := by
  rw [toList_data, beq_iff_eq]
  constructor
  · intro h
    apply ByteArray.ext
    apply Array.toList_inj.1
    simpa using h
  · rintro rfl; rfl
theorem Is_empty {s : ByteArray} {n : Nat} (h : Is s n) : s.toList.isEmpty = decide (n = 0) := by
  by_cases hn : n = 0
  · subst hn; rw [(empty_iff s).2 (Is_zero.1 h)]; rfl
  · have : ¬ s.toList.isEmpty = true := fun hc => hn (by have := (empty_iff s).1 hc; subst this; exact (Is_val h).symm)
    simp [hn] at this ⊢; simpa using this
theorem Is_isone {s : ByteArray} {n : Nat} (h : Is s n) : (s.toList == [1]) = decide (n = 1) := by
  by_cases hn : n = 1
  · subst hn; rw [(one_iff s).2 (Is_one.1 h)]; rfl
  · have : ¬ (s.toList == [1]) = true := fun hc => hn (by have := (one_iff s).1 hc; subst this; exact (Is_val h).symm)
    rw [Bool.not_eq_true] at this
    rw [this]; simp [hn]
theorem nolB_empty {s : ByteArray} (h : s.toList.isEmpty = true) : nolB s = true := by
  rw [(empty_iff s).1 h]; rfl
theorem nolB_first {s : ByteArray} (h : 0 < s.size) : nolB s = ((s[0].toNat : Int) != 0) := by
  unfold nolB
  have h1 := byte_get s 0 h
  rw [← List.head?_eq_getElem?] at h1
  rw [h1]
  by_cases h0 : s[0] = 0
  · simp [h0]
  · have : ¬ s[0].toNat = 0 := fun hc => h0 (UInt8.toNat_inj.1 (by simpa using hc))
    have h2 : ((s[0].toNat : Int) != 0) = true := by rw [bne_iff_ne]; omega
    rw [h2]; simp [h0]

set_option maxRecDepth 20000 in
theorem normal_any (s : ByteArray) (w : World) (hs : s.size ≤ 1099511627776) :
    Calls Tryd.prog 45 #[.string s] w fun e w' => e = .returned (.bool (nolB s)) ∧ w = w' := by
  obtain ⟨r, HR⟩ := name_it (nolB s)
  by_cases he : s.toList.isEmpty = true
  · have h1 : Hid (r = true) := by show _ = _; rw [← HR.out]; exact nolB_empty he
    go_enter Tryd.func45, Tryd.ntmps45
    go_wp2_with fail
    go_ret
    exact ⟨ret_eq (by rw [HR.out, h1.out]; rfl), rfl⟩
  · have he' : s.toList.isEmpty = false := by simpa using he
    have hlen : 0 < s.size := by
      apply Classical.byContradiction
      intro hc
      apply he
      rw [toList_data, List.isEmpty_iff_length_eq_zero]
      have : s.data.toList.length = s.size := by simp only [ByteArray.size, Array.length_toList]
      omega
    have h1 := nolB_first hlen
    rw [HR.out] at h1
    have H1 := Lib.hid h1
    clear he h1
    by_cases hb : ((s[0].toNat : Int) != 0) = true
    · have h2 : Hid (r = true) := H1.out.trans hb
      go_enter Tryd.func45, Tryd.ntmps45
      go_wp2_with fail
      go_ret
      exact ⟨ret_eq (by rw [HR.out, h2.out]; rfl), rfl⟩
    · have hb' : ((s[0].toNat : Int) != 0) = false := by simpa using hb
      have h2 : Hid (r = false) := H1.out.trans hb'
      clear hb
      go_enter Tryd.func45, Tryd.ntmps45
      go_wp2_with fail
      go_ret
      exact ⟨ret_eq (by rw [HR.out, h2.out]; rfl), rfl⟩

/-- The denominator, also if it is 1. -/
def dnS (x : Q3) : ByteArray := if x.den.toList.isEmpty then ⟨#[1]⟩ else x.den
theorem Enc.dnS {x : Q3} {q : Rat} (h : Enc x q) : Is (dnS x) q.den := by
  unfold Go.Proofs.YtjmonodjnljhdaaDoor.dnS
  rw [Is_empty h.den]
  have hz := q.den_nz
  have hd := h.den
  by_cases h1 : q.den = 1
  · simp [h1]; exact Is_one.2 rfl
  · rw [if_neg h1] at hd
    simp [h1, hz]; exact hd

set_option maxRecDepth 20000 in
theorem denominator_any (x : Q3) (w : World) :
    Calls Tryd.prog 78 #[.agg #[.bool x.neg, .string x.num, .string x.den]] w fun e w' => e = .returned (.string (dnS x)) ∧ Chg [] w w' := by
  obtain ⟨r, HR⟩ := name_it (dnS x)
  by_cases he : x.den.toList.isEmpty = true
  · have h1 : Hid (r = ⟨#[1]⟩) := by show _ = _; rw [← HR.out]; unfold dnS; rw [if_pos he]
    go_enter Tryd.func78, Tryd.ntmps78
    go_wp2_with fail
    go_ret
    exact ⟨ret_eq (by rw [HR.out, h1.out]; rfl), (Chg.refl _ _).alloc _⟩
  · have he' : x.den.toList.isEmpty = false := by simpa using he
    have h1 : Hid (r = x.den) := by show _ = _; rw [← HR.out]; unfold dnS; rw [if_neg he]
    clear he
    go_enter Tryd.func78, Tryd.ntmps78
    go_wp2_with fail
    go_ret
    exact ⟨ret_eq (by rw [HR.out, h1.out]; rfl), (Chg.refl _ _).alloc _⟩

set_option maxRecDepth 20000 in
/-- What signed makes of coprime numbers. -/
theorem signed_any (neg : Bool) (N D : ByteArray) (n d : Nat) (w : World) (hN : Is N n) (hD : Is D d) (hd : d ≠ 0) (hg : Nat.gcd n d = 1) :
    Calls Tryd.prog 49 #[.bool neg, .string N, .string D] w fun e w' => ∃ x, e = .returned (.agg #[.bool x.neg, .string x.num, .string x.den]) ∧ Enc x (sq neg n d) ∧ Chg [] w w' := by
  have hn1 := Is_empty hN
  have hd1 := Is_isone hD
  have HE : Hid (Enc ⟨neg && decide (n ≠ 0), N, if d = 1 then ⟨#[]⟩ else D⟩ (sq neg n d)) := by
    refine Enc_make hd hg hN ?_
    by_cases h1 : d = 1
    · simp [h1]; exact Is_zero.2 rfl
    · simp [h1]; exact hD
  obtain ⟨z, HZ⟩ := name_it (decide (n = 0))
  rw [HZ.out] at hn1
  have HZ2 : Hid (decide (n ≠ 0) = !z) := by show _ = _; rw [← HZ.out]; simp
  rw [HZ2.out] at HE
  clear hg hN
  by_cases h1 : d = 1
  · have ht : (D.toList == [1]) = true := by rw [hd1]; simp [h1]
    rw [if_pos h1] at HE
    clear hd1 h1 hD hd
    cases neg <;> cases z
    all_goals
      go_enter Tryd.func49, Tryd.ntmps49
      go_wp2_with fail
      exact bodyPost_ret (v := .agg #[.bool _, .string N, .string ⟨#[]⟩]) (by simp [results, Tryd.results49, go_sem]) rfl ⟨_, rfl, HE.out, (Chg.refl _ _).alloc _⟩
  · have ht : (D.toList == [1]) = false := by rw [hd1]; simp [h1]
    rw [if_neg h1] at HE
    clear hd1 h1 hD hd
    cases neg <;> cases z
    all_goals
      go_enter Tryd.func49, Tryd.ntmps49
      go_wp2_with fail
      exact bodyPost_ret (v := .agg #[.bool _, .string N, .string D]) (by simp [results, Tryd.results49, go_sem]) rfl ⟨_, rfl, HE.out, (Chg.refl _ _).alloc _⟩

set_option maxRecDepth 20000 in
theorem lowest_any (N D : ByteArray) (n d k : Nat) (w : World) (hN : Is N n) (hD : Is D d) (hd : d ≠ 0) (hk : k ≤ 1099511627776) (sN : N.size ≤ k) (sD : D.size ≤ k) :
    Calls Tryd.prog 48 #[.string N, .string D] w fun e w' => ∃ X Y, e = .returned (.tuple #[.string X, .string Y]) ∧ Is X (n / Nat.gcd n d) ∧ Is Y (d / Nat.gcd n d) ∧ Chg [] w w' := by
  have hd1 := Is_isone hD
  by_cases h1 : d = 1
  · have ht : (D.toList == [1]) = true := by rw [hd1]; simp [h1]
    have HN : Hid (Is N (n / Nat.gcd n d)) := Lib.hid (by rw [h1]; simpa using hN)
    have HD : Hid (Is D (d / Nat.gcd n d)) := Lib.hid (by rw [h1] at hD ⊢; simpa using hD)
    clear hd1 h1 hD hN hd
    go_enter Tryd.func48, Tryd.ntmps48
    go_wp2_with fail
    go_ret2
    exact ⟨_, _, rfl, HN.out, HD.out, Chg.refl _ _⟩
  · have ht : (D.toList == [1]) = false := by rw [hd1]; simp [h1]
    have HN := Lib.hid hN
    have HD := Lib.hid hD
    have HZ := Lib.hid hd
    clear hd1 h1 hD hN hd
    go_enter Tryd.func48, Tryd.ntmps48
    go_wp2_with fail
    refine (GCD_any N D _ (by omega) (by omega)).mono ?_
    rintro e w1 ⟨g, rfl, hg, c1⟩
    rw [Is_val HN.out, Is_val HD.out] at hg
    have hg1 := Is_isone hg
    have sg : g.size ≤ 1099511627776 := Nat.le_trans (Is_size hg D.size (Nat.lt_of_le_of_lt (Nat.le_of_dvd (Nat.pos_of_ne_zero HZ.out) (Nat.gcd_dvd_right n d)) (by rw [← Is_val HD.out]; exact val_lt D))) (by omega)
    have HG := Lib.hid hg
    by_cases h2 : Nat.gcd n d = 1
    · have ht2 : (g.toList == [1]) = true := by rw [hg1]; simp [h2]
      have H2 := Lib.hid h2
      clear hg1 hg h2
      go_wp2_with fail
      go_ret2
      exact ⟨_, _, rfl, by rw [H2.out, Nat.div_one]; exact HN.out, by rw [H2.out, Nat.div_one]; exact HD.out, c1⟩
    · have ht2 : (g.toList == [1]) = false := by rw [hg1]; simp [h2]
      have hne : Hid (val g ≠ 0) := by show _ ≠ _; rw [Is_val HG.out]; exact Nat.gcd_ne_zero_right HZ.out
      clear hg1 hg h2
      go_wp2_with fail
      refine (Divide_any N g _ (by omega) sg hne.out).mono ?_
      rintro e w2 ⟨q1, r1, rfl, hq1, _, c2⟩
      have c12 := c1.then c2
      have HQ1 := Lib.hid hq1
      clear c1 c2 hq1
      go_wp2_with fail
      refine (Divide_any D g _ (by omega) sg hne.out).mono ?_
      rintro e w3 ⟨q2, r2, rfl, hq2, _, c3⟩
      have HQ2 := Lib.hid hq2
      clear hq2
      go_wp2_with fail
      go_ret2
      have a1 := HQ1.out
      have a2 := HQ2.out
      rw [Is_val HG.out, Is_val HN.out] at a1
      rw [Is_val HG.out, Is_val HD.out] at a2
      exact ⟨_, _, rfl, a1, a2, c12.then c3⟩

end Go.Proofs.YtjmonodjnljhdaaDoor
