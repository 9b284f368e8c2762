/-
  Walks of package rational: Valid, counted, magnitude, Make, Int, Fraction.
-/
import Derived.Test.YtjmonodjnljhdaaGreatDoorQ1
import Derived.Test.YtjmonodjnljhdaaGreatDoorW9
namespace Go.Proofs.YtjmonodjnljhdaaGreatDoor
open Go.RowKit Nd

/-- Three cells of a block, and that they may be written. -/
structure Blk3 (w : World) (g : Nat) (a b c : Value) : Prop where
  c0 : w.cell? ⟨g, 0, none⟩ = some a
  c1 : w.cell? ⟨g, 1, none⟩ = some b
  c2 : w.cell? ⟨g, 2, none⟩ = some c
  f0 : w.frozen? ⟨g, 0, none⟩ = false
  f1 : w.frozen? ⟨g, 1, none⟩ = false
  f2 : w.frozen? ⟨g, 2, none⟩ = false
  lt : g < w.heap.size
theorem Blk3.alloc (w : World) (a b c : Value) (e : TypeId) : Blk3 (w.alloc (.cells #[a, b, c] e)) w.heap.size a b c := by
  constructor <;> simp
theorem Blk3.keep {gs : List Nat} {w w' : World} {g : Nat} {a b c : Value} (h : Blk3 w g a b c) (hc : Chg gs w w') (hg : g ∉ gs) : Blk3 w' g a b c := by
  have hl := h.lt
  refine ⟨(hc.cell hl hg).trans h.c0, (hc.cell hl hg).trans h.c1, (hc.cell hl hg).trans h.c2, ?_, ?_, ?_, Nat.lt_of_lt_of_le hl hc.size⟩
  · exact (World.frozen?_of_block (hc.block _ hl hg)).trans h.f0
  · exact (World.frozen?_of_block (hc.block _ hl hg)).trans h.f1
  · exact (World.frozen?_of_block (hc.block _ hl hg)).trans h.f2

theorem Blk3.store {w : World} {g : Nat} {a b c : Value} (h : Blk3 w g a b c) (a' b' c' : Value) : Blk3 (((w.setCell ⟨g, 0, none⟩ a').setCell ⟨g, 1, none⟩ b').setCell ⟨g, 2, none⟩ c') g a' b' c' := by
  obtain ⟨c0, c1, c2, f0, f1, f2, l⟩ := h
  refine ⟨?_, ?_, ?_, ?_, ?_, ?_, ?_⟩
  · simp [go_sem, c0]
  · simp [go_sem, c1]
  · simp [go_sem, c2]
  · rw [World.frozen?_setCell, World.frozen?_setCell, World.frozen?_setCell]; exact f0
  · rw [World.frozen?_setCell, World.frozen?_setCell, World.frozen?_setCell]; exact f1
  · rw [World.frozen?_setCell, World.frozen?_setCell, World.frozen?_setCell]; exact f2
  · simpa using l
theorem Chg.store3 {gs : List Nat} {w0 w : World} {g : Nat} (h : Chg gs w0 w) (hg : g ∈ gs ∨ w0.heap.size ≤ g) (a b c : Value) : Chg gs w0 (((w.setCell ⟨g, 0, none⟩ a).setCell ⟨g, 1, none⟩ b).setCell ⟨g, 2, none⟩ c) :=
  ((h.setCell hg _).setCell hg _).setCell hg _

theorem okB_eq (neg : Bool) (num den : ByteArray) : okB ⟨neg, num, den⟩ = (nolB num && nolB den && !(den.toList == [1]) && (if num.toList.isEmpty then den.toList.isEmpty && !neg else den.toList.isEmpty || decide (Nat.gcd (val num) (val den) = 1))) := by
  unfold okB
  cases h1 : nolB num
  · simp
  · cases h2 : nolB den
    · simp
    · have e1 : num.toList.isEmpty = decide (val num = 0) := Is_empty ⟨rfl, nolB_iff.1 h1⟩
      have e2 : den.toList.isEmpty = decide (val den = 0) := Is_empty ⟨rfl, nolB_iff.1 h2⟩
      have e3 : (den.toList == [1]) = decide (val den = 1) := Is_isone ⟨rfl, nolB_iff.1 h2⟩
      rw [e1, e2, e3]
      by_cases h : val den = 1 <;> simp [h]

set_option maxRecDepth 20000 in
theorem Valid_any (x : Q3) (w : World) (h1 : x.num.size ≤ 1099511627776) (h2 : x.den.size ≤ 1099511627776) :
    Calls Tryz.prog 100 #[.agg #[.bool x.neg, .string x.num, .string x.den]] w fun e w' => e = .returned (.bool (okB x)) ∧ Chg [] w w' := by
  obtain ⟨neg, num, den⟩ := x
  simp only at h1 h2
  show Calls _ _ #[.agg #[.bool neg, .string num, .string den]] w _
  rw [okB_eq]
  obtain ⟨r, HR⟩ := name_it (nolB num && nolB den && !(den.toList == [1]) && (if num.toList.isEmpty then den.toList.isEmpty && !neg else den.toList.isEmpty || decide (Nat.gcd (val num) (val den) = 1)))
  rw [HR.out]
  have hch : Chg [] w (w.alloc (.cells #[.bool neg, .string num, .string den] 23)) := (Chg.refl _ _).alloc _
  obtain ⟨b1, B1⟩ := name_it (nolB num)
  obtain ⟨b2, B2⟩ := name_it (nolB den)
  rw [B1.out, B2.out] at HR
  cases b1
  · have HR2 : Hid (r = false) := by show _ = _; rw [← HR.out]; rfl
    go_enter Tryz.func100, Tryz.ntmps100
    go_wp2_with fail
    refine (normal_any num _ h1).mono ?_
    rintro e w1 ⟨rfl, rfl⟩
    rw [B1.out]
    go_wp2_with fail
    go_ret
    exact ⟨ret_eq (by rw [HR2.out]; rfl), hch⟩
  cases b2
  · have HR2 : Hid (r = false) := by show _ = _; rw [← HR.out]; simp
    go_enter Tryz.func100, Tryz.ntmps100
    go_wp2_with fail
    refine (normal_any num _ h1).mono ?_
    rintro e w1 ⟨rfl, rfl⟩
    rw [B1.out]
    go_wp2_with fail
    refine (normal_any den _ h2).mono ?_
    rintro e w1 ⟨rfl, rfl⟩
    rw [B2.out]
    go_wp2_with fail
    go_ret
    exact ⟨ret_eq (by rw [HR2.out]; rfl), hch⟩
  by_cases b3 : (den.toList == [1]) = true
  · have HR2 : Hid (r = false) := by show _ = _; rw [← HR.out, b3]; simp
    go_enter Tryz.func100, Tryz.ntmps100
    go_wp2_with fail
    refine (normal_any num _ h1).mono ?_
    rintro e w1 ⟨rfl, rfl⟩
    rw [B1.out]
    go_wp2_with fail
    refine (normal_any den _ h2).mono ?_
    rintro e w1 ⟨rfl, rfl⟩
    rw [B2.out]
    go_wp2_with fail
    go_ret
    exact ⟨ret_eq (by rw [HR2.out]; rfl), hch⟩
  have b3' : (den.toList == [1]) = false := by simpa using b3
  rw [b3'] at HR
  clear b3
  by_cases z : num.toList.isEmpty = true
  · have HR2 : Hid (r = (den.toList.isEmpty && !neg)) := by show _ = _; rw [← HR.out, z]; simp
    obtain ⟨b4, B4⟩ := name_it den.toList.isEmpty
    have hb4 := B4.out
    rw [hb4] at HR2
    cases b4 <;> cases neg
    all_goals
      go_enter Tryz.func100, Tryz.ntmps100
      go_wp2_with fail
      refine (normal_any num _ h1).mono ?_
      rintro e w1 ⟨rfl, rfl⟩
      rw [B1.out]
      go_wp2_with fail
      refine (normal_any den _ h2).mono ?_
      rintro e w1 ⟨rfl, rfl⟩
      rw [B2.out]
      go_wp2_with fail
      go_ret
      exact ⟨ret_eq (by rw [HR2.out]; rfl), hch⟩
  · have z' : num.toList.isEmpty = false := by simpa using z
    have HR2 : Hid (r = (den.toList.isEmpty || decide (Nat.gcd (val num) (val den) = 1))) := by show _ = _; rw [← HR.out, z']; simp
    clear z
    by_cases d0 : den.toList.isEmpty = true
    · have HR3 : Hid (r = true) := by show _ = _; rw [HR2.out, d0]; rfl
      go_enter Tryz.func100, Tryz.ntmps100
      go_wp2_with fail
      refine (normal_any num _ h1).mono ?_
      rintro e w1 ⟨rfl, rfl⟩
      rw [B1.out]
      go_wp2_with fail
      refine (normal_any den _ h2).mono ?_
      rintro e w1 ⟨rfl, rfl⟩
      rw [B2.out]
      go_wp2_with fail
      go_ret
      exact ⟨ret_eq (by rw [HR3.out]; rfl), hch⟩
    · have d0' : den.toList.isEmpty = false := by simpa using d0
      rw [d0'] at HR2
      clear d0
      go_enter Tryz.func100, Tryz.ntmps100
      go_wp2_with fail
      refine (normal_any num _ h1).mono ?_
      rintro e w1 ⟨rfl, rfl⟩
      rw [B1.out]
      go_wp2_with fail
      refine (normal_any den _ h2).mono ?_
      rintro e w1 ⟨rfl, rfl⟩
      rw [B2.out]
      go_wp2_with fail
      refine (GCD_any num den _ h1 h2).mono ?_
      rintro e w1 ⟨g, rfl, hg, c1⟩
      have hg1 := Is_isone hg
      have HG := Lib.hid hg1
      clear hg hg1
      obtain ⟨y, HY⟩ := name_it (decide (Nat.gcd (val num) (val den) = 1))
      rw [HY.out] at HG HR2
      have hy := HG.out
      go_wp2_with fail
      go_ret
      exact ⟨ret_eq (by rw [HR2.out]; rfl), hch.then c1⟩

set_option maxRecDepth 20000 in
theorem counted_any (x : Q3) (w : World) (h1 : x.num.size ≤ 1099511627776) (h2 : x.den.size ≤ 1099511627776) :
    Calls Tryz.prog 61 #[.agg #[.bool x.neg, .string x.num, .string x.den]] w fun e w' => ∃ y, e = .returned (.agg #[.bool y.neg, .string y.num, .string y.den]) ∧ Enc y (ratOf x) ∧ Chg [] w w' := by
  have hch : Chg [] w ((w.alloc (.cells #[.bool x.neg, .string x.num, .string x.den] 23)).alloc (.cells #[.bool false, .string ⟨#[]⟩, .string ⟨#[]⟩] 23)) := ((Chg.refl _ _).alloc _).alloc _
  by_cases hok : okB x = true
  · have HE := Lib.hid (ok_enc hok)
    have HO := Lib.hid hok
    clear hok
    go_enter Tryz.func61, Tryz.ntmps61
    go_wp2_with fail
    refine (Valid_any x _ h1 h2).mono ?_
    rintro e w1 ⟨rfl, c1⟩
    rw [HO.out]
    have B := (Blk3.alloc w (.bool x.neg) (.string x.num) (.string x.den) 23).keep ((Chg.refl [] _).alloc (.cells #[.bool false, .string ⟨#[]⟩, .string ⟨#[]⟩] 23)) (by simp)
    have B1 := B.keep c1 (by simp)
    have B2 := (Blk3.alloc (w.alloc (.cells #[.bool x.neg, .string x.num, .string x.den] 23)) (.bool false) (.string ⟨#[]⟩) (.string ⟨#[]⟩) 23).keep c1 (by simp)
    rw [World.size_alloc] at B2
    obtain ⟨k0, k1, k2, f0, f1, f2, l1⟩ := B1
    have B2' := B2
    obtain ⟨m0, m1, m2, g0, g1, g2, l2⟩ := B2
    have hch1 := hch.then c1
    clear B c1 hch
    go_wp2_with fail
    have S := B2'.store (.bool x.neg) (.string x.num) (.string x.den)
    exact bodyPost_ret (v := .agg #[.bool x.neg, .string x.num, .string x.den]) (by simp [results, Tryz.results61, go_sem, S.c0, S.c1, S.c2]) rfl ⟨x, rfl, HE.out, hch1.store3 (.inr (by omega)) _ _ _⟩
  · have hok' : okB x = false := by simpa using hok
    have HE : Hid (Enc ⟨false, ⟨#[]⟩, ⟨#[]⟩⟩ (ratOf x)) := Lib.hid (by rw [bad_rat hok']; exact Enc_zero)
    have HO := Lib.hid hok'
    clear hok hok'
    go_enter Tryz.func61, Tryz.ntmps61
    go_wp2_with fail
    refine (Valid_any x _ h1 h2).mono ?_
    rintro e w1 ⟨rfl, c1⟩
    rw [HO.out]
    have B := (Blk3.alloc w (.bool x.neg) (.string x.num) (.string x.den) 23).keep ((Chg.refl [] _).alloc (.cells #[.bool false, .string ⟨#[]⟩, .string ⟨#[]⟩] 23)) (by simp)
    have B1 := B.keep c1 (by simp)
    have B2 := (Blk3.alloc (w.alloc (.cells #[.bool x.neg, .string x.num, .string x.den] 23)) (.bool false) (.string ⟨#[]⟩) (.string ⟨#[]⟩) 23).keep c1 (by simp)
    rw [World.size_alloc] at B2
    obtain ⟨k0, k1, k2, f0, f1, f2, l1⟩ := B1
    have B2' := B2
    obtain ⟨m0, m1, m2, g0, g1, g2, l2⟩ := B2
    have hch1 := hch.then c1
    clear B c1 hch
    go_wp2_with fail
    have S := B2'.store (.bool false) (.string ⟨#[]⟩) (.string ⟨#[]⟩)
    exact bodyPost_ret (v := .agg #[.bool false, .string ⟨#[]⟩, .string ⟨#[]⟩]) (by simp [results, Tryz.results61, go_sem, S.c0, S.c1, S.c2]) rfl ⟨_, rfl, HE.out, hch1.store3 (.inr (by omega)) _ _ _⟩

set_option maxRecDepth 20000 in
/-- The magnitude of an integer. -/
theorem magnitude_any (n : Int) (w : World) (h1 : -9223372036854775808 ≤ n) (h2 : n ≤ 9223372036854775807) :
    Calls Tryz.prog 57 #[.int .i64 n] w fun e w' => ∃ s, e = .returned (.string s) ∧ Is s n.natAbs ∧ Chg [] w w' := by
  by_cases h0 : n < 0
  · obtain ⟨m, hm⟩ : ∃ m : Nat, Hid (n = -(m : Int)) := ⟨n.natAbs, by show n = _; omega⟩
    have hm1 : m ≤ 9223372036854775808 := by have := hm.out; omega
    have hm0 : 0 < m := by have := hm.out; omega
    have e1 : Hid (n.natAbs = m) := by show _ = _; have := hm.out; omega
    rw [e1.out]
    go_enter Tryz.func57, Tryz.ntmps57
    have hw1 : IntKind.u64.wrap (-IntKind.u64.wrap n) = (m : Int) := by
      have h1 := hm.out
      rw [IntKind.wrap_u64, IntKind.wrap_u64, h1]
      omega
    have HW := Lib.hid hw1
    clear hw1
    go_wp2_with fail
    rw [HW.out]
    refine (fromUint_any m _ (by omega)).mono ?_
    rintro e w1 ⟨s, rfl, hs, c1⟩
    go_wp2_with fail
    go_ret
    exact ⟨s, rfl, hs, c1⟩
  · obtain ⟨m, rfl⟩ : ∃ m : Nat, n = (m : Int) := ⟨n.toNat, by omega⟩
    rw [Int.natAbs_natCast]
    go_enter Tryz.func57, Tryz.ntmps57
    go_wp2_with fail
    refine (fromUint_any m _ (by omega)).mono ?_
    rintro e w1 ⟨s, rfl, hs, c1⟩
    go_wp2_with fail
    go_ret
    exact ⟨s, rfl, hs, c1⟩

set_option maxRecDepth 20000 in
/-- Make at the denominator 0. -/
theorem Make_zero (neg : Bool) (N D : ByteArray) (w : World) (hN : N.size ≤ 1099511627776) (hD : D.size ≤ 1099511627776) (h : val D = 0) :
    Calls Tryz.prog 56 #[.bool neg, .string N, .string D] w fun e w' => e = .returned (.tuple #[.agg #[.bool false, .string ⟨#[]⟩, .string ⟨#[]⟩], .bool false]) ∧ Chg [] w w' := by
  obtain ⟨p, HP⟩ := name_it (nrmB D)
  have hp : p.toList.isEmpty = true := by rw [← HP.out, Is_empty (Is_nrmB D), h]; rfl
  have hch : Chg [] w (w.alloc (.cells #[.bool false, .string ⟨#[]⟩, .string ⟨#[]⟩] 23)) := (Chg.refl _ _).alloc _
  clear h
  go_enter Tryz.func56, Tryz.ntmps56
  go_wp2_with fail
  refine (normalize_any N _ (by omega)).mono ?_
  rintro e w1 ⟨rfl, rfl⟩
  go_wp2_with fail
  refine (normalize_any D _ (by omega)).mono ?_
  rintro e w1 ⟨rfl, rfl⟩
  rw [HP.out]
  go_wp2_with fail
  exact bodyPost_ret (v := .tuple #[.agg #[.bool false, .string ⟨#[]⟩, .string ⟨#[]⟩], .bool false]) (by simp [results, Tryz.results56, go_sem]) rfl ⟨rfl, hch⟩
set_option maxRecDepth 20000 in
theorem Make_any (neg : Bool) (N D : ByteArray) (w : World) (hN : N.size ≤ 1099511627776) (hD : D.size ≤ 1099511627776) (h : val D ≠ 0) :
    Calls Tryz.prog 56 #[.bool neg, .string N, .string D] w fun e w' => ∃ x, e = .returned (.tuple #[.agg #[.bool x.neg, .string x.num, .string x.den], .bool true]) ∧ Enc x (sq neg (val N) (val D)) ∧ Chg [] w w' := by
  obtain ⟨p, HP⟩ := name_it (nrmB D)
  obtain ⟨q, HQ⟩ := name_it (nrmB N)
  have ip : Hid (Is p (val D)) := Lib.hid (by rw [← HP.out]; exact Is_nrmB D)
  have iq : Hid (Is q (val N)) := Lib.hid (by rw [← HQ.out]; exact Is_nrmB N)
  have hp : p.toList.isEmpty = false := by rw [Is_empty ip.out]; simpa using h
  have sp : p.size ≤ 1099511627776 := by rw [← HP.out]; exact Nat.le_trans (nrmB_size D) hD
  have sn : q.size ≤ 1099511627776 := by rw [← HQ.out]; exact Nat.le_trans (nrmB_size N) hN
  have hch : Chg [] w (w.alloc (.cells #[.bool false, .string ⟨#[]⟩, .string ⟨#[]⟩] 23)) := (Chg.refl _ _).alloc _
  have B := Lib.hid (Blk3.alloc w (.bool false) (.string ⟨#[]⟩) (.string ⟨#[]⟩) 23)
  have HZ := Lib.hid h
  clear h
  go_enter Tryz.func56, Tryz.ntmps56
  go_wp2_with fail
  refine (normalize_any N _ (by omega)).mono ?_
  rintro e w1 ⟨rfl, rfl⟩
  rw [HQ.out]
  go_wp2_with fail
  refine (normalize_any D _ (by omega)).mono ?_
  rintro e w1 ⟨rfl, rfl⟩
  rw [HP.out]
  go_wp2_with fail
  refine (lowest_any q p _ _ 1099511627776 _ iq.out ip.out HZ.out (Nat.le_refl _) sn sp).mono ?_
  rintro e w1 ⟨X, Y, rfl, hX, hY, c1⟩
  have HX := Lib.hid hX
  have HY := Lib.hid hY
  have hch1 := hch.then c1
  have B1 := Lib.hid (B.out.keep c1 (by simp))
  clear hX hY c1 hch B
  go_wp2_with fail
  refine (signed_any neg X Y _ _ _ HX.out HY.out (lowest_den HZ.out) (lowest_gcd HZ.out)).mono ?_
  rintro e w2 ⟨x, rfl, hx, c2⟩
  rw [sq_lowest HZ.out] at hx
  have HE := Lib.hid hx
  have hch2 := hch1.then c2
  have B2 := B1.out.keep c2 (by simp)
  have B2' := Lib.hid B2
  obtain ⟨k0, k1, k2, f0, f1, f2, l1⟩ := B2
  clear hx c2 hch1 B1
  go_wp2_with fail
  have S := B2'.out.store (.bool x.neg) (.string x.num) (.string x.den)
  exact bodyPost_ret (v := .tuple #[.agg #[.bool x.neg, .string x.num, .string x.den], .bool true]) (by simp [results, Tryz.results56, go_sem, S.c0, S.c1, S.c2]) rfl ⟨x, rfl, HE.out, hch2.store3 (.inr (by omega)) _ _ _⟩
end Go.Proofs.YtjmonodjnljhdaaGreatDoor
