/-
  Walks of package rational: Int, Fraction, negative, product, Multiply.
-/
import Derived.Test.YtjmonodjnljhdaaGreatDoorQ2
import Derived.Deep.RegionHeld3
namespace Go.Proofs.YtjmonodjnljhdaaGreatDoor
open Go.RowKit Nd

theorem Enc.sq' {x : Q3} {p : Rat} (h : Enc x p) : Nd.sq x.neg p.num.natAbs p.den = p := by rw [h.neg, sq_self]
theorem Enc.dn_size {x : Q3} {p : Rat} {k : Nat} (h : Enc x p) (b : Bd k p) : (Go.Proofs.YtjmonodjnljhdaaGreatDoor.dnS x).size ≤ k := Is_size h.dnS k b.2
theorem Enc.num_size {x : Q3} {p : Rat} {k : Nat} (h : Enc x p) (b : Bd k p) : x.num.size ≤ k := Is_size h.num k b.1
/-- What a function that boxes one number and makes a result lays. -/
theorem box1 (w : World) (x : Q3) (e : TypeId) : Blk3 ((w.alloc (.cells #[.bool x.neg, .string x.num, .string x.den] e)).alloc (.cells #[.bool false, .string ⟨#[]⟩, .string ⟨#[]⟩] e)) w.heap.size (.bool x.neg) (.string x.num) (.string x.den) ∧
    Blk3 ((w.alloc (.cells #[.bool x.neg, .string x.num, .string x.den] e)).alloc (.cells #[.bool false, .string ⟨#[]⟩, .string ⟨#[]⟩] e)) (w.heap.size + 1) (.bool false) (.string ⟨#[]⟩) (.string ⟨#[]⟩) ∧
    Chg [] w ((w.alloc (.cells #[.bool x.neg, .string x.num, .string x.den] e)).alloc (.cells #[.bool false, .string ⟨#[]⟩, .string ⟨#[]⟩] e)) := by
  refine ⟨(Blk3.alloc w _ _ _ e).keep ((Chg.refl [] _).alloc _) (by simp), ?_, ((Chg.refl _ _).alloc _).alloc _⟩
  have := Blk3.alloc (w.alloc (.cells #[.bool x.neg, .string x.num, .string x.den] e)) (.bool false) (.string ⟨#[]⟩) (.string ⟨#[]⟩) e
  rw [World.size_alloc] at this
  exact this
/-- Two boxed numbers. -/
theorem box2 (w : World) (x y : Q3) (e : TypeId) : Blk3 ((w.alloc (.cells #[.bool x.neg, .string x.num, .string x.den] e)).alloc (.cells #[.bool y.neg, .string y.num, .string y.den] e)) w.heap.size (.bool x.neg) (.string x.num) (.string x.den) ∧
    Blk3 ((w.alloc (.cells #[.bool x.neg, .string x.num, .string x.den] e)).alloc (.cells #[.bool y.neg, .string y.num, .string y.den] e)) (w.heap.size + 1) (.bool y.neg) (.string y.num) (.string y.den) ∧
    Chg [] w ((w.alloc (.cells #[.bool x.neg, .string x.num, .string x.den] e)).alloc (.cells #[.bool y.neg, .string y.num, .string y.den] e)) := by
  refine ⟨(Blk3.alloc w _ _ _ e).keep ((Chg.refl [] _).alloc _) (by simp), ?_, ((Chg.refl _ _).alloc _).alloc _⟩
  have := Blk3.alloc (w.alloc (.cells #[.bool x.neg, .string x.num, .string x.den] e)) (.bool y.neg) (.string y.num) (.string y.den) e
  rw [World.size_alloc] at this
  exact this
/-- Two boxed numbers and a result. -/
theorem box3 (w : World) (x y : Q3) (e : TypeId) : Blk3 (((w.alloc (.cells #[.bool x.neg, .string x.num, .string x.den] e)).alloc (.cells #[.bool y.neg, .string y.num, .string y.den] e)).alloc (.cells #[.bool false, .string ⟨#[]⟩, .string ⟨#[]⟩] e)) w.heap.size (.bool x.neg) (.string x.num) (.string x.den) ∧
    Blk3 (((w.alloc (.cells #[.bool x.neg, .string x.num, .string x.den] e)).alloc (.cells #[.bool y.neg, .string y.num, .string y.den] e)).alloc (.cells #[.bool false, .string ⟨#[]⟩, .string ⟨#[]⟩] e)) (w.heap.size + 1) (.bool y.neg) (.string y.num) (.string y.den) ∧
    Blk3 (((w.alloc (.cells #[.bool x.neg, .string x.num, .string x.den] e)).alloc (.cells #[.bool y.neg, .string y.num, .string y.den] e)).alloc (.cells #[.bool false, .string ⟨#[]⟩, .string ⟨#[]⟩] e)) (w.heap.size + 1 + 1) (.bool false) (.string ⟨#[]⟩) (.string ⟨#[]⟩) ∧
    Chg [] w (((w.alloc (.cells #[.bool x.neg, .string x.num, .string x.den] e)).alloc (.cells #[.bool y.neg, .string y.num, .string y.den] e)).alloc (.cells #[.bool false, .string ⟨#[]⟩, .string ⟨#[]⟩] e)) := by
  obtain ⟨h1, h2, h3⟩ := box2 w x y e
  refine ⟨h1.keep ((Chg.refl [] _).alloc _) (by simp), h2.keep ((Chg.refl [] _).alloc _) (by simp), ?_, h3.alloc _⟩
  have := Blk3.alloc ((w.alloc (.cells #[.bool x.neg, .string x.num, .string x.den] e)).alloc (.cells #[.bool y.neg, .string y.num, .string y.den] e)) (.bool false) (.string ⟨#[]⟩) (.string ⟨#[]⟩) e
  rw [World.size_alloc, World.size_alloc] at this
  exact this

set_option maxRecDepth 20000 in
theorem Int_any (n : Int) (w : World) (h1 : -9223372036854775808 ≤ n) (h2 : n ≤ 9223372036854775807) :
    Calls Tryz.prog 19 #[.int .i64 n] w fun e w' => ∃ x, e = .returned (.agg #[.bool x.neg, .string x.num, .string x.den]) ∧ Enc x (n : Rat) ∧ Chg [] w w' := by
  have B := Blk3.alloc w (.bool false) (.string ⟨#[]⟩) (.string ⟨#[]⟩) 23
  have hch : Chg [] w (w.alloc (.cells #[.bool false, .string ⟨#[]⟩, .string ⟨#[]⟩] 23)) := (Chg.refl _ _).alloc _
  have B0 := Lib.hid B
  clear B
  obtain ⟨neg, HN⟩ := name_it (decide (n < 0))
  have hsq : Hid (sq neg n.natAbs 1 = (n : Rat)) := by
    show _ = _
    rw [sq_int, ← HN.out]
    congr 1
    by_cases h : n < 0 <;> simp [h] <;> omega
  have hneg := HN.out
  go_enter Tryz.func19, Tryz.ntmps19
  go_wp2_with fail
  refine (magnitude_any n _ h1 h2).mono ?_
  rintro e w1 ⟨s, rfl, hs, c1⟩
  have HS := Lib.hid hs
  have hch1 := hch.then c1
  have B1 := Lib.hid (B0.out.keep c1 (by simp))
  clear hs c1 hch B0
  go_wp2_with fail
  refine (signed_any neg s ⟨#[1]⟩ n.natAbs 1 _ HS.out (Is_one.2 rfl) (by omega) (by simp)).mono ?_
  rintro e w2 ⟨x, rfl, hx, c2⟩
  rw [hsq.out] at hx
  have HX := Lib.hid hx
  have hch2 := hch1.then c2
  have B2 := B1.out.keep c2 (by simp)
  have B2' := Lib.hid B2
  obtain ⟨k0, k1, k2, f0, f1, f2, l1⟩ := B2
  clear hx c2 hch1 B1
  go_wp2_with fail
  have S := B2'.out.store (.bool x.neg) (.string x.num) (.string x.den)
  exact bodyPost_ret (v := .agg #[.bool x.neg, .string x.num, .string x.den]) (by simp [results, Tryz.results19, go_sem, S.c0, S.c1, S.c2]) rfl ⟨x, rfl, HX.out, hch2.store3 (.inr (by omega)) _ _ _⟩

/-- What Fraction and the reference's take for the sign. -/
def fsg (a b : Int) : Bool := (decide (a < 0)) != (decide (b < 0))

set_option maxRecDepth 20000 in
theorem Fraction_any (a b : Int) (w : World) (h1 : -9223372036854775808 ≤ a) (h2 : a ≤ 9223372036854775807) (h3 : -9223372036854775808 ≤ b) (h4 : b ≤ 9223372036854775807) (hb : b ≠ 0) :
    Calls Tryz.prog 16 #[.int .i64 a, .int .i64 b] w fun e w' => ∃ x, e = .returned (.tuple #[.agg #[.bool x.neg, .string x.num, .string x.den], .bool true]) ∧ Enc x (sq (fsg a b) a.natAbs b.natAbs) ∧ Chg [] w w' := by
  have hch : Chg [] w (w.alloc (.cells #[.bool false, .string ⟨#[]⟩, .string ⟨#[]⟩] 23)) := (Chg.refl _ _).alloc _
  have B0 := Lib.hid (Blk3.alloc w (.bool false) (.string ⟨#[]⟩) (.string ⟨#[]⟩) 23)
  have HB := Lib.hid hb
  clear hb
  obtain ⟨na, HNA⟩ := name_it (decide (a < 0))
  obtain ⟨nb, HNB⟩ := name_it (decide (b < 0))
  have hf : Hid (fsg a b = (na != nb)) := by show _ = _; unfold fsg; rw [HNA.out, HNB.out]
  rw [hf.out]
  have ha := HNA.out
  have hbb := HNB.out
  obtain ⟨sg, HSG⟩ := name_it (na != nb)
  have hsg := HSG.out
  rw [hsg]
  go_enter Tryz.func16, Tryz.ntmps16
  go_wp2_with fail
  refine (magnitude_any a _ h1 h2).mono ?_
  rintro e w1 ⟨s, rfl, hs, c1⟩
  have HS := Lib.hid hs
  have hch1 := hch.then c1
  have B1 := Lib.hid (B0.out.keep c1 (by simp))
  clear hs c1 hch B0
  go_wp2_with fail
  refine (magnitude_any b _ h3 h4).mono ?_
  rintro e w2 ⟨t, rfl, ht, c2⟩
  have HT := Lib.hid ht
  have hch2 := hch1.then c2
  have B2 := Lib.hid (B1.out.keep c2 (by simp))
  clear ht c2 hch1 B1
  go_wp2_with fail
  have zs : s.size ≤ 1099511627776 := Nat.le_trans (Is_size HS.out 8 (by omega)) (by omega)
  have zt : t.size ≤ 1099511627776 := Nat.le_trans (Is_size HT.out 8 (by omega)) (by omega)
  refine (Make_any _ s t _ zs zt (by rw [Is_val HT.out]; have := HB.out; omega)).mono ?_
  rintro e w3 ⟨x, rfl, hx, c3⟩
  rw [show (!(na == nb)) = sg from HSG.out] at hx
  rw [Is_val HS.out, Is_val HT.out] at hx
  have HX := Lib.hid hx
  have hch3 := hch2.then c3
  have B3 := B2.out.keep c3 (by simp)
  have B3' := Lib.hid B3
  obtain ⟨k0, k1, k2, f0, f1, f2, l1⟩ := B3
  clear hx c3 hch2 B2
  go_wp2_with fail
  have S := B3'.out.store (.bool x.neg) (.string x.num) (.string x.den)
  exact bodyPost_ret (v := .tuple #[.agg #[.bool x.neg, .string x.num, .string x.den], .bool true]) (by simp [results, Tryz.results16, go_sem, S.c0, S.c1, S.c2]) rfl ⟨x, rfl, HX.out, hch3.store3 (.inr (by omega)) _ _ _⟩

set_option maxRecDepth 20000 in
theorem Fraction_zero (a : Int) (w : World) (h1 : -9223372036854775808 ≤ a) (h2 : a ≤ 9223372036854775807) :
    Calls Tryz.prog 16 #[.int .i64 a, .int .i64 0] w fun e w' => e = .returned (.tuple #[.agg #[.bool false, .string ⟨#[]⟩, .string ⟨#[]⟩], .bool false]) ∧ Chg [] w w' := by
  have hch : Chg [] w (w.alloc (.cells #[.bool false, .string ⟨#[]⟩, .string ⟨#[]⟩] 23)) := (Chg.refl _ _).alloc _
  have B0 := Lib.hid (Blk3.alloc w (.bool false) (.string ⟨#[]⟩) (.string ⟨#[]⟩) 23)
  obtain ⟨na, HNA⟩ := name_it (decide (a < 0))
  have ha := HNA.out
  go_enter Tryz.func16, Tryz.ntmps16
  go_wp2_with fail
  refine (magnitude_any a _ h1 h2).mono ?_
  rintro e w1 ⟨s, rfl, hs, c1⟩
  have HS := Lib.hid hs
  have hch1 := hch.then c1
  have B1 := Lib.hid (B0.out.keep c1 (by simp))
  clear hs c1 hch B0
  go_wp2_with fail
  refine (magnitude_any 0 _ (by omega) (by omega)).mono ?_
  rintro e w2 ⟨t, rfl, ht, c2⟩
  have HT := Lib.hid ht
  have hch2 := hch1.then c2
  have B2 := Lib.hid (B1.out.keep c2 (by simp))
  clear ht c2 hch1 B1
  go_wp2_with fail
  have zs : s.size ≤ 1099511627776 := Nat.le_trans (Is_size HS.out 8 (by omega)) (by omega)
  have zt : t.size ≤ 1099511627776 := Nat.le_trans (Is_size HT.out 8 (by simp)) (by omega)
  refine (Make_zero _ s t _ zs zt (by rw [Is_val HT.out]; rfl)).mono ?_
  rintro e w3 ⟨rfl, c3⟩
  have hch3 := hch2.then c3
  have B3 := B2.out.keep c3 (by simp)
  have B3' := Lib.hid B3
  obtain ⟨k0, k1, k2, f0, f1, f2, l1⟩ := B3
  clear c3 hch2 B2
  go_wp2_with fail
  have S := B3'.out.store (.bool false) (.string ⟨#[]⟩) (.string ⟨#[]⟩)
  exact bodyPost_ret (v := .tuple #[.agg #[.bool false, .string ⟨#[]⟩, .string ⟨#[]⟩], .bool false]) (by simp [results, Tryz.results16, go_sem, S.c0, S.c1, S.c2]) rfl ⟨rfl, hch3.store3 (.inr (by omega)) _ _ _⟩

set_option maxRecDepth 20000 in
theorem negative_any (x : Q3) (p : Rat) (w : World) (hx : Enc x p) :
    Calls Tryz.prog 69 #[.agg #[.bool x.neg, .string x.num, .string x.den]] w fun e w' => ∃ y, e = .returned (.agg #[.bool y.neg, .string y.num, .string y.den]) ∧ Enc y (-p) ∧ Chg [] w w' := by
  obtain ⟨b1, b2, hch⟩ := box1 w x 23
  have HX := Lib.hid hx
  clear hx
  have hsq : Hid (sq (!x.neg) p.num.natAbs p.den = -p) := by show _ = _; rw [← sq_neg, HX.out.sq']
  go_enter Tryz.func69, Tryz.ntmps69
  go_wp2_with fail
  obtain ⟨w0, HW0⟩ := name_it ((w.alloc (.cells #[.bool x.neg, .string x.num, .string x.den] 23)).alloc (.cells #[.bool false, .string ⟨#[]⟩, .string ⟨#[]⟩] 23))
  rw [HW0.out] at b1 b2 hch ⊢
  replace b1 := b1.keep ((Chg.refl [] _).drew) (by simp)
  replace b2 := b2.keep ((Chg.refl [] _).drew) (by simp)
  replace hch := hch.drew
  go_region_held3 (fun w' => w'.cell? ⟨w.heap.size, 0, none⟩ = some (.bool x.neg) ∧ w'.cell? ⟨w.heap.size, 1, none⟩ = some (.string x.num) ∧ w'.cell? ⟨w.heap.size, 2, none⟩ = some (.string x.den)) (first | exact ⟨b1.c0, b1.c1, b1.c2⟩ | exact ⟨by simp [go_sem, b1.c0], by simp [go_sem, b1.c1], by simp [go_sem, b1.c2]⟩) (first
    | (go_at_call 75
       refine (denominator_any x _).mono ?_
       rintro e w1 ⟨rfl, c1⟩
       replace b1 := b1.keep c1 (by simp)
       replace b2 := b2.keep c1 (by simp)
       replace hch := hch.then c1
       clear c1)
    | (go_at_call 60
       refine (signed_any _ _ _ p.num.natAbs p.den _ HX.out.num HX.out.dnS p.den_nz p.reduced).mono ?_
       rintro e w1 ⟨y, rfl, hy, c1⟩
       rw [hsq.out] at hy
       have HY := Lib.hid hy
       replace b1 := b1.keep c1 (by simp)
       replace b2 := b2.keep c1 (by simp)
       replace hch := hch.then c1
       have g0 := b2.c0
       have g1 := b2.c1
       have g2 := b2.c2
       have j0 := b2.f0
       have j1 := b2.f1
       have j2 := b2.f2
       clear c1 hy))
  go_wp2_with fail
  have S := b2.store (.bool y.neg) (.string y.num) (.string y.den)
  exact bodyPost_ret (v := .agg #[.bool y.neg, .string y.num, .string y.den]) (by simp [results, Tryz.results69, go_sem, S.c0, S.c1, S.c2]) rfl ⟨y, rfl, HY.out, hch.store3 (.inr (by omega)) _ _ _⟩
end Go.Proofs.YtjmonodjnljhdaaGreatDoor
