/-
  Int64.
-/
import Derived.Test.YtlhmimbooampdaaDoorGP
namespace Go.Proofs.YtlhmimbooampdaaDoor
open Go.RowKit Nd
/-- Whether p is an integer of int64, and which. -/
def i64ok (p : Rat) : Bool := decide (p.den = 1 ∧ -9223372036854775808 ≤ p.num ∧ p.num ≤ 9223372036854775807)
def i64v (p : Rat) : Int := if i64ok p then p.num else 0
theorem Val.eden {x : Q3} {q : Rat} {k : Nat} (h : Val x q k) : x.den.toList.isEmpty = decide (q.den = 1) := by
  rw [Is_empty h.enc.den]
  have := q.den_nz
  by_cases h1 : q.den = 1 <;> simp [h1, this]
theorem i64_t {p : Rat} (h1 : p.den = 1) (h2 : -9223372036854775808 ≤ p.num) (h3 : p.num ≤ 9223372036854775807) : i64ok p = true ∧ i64v p = p.num := by
  have : i64ok p = true := by unfold i64ok; simp [h1, h2, h3]
  exact ⟨this, by unfold i64v; rw [if_pos this]⟩
theorem i64_f {p : Rat} (h : ¬ (p.den = 1 ∧ -9223372036854775808 ≤ p.num ∧ p.num ≤ 9223372036854775807)) : i64ok p = false ∧ i64v p = 0 := by
  have : i64ok p = false := by unfold i64ok; exact decide_eq_false h
  exact ⟨this, by unfold i64v; rw [this]; rfl⟩
/-- The six ways of Int64. -/
inductive I64 (m : Nat) (e n : Bool) (ok : Bool) (v : Int) : Prop
  | great (h : 18446744073709551616 ≤ m) (h1 : ok = false) (h2 : v = 0)
  | frac (h : m < 18446744073709551616) (he : e = false) (h1 : ok = false) (h2 : v = 0)
  | pos (h : m ≤ 9223372036854775807) (he : e = true) (hn : n = false) (h1 : ok = true) (h2 : v = (m : Int))
  | over (h : m < 18446744073709551616) (h0 : 9223372036854775807 < m) (he : e = true) (hn : n = false) (h1 : ok = false) (h2 : v = 0)
  | neg (h : m ≤ 9223372036854775808) (h0 : 0 < m) (he : e = true) (hn : n = true) (h1 : ok = true) (h2 : v = -(m : Int))
  | under (h : m < 18446744073709551616) (h0 : 9223372036854775808 < m) (he : e = true) (hn : n = true) (h1 : ok = false) (h2 : v = 0)
theorem i64_ways {x : Q3} {p : Rat} {k : Nat} (h : Val x p k) : I64 (val x.num) x.den.toList.isEmpty x.neg (i64ok p) (i64v p) := by
  rw [Is_val h.enc.num, h.eden, h.enc.neg]
  by_cases h1 : 18446744073709551616 ≤ p.num.natAbs
  · have := i64_f (p := p) (by omega)
    exact .great h1 this.1 this.2
  by_cases hd : p.den = 1
  · by_cases hn : p.num < 0
    · by_cases hm : p.num.natAbs ≤ 9223372036854775808
      · have := i64_t (p := p) hd (by omega) (by omega)
        exact .neg hm (by omega) (by simp [hd]) (by simp [hn]) this.1 (by rw [this.2]; omega)
      · have := i64_f (p := p) (by omega)
        exact .under (by omega) (by omega) (by simp [hd]) (by simp [hn]) this.1 this.2
    · by_cases hm : p.num.natAbs ≤ 9223372036854775807
      · have := i64_t (p := p) hd (by omega) (by omega)
        exact .pos hm (by simp [hd]) (by simp [hn]) this.1 (by rw [this.2]; omega)
      · have := i64_f (p := p) (by omega)
        exact .over (by omega) (by omega) (by simp [hd]) (by simp [hn]) this.1 this.2
  · have := i64_f (p := p) (fun h => hd h.1)
    exact .frac (by omega) (by simp [hd]) this.1 this.2

set_option maxRecDepth 20000 in
set_option maxHeartbeats 2000000 in
theorem Int64N (x : Q3) (p : Rat) (k : Nat) (w : World) (hx : Num x p k) (hk : k ≤ 34359738367) :
    Calls Tryd.prog 6 #[.agg #[.bool x.neg, .string x.num, .string x.den]] w fun e w' => e = .returned (.tuple #[.int .i64 (i64v p), .bool (i64ok p)]) ∧ Chg [] w w' := by
  obtain ⟨v, HV⟩ := name_it (i64v p)
  obtain ⟨ok, HO⟩ := name_it (i64ok p)
  rw [HV.out, HO.out]
  have b1 := Blk3.alloc w (.bool x.neg) (.string x.num) (.string x.den) 23
  have hch : Chg [] w (w.alloc (.cells #[.bool x.neg, .string x.num, .string x.den] 23)) := (Chg.refl _ _).alloc _
  go_enter Tryd.func6, Tryd.ntmps6
  go_wp2_with fail
  obtain ⟨w0, HWw0⟩ := name_it ((w).alloc (.cells #[.bool x.neg, .string x.num, .string x.den] 23))
  rw [HWw0.out] at b1 hch ⊢
  refine (countedN x p k _ hx (by omega)).mono ?_
  rintro e w1 ⟨z, rfl, hz, c1⟩
  replace b1 := b1.keep c1 (by simp)
  replace hch := hch.then c1
  clear c1
  have nz := hz.n1
  have hw := i64_ways hz
  clear hz hx
  rw [HV.out, HO.out] at hw
  have b1c0 := b1.c0
  have b1c1 := b1.c1
  have b1c2 := b1.c2
  have b1f0 := b1.f0
  have b1f1 := b1.f1
  have b1f2 := b1.f2
  have b1l := b1.lt
  go_wp2_with fail
  clear b1c0 b1f0 b1c1 b1f1 b1c2 b1f2 b1l
  replace b1 := b1.store (.bool z.neg) (.string z.num) (.string z.den)
  replace hch := hch.store3 (g := w.heap.size) (.inr (by omega)) (.bool z.neg) (.string z.num) (.string z.den)
  obtain ⟨w2, HWw2⟩ := name_it (((w1.setCell ⟨w.heap.size, 0, none⟩ (.bool z.neg)).setCell ⟨w.heap.size, 1, none⟩ (.string z.num)).setCell ⟨w.heap.size, 2, none⟩ (.string z.den))
  rw [HWw2.out] at b1 hch ⊢
  obtain ⟨zn, zN, zD⟩ := z
  simp only at b1 nz hw ⊢
  have hs : zN.size ≤ 9223372036854775807 := by omega
  rcases hw with ⟨h, h1, h2⟩ | ⟨h, he, h1, h2⟩ | ⟨h, he, hn, h1, h2⟩ | ⟨h, h0, he, hn, h1, h2⟩ | ⟨h, h0, he, hn, h1, h2⟩ | ⟨h, h0, he, hn, h1, h2⟩
  · subst h1 h2
    refine (uint_great zN _ hs h).mono ?_
    rintro e _ ⟨rfl, rfl⟩
    skip
    have b1c0 := b1.c0
    have b1c1 := b1.c1
    have b1c2 := b1.c2
    have b1f0 := b1.f0
    have b1f1 := b1.f1
    have b1f2 := b1.f2
    have b1l := b1.lt
    cases zn
    · go_wp2_with fail
      go_ret2
      exact ⟨ret_eq (by simp), hch⟩
    · go_wp2_with fail
      go_ret2
      exact ⟨ret_eq (by simp), hch⟩
  · subst h1 h2
    refine (uint_any zN _ hs h).mono ?_
    rintro e _ ⟨rfl, rfl⟩
    skip
    obtain ⟨m, HM⟩ := name_it (val zN)
    rw [HM.out] at h ⊢
    have b1c0 := b1.c0
    have b1c1 := b1.c1
    have b1c2 := b1.c2
    have b1f0 := b1.f0
    have b1f1 := b1.f1
    have b1f2 := b1.f2
    have b1l := b1.lt
    cases zn
    · go_wp2_with fail
      go_ret2
      exact ⟨ret_eq (by simp), hch⟩
    · go_wp2_with fail
      go_ret2
      exact ⟨ret_eq (by simp), hch⟩
  · subst h1 h2
    subst hn
    refine (uint_any zN _ hs (by omega)).mono ?_
    rintro e _ ⟨rfl, rfl⟩
    skip
    obtain ⟨m, HM⟩ := name_it (val zN)
    rw [HM.out] at h ⊢
    have b1c0 := b1.c0
    have b1c1 := b1.c1
    have b1c2 := b1.c2
    have b1f0 := b1.f0
    have b1f1 := b1.f1
    have b1f2 := b1.f2
    have b1l := b1.lt
    go_wp2_with fail
    go_ret2
    exact ⟨ret_eq (by simp [HM.out]), hch⟩
  · subst h1 h2
    subst hn
    refine (uint_any zN _ hs h).mono ?_
    rintro e _ ⟨rfl, rfl⟩
    skip
    obtain ⟨m, HM⟩ := name_it (val zN)
    rw [HM.out] at h h0 ⊢
    have b1c0 := b1.c0
    have b1c1 := b1.c1
    have b1c2 := b1.c2
    have b1f0 := b1.f0
    have b1f1 := b1.f1
    have b1f2 := b1.f2
    have b1l := b1.lt
    go_wp2_with fail
    go_ret2
    exact ⟨ret_eq (by simp), hch⟩
  · subst h1 h2
    subst hn
    refine (uint_any zN _ hs (by omega)).mono ?_
    rintro e _ ⟨rfl, rfl⟩
    skip
    obtain ⟨m, HM⟩ := name_it (val zN)
    rw [HM.out] at h h0 ⊢
    have b1c0 := b1.c0
    have b1c1 := b1.c1
    have b1c2 := b1.c2
    have b1f0 := b1.f0
    have b1f1 := b1.f1
    have b1f2 := b1.f2
    have b1l := b1.lt
    go_wp2_with fail
    go_ret2
    have hwr : RowKit.wrap64 (IntKind.u64.wrap (-(m : Int))) = -(m : Int) := by
      rw [IntKind.wrap_u64]; unfold RowKit.wrap64; omega
    exact ⟨ret_eq (by simp [HM.out, hwr]), hch⟩
  · subst h1 h2
    subst hn
    refine (uint_any zN _ hs h).mono ?_
    rintro e _ ⟨rfl, rfl⟩
    skip
    obtain ⟨m, HM⟩ := name_it (val zN)
    rw [HM.out] at h h0 ⊢
    have b1c0 := b1.c0
    have b1c1 := b1.c1
    have b1c2 := b1.c2
    have b1f0 := b1.f0
    have b1f1 := b1.f1
    have b1f2 := b1.f2
    have b1l := b1.lt
    go_wp2_with fail
    go_ret2
    exact ⟨ret_eq (by simp), hch⟩

end Go.Proofs.YtlhmimbooampdaaDoor
