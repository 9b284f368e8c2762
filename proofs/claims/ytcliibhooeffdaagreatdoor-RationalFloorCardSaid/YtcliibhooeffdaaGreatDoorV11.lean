/-
  The reference: Int64.
-/
import Derived.Test.YtcliibhooeffdaaGreatDoorV10
import Derived.Test.YtcliibhooeffdaaGreatDoorGQ
namespace Go.Proofs.YtcliibhooeffdaaGreatDoor
open Go.RowKit Nd
set_option maxRecDepth 20000 in
set_option maxHeartbeats 2000000 in
theorem rInt64N (x : Q3) (p : Rat) (k : Nat) (w : World) (hx : Num x p k) (hk : k ≤ 34359738367) :
    Calls Tryz.prog 18 #[.agg #[.bool x.neg, .string x.num, .string x.den]] w fun e w' => e = .returned (.tuple #[.int .i64 (i64v p), .bool (i64ok p)]) ∧ Chg [] w w' := by
  obtain ⟨v, HV⟩ := name_it (i64v p)
  obtain ⟨ok, HO⟩ := name_it (i64ok p)
  rw [HV.out, HO.out]
  have b1 := Blk3.alloc w (.bool x.neg) (.string x.num) (.string x.den) 23
  have hch : Chg [] w (w.alloc (.cells #[.bool x.neg, .string x.num, .string x.den] 23)) := (Chg.refl _ _).alloc _
  go_enter Tryz.func18, Tryz.ntmps18
  go_wp2_with fail
  obtain ⟨w0, HWw0⟩ := name_it ((w).alloc (.cells #[.bool x.neg, .string x.num, .string x.den] 23))
  rw [HWw0.out] at b1 hch ⊢
  refine (rFixN x p k _ hx (by omega)).mono ?_
  rintro e w1 ⟨z, rfl, hz, c1⟩
  replace b1 := b1.keep c1 (by simp)
  replace hch := hch.then c1
  clear c1
  have nz := hz.n1
  have hw := i64_ways hz
  clear hz hx
  rw [HV.out, HO.out] at hw
  have b1c0 := b1.c0
  have b1c1 := b1.c1
  have b1c2 := b1.c2
  have b1f0 := b1.f0
  have b1f1 := b1.f1
  have b1f2 := b1.f2
  have b1l := b1.lt
  go_wp2_with fail
  clear b1c0 b1f0 b1c1 b1f1 b1c2 b1f2 b1l
  replace b1 := b1.store (.bool z.neg) (.string z.num) (.string z.den)
  replace hch := hch.store3 (g := w.heap.size) (.inr (by omega)) (.bool z.neg) (.string z.num) (.string z.den)
  obtain ⟨w2, HWw2⟩ := name_it (((w1.setCell ⟨w.heap.size, 0, none⟩ (.bool z.neg)).setCell ⟨w.heap.size, 1, none⟩ (.string z.num)).setCell ⟨w.heap.size, 2, none⟩ (.string z.den))
  rw [HWw2.out] at b1 hch ⊢
  obtain ⟨zn, zN, zD⟩ := z
  simp only at b1 nz hw ⊢
  have hs : zN.size ≤ 9223372036854775807 := by omega
  rcases hw with ⟨h, h1, h2⟩ | ⟨h, he, h1, h2⟩ | ⟨h, he, hn, h1, h2⟩ | ⟨h, h0, he, hn, h1, h2⟩ | ⟨h, h0, he, hn, h1, h2⟩ | ⟨h, h0, he, hn, h1, h2⟩
  · subst h1 h2
    refine (ruint_great zN _ hs h).mono ?_
    rintro e _ ⟨rfl, rfl⟩
    skip
    have b1c0 := b1.c0
    have b1c1 := b1.c1
    have b1c2 := b1.c2
    have b1f0 := b1.f0
    have b1f1 := b1.f1
    have b1f2 := b1.f2
    have b1l := b1.lt
    cases zn
    · go_wp2_with fail
      go_ret2
      exact ⟨ret_eq (by simp), hch⟩
    · go_wp2_with fail
      go_ret2
      exact ⟨ret_eq (by simp), hch⟩
  · subst h1 h2
    refine (ruint_any zN _ hs h).mono ?_
    rintro e _ ⟨rfl, rfl⟩
    skip
    obtain ⟨m, HM⟩ := name_it (val zN)
    rw [HM.out] at h ⊢
    have b1c0 := b1.c0
    have b1c1 := b1.c1
    have b1c2 := b1.c2
    have b1f0 := b1.f0
    have b1f1 := b1.f1
    have b1f2 := b1.f2
    have b1l := b1.lt
    cases zn
    · go_wp2_with fail
      go_ret2
      exact ⟨ret_eq (by simp), hch⟩
    · go_wp2_with fail
      go_ret2
      exact ⟨ret_eq (by simp), hch⟩
  · subst h1 h2
    subst hn
    refine (ruint_any zN _ hs (by omega)).mono ?_
    rintro e _ ⟨rfl, rfl⟩
    skip
    obtain ⟨m, HM⟩ := name_it (val zN)
    rw [HM.out] at h ⊢
    have b1c0 := b1.c0
    have b1c1 := b1.c1
    have b1c2 := b1.c2
    have b1f0 := b1.f0
    have b1f1 := b1.f1
    have b1f2 := b1.f2
    have b1l := b1.lt
    go_wp2_with fail
    go_ret2
    exact ⟨ret_eq (by simp [HM.out]), hch⟩
  · subst h1 h2
    subst hn
    refine (ruint_any zN _ hs h).mono ?_
    rintro e _ ⟨rfl, rfl⟩
    skip
    obtain ⟨m, HM⟩ := name_it (val zN)
    rw [HM.out] at h h0 ⊢
    have b1c0 := b1.c0
    have b1c1 := b1.c1
    have b1c2 := b1.c2
    have b1f0 := b1.f0
    have b1f1 := b1.f1
    have b1f2 := b1.f2
    have b1l := b1.lt
    go_wp2_with fail
    go_ret2
    exact ⟨ret_eq (by simp), hch⟩
  · subst h1 h2
    subst hn
    refine (ruint_any zN _ hs (by omega)).mono ?_
    rintro e _ ⟨rfl, rfl⟩
    skip
    obtain ⟨m, HM⟩ := name_it (val zN)
    rw [HM.out] at h h0 ⊢
    have b1c0 := b1.c0
    have b1c1 := b1.c1
    have b1c2 := b1.c2
    have b1f0 := b1.f0
    have b1f1 := b1.f1
    have b1f2 := b1.f2
    have b1l := b1.lt
    go_wp2_with fail
    go_ret2
    exact ⟨ret_eq (by simp [HM.out]; omega), hch⟩
  · subst h1 h2
    subst hn
    refine (ruint_any zN _ hs h).mono ?_
    rintro e _ ⟨rfl, rfl⟩
    skip
    obtain ⟨m, HM⟩ := name_it (val zN)
    rw [HM.out] at h h0 ⊢
    have b1c0 := b1.c0
    have b1c1 := b1.c1
    have b1c2 := b1.c2
    have b1f0 := b1.f0
    have b1f1 := b1.f1
    have b1f2 := b1.f2
    have b1l := b1.lt
    go_wp2_with fail
    go_ret2
    exact ⟨ret_eq (by simp), hch⟩

end Go.Proofs.YtcliibhooeffdaaGreatDoor
