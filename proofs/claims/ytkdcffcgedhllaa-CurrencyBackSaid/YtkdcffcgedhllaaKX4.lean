/-
  Currency: Convert of the reference.
-/
import Derived.Test.YtkdcffcgedhllaaKX3
namespace Go.Proofs.Ytkdcffcgedhllaa
open Go.RowKit Nd

set_option maxRecDepth 20000 in
set_option maxHeartbeats 4000000 in
theorem econvert_any (l : List Qt) (x : Q3) (p : Rat) (kp : Nat) (f t : ByteArray) (d : Int) (n k : Nat) (A : Option Addr) (cap : Nat) (w : World) (hn : l.length = n) (hm : n ≤ 1000000000) (hf : FitQ l k) (hp : Num x p kp) (hkp : kp ≤ 1000000000) (hx : SQt w A l) :
    Calls Try.prog 19 #[.slice A n cap, .agg #[.bool x.neg, .string x.num, .string x.den], .string f, .string t, .int .i64 d] w fun e w' => ∃ z, e = .returned (.tuple #[.agg #[.bool z.neg, .string z.num, .string z.den], .int .i64 (cvE l f t d)]) ∧ Val z (cvV p l f t d) (kp + k + k) ∧ Chg [] w w' := by
  obtain ⟨b6, b10, hch⟩ := box2x w x
  replace hx := hx.keep0 hch
  have hk1000 := hf.le
  have HPOS := Lib.hid hf.pos
  have HP := Lib.hid hp
  clear hp
  have HF1 := Lib.hid (fun w h => erate_any l f d n k A cap w hn hm hf h)
  have HF2 := Lib.hid (fun w h => erate_any l t d n k A cap w hn hm hf h)
  have HV1 := Lib.hid (rt_val (c := f) (d := d) hf)
  have HV2 := Lib.hid (rt_val (c := t) (d := d) hf)
  have HC1 := Lib.hid (cv_from (p := p) (l := l) (f := f) (t := t) (d := d))
  have HC2 := Lib.hid (cv_to (p := p) (l := l) (f := f) (t := t) (d := d))
  have HC3 := Lib.hid (cv_ok (p := p) (l := l) (f := f) (t := t) (d := d))
  obtain ⟨e1, HE1⟩ := name_it (rtE l f d)
  obtain ⟨v1, HVV1⟩ := name_it (rtV l f d)
  obtain ⟨e2, HE2⟩ := name_it (rtE l t d)
  obtain ⟨v2, HVV2⟩ := name_it (rtV l t d)
  obtain ⟨ce, HCE⟩ := name_it (cvE l f t d)
  obtain ⟨cv, HCV⟩ := name_it (cvV p l f t d)
  rw [HE1.out, HVV1.out] at HF1 HV1
  rw [HE2.out, HVV2.out] at HF2 HV2
  rw [HCE.out, HCV.out, HE1.out] at HC1
  rw [HCE.out, HCV.out, HE1.out, HE2.out] at HC2
  rw [HCE.out, HCV.out, HE1.out, HE2.out, HVV1.out, HVV2.out] at HC3
  rw [HCE.out, HCV.out]
  clear hn hf HE1 HE2 HVV1 HVV2 HCE HCV
  go_enter Try.func19, Try.ntmps19
  go_wp2_with fail
  refine (HF1.out _ hx).mono ?_
  rintro e w2 ⟨rfl, c1⟩
  replace b6 := b6.keep0 c1
  replace b10 := b10.keep0 c1
  replace hx := hx.keep0 c1
  replace hch := hch.then c1
  have hl13 : w.heap.size + 1 < w2.heap.size := b10.lt
  have b13 := Blk3.alloc w2 (.bool v1.neg) (.string v1.num) (.string v1.den) 30
  have c2 : Chg [] w2 (w2.alloc (.cells #[.bool v1.neg, .string v1.num, .string v1.den] 30)) := (Chg.refl _ _).alloc _
  replace b6 := b6.keep0 c2
  replace b10 := b10.keep0 c2
  replace hx := hx.keep0 c2
  replace hch := hch.then c2
  clear c1 c2
  by_cases h1 : e1 = 0
  · subst h1
    go_wp2_with fail
    refine (HF2.out _ hx).mono ?_
    rintro e w3 ⟨rfl, c1⟩
    replace b6 := b6.keep0 c1
    replace b10 := b10.keep0 c1
    replace b13 := b13.keep0 c1
    replace hch := hch.then c1
    have hl15 : w.heap.size + 1 < w3.heap.size := b10.lt
    have b15 := Blk3.alloc w3 (.bool v2.neg) (.string v2.num) (.string v2.den) 30
    have c2 : Chg [] w3 (w3.alloc (.cells #[.bool v2.neg, .string v2.num, .string v2.den] 30)) := (Chg.refl _ _).alloc _
    replace b6 := b6.keep0 c2
    replace b10 := b10.keep0 c2
    replace b13 := b13.keep0 c2
    replace hch := hch.then c2
    clear c1 c2 hx
    by_cases h2 : e2 = 0
    · subst h2
      obtain ⟨r1, r2⟩ := HC3.out (by first | rfl | trivial) (by first | rfl | trivial)
      subst r1
      obtain ⟨hv1, hp1⟩ := HV1.out (by first | rfl | trivial)
      obtain ⟨hv2, hp2⟩ := HV2.out (by first | rfl | trivial)
      obtain ⟨q1', HQ1⟩ := name_it (ratOf v1)
      obtain ⟨q2', HQ2⟩ := name_it (ratOf v2)
      rw [HQ1.out] at hv1 r2
      rw [HQ2.out] at hv2 hp2 r2
      have HVL1 := Lib.hid hv1
      have HVL2 := Lib.hid hv2
      have HNZ : Hid (q2' ≠ 0) := Lib.hid (by grind)
      have HR2 := Lib.hid r2
      clear hv1 hv2 hp1 hp2 r2 HC1 HC2 HC3 HV1 HV2 HF1 HF2
      go_wp2_with fail
      obtain ⟨w5, HW5⟩ := name_it (w3.alloc (.cells #[.bool v2.neg, .string v2.num, .string v2.den] 30))
      obtain ⟨g15, G15⟩ := name_it w3.heap.size
      obtain ⟨g13, G13⟩ := name_it w2.heap.size
      obtain ⟨g6, G6⟩ := name_it w.heap.size
      rw [HW5.out] at b6 b10 b13 b15 hch ⊢
      rw [G15.out] at b15 hl15 ⊢
      rw [G13.out] at b13 hl13 ⊢
      rw [G6.out] at b6 b10 hl13 hl15 ⊢
      clear HW5 G15 G13
      have c8 : Chg [] w5 w5.drew := (Chg.refl _ _).drew
      replace b6 := b6.keep c8 (by simp)
      replace b10 := b10.keep c8 (by simp)
      replace b13 := b13.keep c8 (by simp)
      replace b15 := b15.keep c8 (by simp)
      replace hch := hch.then c8
      clear c8
      go_region_held3 (fun w' => w'.cell? ⟨g6, 0, none⟩ = some (.bool x.neg) ∧ w'.cell? ⟨g6, 1, none⟩ = some (.string x.num) ∧ w'.cell? ⟨g6, 2, none⟩ = some (.string x.den) ∧ w'.cell? ⟨g13, 0, none⟩ = some (.bool v1.neg) ∧ w'.cell? ⟨g13, 1, none⟩ = some (.string v1.num) ∧ w'.cell? ⟨g13, 2, none⟩ = some (.string v1.den) ∧ w'.cell? ⟨g15, 0, none⟩ = some (.bool v2.neg) ∧ w'.cell? ⟨g15, 1, none⟩ = some (.string v2.num) ∧ w'.cell? ⟨g15, 2, none⟩ = some (.string v2.den)) (first
          | exact ⟨b6.c0, b6.c1, b6.c2, b13.c0, b13.c1, b13.c2, b15.c0, b15.c1, b15.c2⟩
          | exact ⟨(b6.st2 (by omega) _ _ _).c0, (b6.st2 (by omega) _ _ _).c1, (b6.st2 (by omega) _ _ _).c2, (b13.st2 (by omega) _ _ _).c0, (b13.st2 (by omega) _ _ _).c1, (b13.st2 (by omega) _ _ _).c2, (b15.st2 (by omega) _ _ _).c0, (b15.st2 (by omega) _ _ _).c1, (b15.st2 (by omega) _ _ _).c2⟩) (first
          | (go_at_call 37
             (with_reducible refine (rFixN x p kp _ HP.out (by omega)).mono ?_)
             rintro e w6 ⟨y5, rfl, hy5, c6⟩
             have HY5 := Lib.hid hy5
             replace b6 := b6.keep c6 (by simp)
             replace b10 := b10.keep c6 (by simp)
             replace b13 := b13.keep c6 (by simp)
             replace b15 := b15.keep c6 (by simp)
             replace hch := hch.then c6
             clear c6
             clear hy5)
          | (go_at_call 36
             (with_reducible refine (rTimes_any y5 v1 p q1' kp k _ HY5.out HVL1.out (by omega)).mono ?_)
             rintro e w7 ⟨y6, rfl, hy6, c6⟩
             have HY6 := Lib.hid hy6
             replace b6 := b6.keep c6 (by simp)
             replace b10 := b10.keep c6 (by simp)
             replace b13 := b13.keep c6 (by simp)
             replace b15 := b15.keep c6 (by simp)
             replace hch := hch.then c6
             clear c6
             clear hy6)
          | (go_at_call 35
             (with_reducible refine (rOver_any y6 v2 (p * q1') q2' (kp + k) k _ HY6.out HVL2.out HNZ.out (by omega)).mono ?_)
             rintro e w8 ⟨z7, rfl, hz7, c7⟩
             have HZ7 := Lib.hid hz7
             rw [← HR2.out] at HZ7
             replace b6 := b6.keep c7 (by simp)
             replace b10 := b10.keep c7 (by simp)
             replace b13 := b13.keep c7 (by simp)
             replace b15 := b15.keep c7 (by simp)
             replace hch := hch.then c7
             clear c7
             clear hz7
             have b10c0 := b10.c0; have b10c1 := b10.c1; have b10c2 := b10.c2; have b10f0 := b10.f0; have b10f1 := b10.f1; have b10f2 := b10.f2; have b10l := b10.lt)
          | fail)
      all_goals
        have S := b10.store (.bool z7.neg) (.string z7.num) (.string z7.den)
        have hchS := hch.store3 (g := g6 + 1) (.inr (by rw [G6.out]; omega)) (.bool z7.neg) (.string z7.num) (.string z7.den)
        go_wp2_with fail
        exact bodyPost_ret (v := .tuple #[.agg #[.bool z7.neg, .string z7.num, .string z7.den], .int .i64 0]) (by simp [results, Try.results19, go_sem, S.c0, S.c1, S.c2]) rfl ⟨z7, rfl, HZ7.out, hchS⟩
    · obtain ⟨r1, r2⟩ := HC2.out (by first | rfl | trivial) h2
      have S := b10.store (.bool false) (.string ⟨#[]⟩) (.string ⟨#[]⟩)
      have hchS := hch.store3 (.inr (show w.heap.size ≤ w.heap.size + 1 by omega)) (.bool false) (.string ⟨#[]⟩) (.string ⟨#[]⟩)
      have d1 : (e2 == 0) = false := by simp; exact h2
      subst r1 r2
      clear h2 HC1 HC2 HC3 HV1 HV2 HF1 HF2 hl13 hl15
      have b10c0 := b10.c0
      have b10c1 := b10.c1
      have b10c2 := b10.c2
      have b10f0 := b10.f0
      have b10f1 := b10.f1
      have b10f2 := b10.f2
      have b10l := b10.lt
      go_wp2_with fail
      exact bodyPost_ret (v := .tuple #[.agg #[.bool false, .string ⟨#[]⟩, .string ⟨#[]⟩], .int .i64 ce]) (by simp [results, Try.results19, go_sem, S.c0, S.c1, S.c2]) rfl ⟨q0, rfl, Val_zero.mono (by have := HPOS.out; omega), hchS⟩
  · obtain ⟨r1, r2⟩ := HC1.out h1
    have S := b10.store (.bool false) (.string ⟨#[]⟩) (.string ⟨#[]⟩)
    have hchS := hch.store3 (.inr (show w.heap.size ≤ w.heap.size + 1 by omega)) (.bool false) (.string ⟨#[]⟩) (.string ⟨#[]⟩)
    have d1 : (e1 == 0) = false := by simp; exact h1
    subst r1 r2
    clear h1 HC1 HC2 HC3 HV1 HV2 HF1 HF2 hl13
    have b10c0 := b10.c0
    have b10c1 := b10.c1
    have b10c2 := b10.c2
    have b10f0 := b10.f0
    have b10f1 := b10.f1
    have b10f2 := b10.f2
    have b10l := b10.lt
    go_wp2_with fail
    exact bodyPost_ret (v := .tuple #[.agg #[.bool false, .string ⟨#[]⟩, .string ⟨#[]⟩], .int .i64 ce]) (by simp [results, Try.results19, go_sem, S.c0, S.c1, S.c2]) rfl ⟨q0, rfl, Val_zero.mono (by have := HPOS.out; omega), hchS⟩
end Go.Proofs.Ytkdcffcgedhllaa
