/-
  Party: the reference's has, votes.
-/
import Derived.Test.YtgdpcpbmjgaliaaPX2
namespace Go.Proofs.Ytgdpcpbmjgaliaa
open Go.RowKit Nd

/-- Whether a number is in the list. -/
def hasB (L : List Zn) (x : Int) : Bool := L.any fun z => decide (z.x = x)
theorem any_take2 {α : Type} (f : α → Bool) (l : List α) (d : α) {i : Nat} (h : i < l.length) : (l.take (i + 1)).any f = ((l.take i).any f || f (l.getD i d)) := by
  rw [List.take_add_one, List.getElem?_eq_getElem h, List.any_append]
  simp [List.getD_eq_getElem?_getD, List.getElem?_eq_getElem h]
theorem any_hit2 {α : Type} (f : α → Bool) (l : List α) (d : α) {i : Nat} (h : i < l.length) (hf : f (l.getD i d) = true) : l.any f = true := by
  rw [List.any_eq_true]
  refine ⟨l.getD i d, ?_, hf⟩
  rw [List.getD_eq_getElem?_getD, List.getElem?_eq_getElem h]; exact List.getElem_mem _

set_option maxRecDepth 20000 in
set_option maxHeartbeats 1000000 in
theorem rhas_any (L : List Zn) (l : Nat) (A : Option Addr) (cap : Nat) (x : Int) (w : World) (hl : L.length = l) (hlm : l ≤ 1000000) (hx : SZn w A L) :
    Calls Try.prog 41 #[.slice A l cap, .int .i64 x] w fun e w' => e = .returned (.bool (hasB L x)) ∧ w = w' := by
  have HL := Lib.hid hl
  have HX := Lib.hid hx
  obtain ⟨r, HR⟩ := name_it (hasB L x)
  have HT : Hid (∀ i, i < l → (L.getD i zn0).x = x → r = true) := Lib.hid fun i hi he => by
    rw [← HR.out]; exact any_hit2 _ L zn0 (by rw [hl]; exact hi) (decide_eq_true he)
  have HS : Hid (∀ i, i < l → hasB (L.take (i + 1)) x = (hasB (L.take i) x || decide ((L.getD i zn0).x = x))) := Lib.hid fun i hi => any_take2 _ L zn0 (by rw [hl]; exact hi)
  have HE : Hid (hasB (L.take l) x = false → r = false) := Lib.hid fun h => by rw [List.take_of_length_le (by omega)] at h; rw [← HR.out]; exact h
  rw [HR.out]
  clear hl HR hx
  go_enter Try.func41, Try.ntmps41
  go_wp2_with fail
  go_loopw [5] (fun iv wr => ∃ i : Nat, i ≤ l ∧ iv = .int .i64 i ∧ hasB (L.take i) x = false ∧ w = wr) (fun iv _ => l - (intOf iv).toNat)
  case atStart => exact ⟨0, Nat.zero_le _, rfl, rfl, by first | rfl | trivial⟩
  case round =>
    obtain ⟨i, hi, rfl, hz, hw⟩ := hrel
    obtain rfl := hw.symm
    have HZ := Lib.hid hz
    clear hz hw
    by_cases hlt : i < l
    · obtain ⟨g, o, rfl, hgl⟩ := HX.out.form (by rw [HL.out]; exact Nat.lt_of_le_of_lt (Nat.zero_le _) hlt)
      have hcx := (HX.out.at_ (j := i) (by rw [HL.out]; exact hlt)).c0
      rw [Nat.mul_one] at hcx
      have HTI := Lib.hid (HT.out i hlt)
      have HSI := Lib.hid (HS.out i hlt)
      obtain ⟨y, HY⟩ := name_it ((L.getD i zn0).x)
      rw [HY.out] at hcx HTI HSI
      have i1 : (0 : Int) ≤ (i : Int) := by omega
      have i2 : (i : Int) < (l : Int) := by omega
      by_cases hyx : y = x
      · obtain rfl : r = true := HTI.out hyx
        subst hyx
        go_wp2_with fail
        go_ret
        first | exact ⟨rfl, rfl⟩ | exact ⟨rfl, trivial⟩ | exact rfl
      · have d1 : (y == x) = false := by simp [hyx]
        have HZ2 : Hid (hasB (L.take (i + 1)) x = false) := Lib.hid (by rw [HSI.out, HZ.out]; simp [hyx])
        go_wp2_with fail
        go_roundw
        case rel => exact ⟨i + 1, by omega, by go_num, HZ2.out, by first | rfl | trivial⟩
        case measure => simp [intOf]; omega
    · obtain rfl : i = l := by omega
      obtain rfl : r = false := HE.out HZ.out
      go_wp2_with fail
      go_ret
      exact ⟨rfl, rfl⟩

/-- The size of a sum of votes. -/
def KV (k i : Nat) : Nat := i * (k + 1) + 1
theorem hQ_at {P : PD} {X : Nat → Bool} {i c : Nat} (h : P.c i = c) (hx : X (P.o i) = true) : hQ P X c (i + 1) = hQ P X c i + P.q i := by simp only [hQ]; rw [if_pos ⟨h, hx⟩]
theorem hQ_no {P : PD} {X : Nat → Bool} {i c : Nat} (h : ¬ (P.c i = c ∧ X (P.o i) = true)) : hQ P X c (i + 1) = hQ P X c i := by simp only [hQ]; rw [if_neg h]; grind

set_option maxRecDepth 20000 in
set_option linter.unusedSimpArgs false in
set_option maxHeartbeats 8000000 in
theorem rvotes_any (p : PV) (k : Nat) (L : List Zn) (l : Nat) (A : Option Addr) (cap : Nat) (wo : Int) (co : Nat) (X : Nat → Bool) (w : World) (hp : p.At w) (hm : p.m ≤ 64) (hG : GoodS p.K p.S) (hF : FitS p.S k) (hl : L.length = l) (hlm : l ≤ 1000000) (hx : SZn w A L)
    (hX : ∀ i, i < p.m → X ((pdOf p.K p.S).o i) = (decide (wo < 0) || decide ((p.S.getD i stk0).ow = wo) || hasB L (p.S.getD i stk0).ow)) :
    Calls Try.prog 34 #[p.val, .slice A l cap, .int .i64 wo, .int .i64 co] w fun e w' => ∃ z, e = .returned (.agg #[.bool z.neg, .string z.num, .string z.den]) ∧ Val z (hQ (pdOf p.K p.S) X co p.m) (KV k 64) ∧ Chg [] w w' := by
  have HKV : Hid (∀ i, i ≤ 64 → KV k i ≤ KV k 64 ∧ KV k 64 ≤ 65000 * 2) := Lib.hid fun i hi => by
    have h1 : i * (k + 1) ≤ 64 * (k + 1) := Nat.mul_le_mul_right _ hi
    have := hF.le
    unfold KV; omega
  have HKS : Hid (∀ i, KV k (i + 1) = KV k i + k + 1) := Lib.hid fun i => by unfold KV; rw [Nat.add_mul]; omega
  have hpm : (pdOf p.K p.S).m = p.m := hp.sn
  have HAT : Hid (∀ i, i < p.m → (p.S.getD i stk0).co = (((pdOf p.K p.S).c i : Nat) : Int)) := Lib.hid fun i hi => (hG.at_ (i := i) (by rw [hp.sn]; exact hi)).2.1
  have HV : Hid (∀ i, i < p.m → Val (p.S.getD i stk0).vt ((pdOf p.K p.S).q i) k) := Lib.hid fun i hi => hF.val hG (by rw [hp.sn]; exact hi)
  have HXX := Lib.hid hX
  have HKL := Lib.hid hF.le
  have HSN : Hid (p.S.length = p.m) := Lib.hid hp.sn
  obtain ⟨P, HP⟩ := name_it (pdOf p.K p.S)
  rw [HP.out] at HAT HV HXX ⊢
  have c1 : Chg [] (w.alloc (.cells #[.slice p.AK p.n p.cK, .slice p.AS p.m p.cS, .slice p.AT p.t p.cT] 26)) ((w.alloc (.cells #[.slice p.AK p.n p.cK, .slice p.AS p.m p.cS, .slice p.AT p.t p.cT] 26)).alloc (.cells #[.bool false, .string ⟨#[]⟩, .string ⟨#[]⟩] 33)) := (Chg.refl _ _).alloc _
  have c2 : Chg [] ((w.alloc (.cells #[.slice p.AK p.n p.cK, .slice p.AS p.m p.cS, .slice p.AT p.t p.cT] 26)).alloc (.cells #[.bool false, .string ⟨#[]⟩, .string ⟨#[]⟩] 33)) (((w.alloc (.cells #[.slice p.AK p.n p.cK, .slice p.AS p.m p.cS, .slice p.AT p.t p.cT] 26)).alloc (.cells #[.bool false, .string ⟨#[]⟩, .string ⟨#[]⟩] 33)).alloc (.cells #[.bool false, .string ⟨#[]⟩, .string ⟨#[]⟩] 33)) := (Chg.refl _ _).alloc _
  have b1 := ((box_p p w).keep0 c1).keep0 c2
  have b2 := (Blk3.alloc (w.alloc (.cells #[.slice p.AK p.n p.cK, .slice p.AS p.m p.cS, .slice p.AT p.t p.cT] 26)) (.bool false) (.string ⟨#[]⟩) (.string ⟨#[]⟩) 33).keep0 c2
  have b3 := Blk3.alloc ((w.alloc (.cells #[.slice p.AK p.n p.cK, .slice p.AS p.m p.cS, .slice p.AT p.t p.cT] 26)).alloc (.cells #[.bool false, .string ⟨#[]⟩, .string ⟨#[]⟩] 33)) (.bool false) (.string ⟨#[]⟩) (.string ⟨#[]⟩) 33
  rw [World.size_alloc] at b2
  rw [World.size_alloc, World.size_alloc] at b3
  have hch := ((chg_p p w).then c1).then c2
  have hlow := hp.low
  have hxlow := hx.form
  have hps := hp.s.keep0 hch
  replace hx := hx.keep0 hch
  have HLOW := Lib.hid hlow.s
  have HXLOW := Lib.hid hxlow
  have HL := Lib.hid hl
  clear c1 c2 hG hF hpm HP hX hlow hp hxlow hl
  obtain ⟨K, S, T, n, m, tn, AK, AS, AT, cK, cS, cT⟩ := p
  dsimp only at *
  obtain ⟨ci, HCI⟩ := name_it ((co : Nat) : Int)
  rw [HCI.out]
  go_enter Try.func34, Try.ntmps34
  go_wp2_with fail
  obtain ⟨w0, HW0⟩ := name_it (((w.alloc (.cells #[.slice AK n cK, .slice AS m cS, .slice AT tn cT] 26)).alloc (.cells #[.bool false, .string ⟨#[]⟩, .string ⟨#[]⟩] 33)).alloc (.cells #[.bool false, .string ⟨#[]⟩, .string ⟨#[]⟩] 33))
  rw [HW0.out] at b1 b2 b3 hps hx hch ⊢
  obtain ⟨g0, HG0⟩ := name_it w.heap.size
  rw [HG0.out] at b1 b2 b3 HLOW HXLOW ⊢
  have hg0 : w.heap.size ≤ g0 := Nat.le_of_eq HG0.out
  clear HW0
  go_loopw [10] (fun iv wr => ∃ (i : Nat) (z : Q3), i ≤ m ∧ iv = .int .i64 i ∧ Val z (hQ P X co i) (KV k i) ∧ Blk3 wr g0 (.slice AK n cK) (.slice AS m cS) (.slice AT tn cT) ∧ Blk3 wr (g0 + 1) (.bool false) (.string ⟨#[]⟩) (.string ⟨#[]⟩) ∧ Blk3 wr (g0 + 2) (.bool z.neg) (.string z.num) (.string z.den) ∧ SStk wr AS S ∧ SZn wr A L ∧ Chg [] w wr) (fun iv _ => m - (intOf iv).toNat)
  case atStart => exact ⟨0, q0, Nat.zero_le _, rfl, Val_zero.mono (by unfold KV; omega), b1, b2, b3, hps, hx, hch⟩
  case round =>
    clear b1 b2 b3 hps hx hch
    obtain ⟨i, z, hi, rfl, hz, b1, b2, b3, hps, hx, hch⟩ := hrel
    have HZ := Lib.hid hz
    clear hz
    have b1c1 := b1.c1
    by_cases hlt : i < m
    · obtain ⟨g, o, rfl, hgl⟩ := hps.form (by rw [HSN.out]; exact Nat.lt_of_le_of_lt (Nat.zero_le _) hlt)
      have hgs0 : g < g0 := by
        obtain ⟨g', o', e, h⟩ := HLOW.out (by rw [HSN.out]; exact Nat.lt_of_le_of_lt (Nat.zero_le _) hlt)
        simp only [Option.some.injEq, Addr.mk.injEq, and_true] at e
        omega
      have hcx := hps.at_ (j := i) (by rw [HSN.out]; exact hlt)
      have HA := Lib.hid (HAT.out i hlt)
      have HVI := Lib.hid (HV.out i hlt)
      have HXI := Lib.hid (HXX.out i hlt)
      have HKI := Lib.hid (HKV.out i (by omega))
      obtain ⟨t, HT⟩ := name_it (S.getD i stk0)
      rw [HT.out] at hcx HA HVI HXI
      obtain ⟨q, HQ⟩ := name_it (P.q i)
      rw [HQ.out] at HVI
      have HFX := Lib.hid (fun w => rFixN t.vt q k w HVI.out.num (by have := HKL.out; omega))
      have HPL := Lib.hid (fun y w (hy : Val y q k) => rPlus_any z y (hQ P X co i) q (KV k i) k w HZ.out hy (by have := HKI.out; have := HKL.out; omega))
      obtain ⟨ow, HOW⟩ := name_it t.ow
      obtain ⟨cc, HCC⟩ := name_it t.co
      rw [HOW.out] at HXI
      rw [HCC.out] at HA
      obtain ⟨a0, a1, a2, a3, a4, -⟩ := hcx
      rw [HOW.out] at a0
      rw [HCC.out] at a1
      have HADD : Hid (P.c i = co → X (P.o i) = true → hQ P X co (i + 1) = hQ P X co i + q) := Lib.hid fun h1 h2 => by rw [hQ_at h1 h2, HQ.out]
      have HNO : Hid (¬ (P.c i = co ∧ X (P.o i) = true) → Val z (hQ P X co (i + 1)) (KV k (i + 1))) := Lib.hid fun h => by rw [hQ_no h]; exact HZ.out.mono (by rw [HKS.out]; omega)
      have i1 : (0 : Int) ≤ (i : Int) := by omega
      have i2 : (i : Int) < (m : Int) := by omega
      by_cases hcc : cc = ci
      · have HCO : Hid (P.c i = co) := Lib.hid (by have := HA.out; have := HCI.out; omega)
        subst hcc
        have c4 : Chg [] wr (wr.alloc (.cells #[.int .i64 ow, .int .i64 cc, .bool t.vt.neg, .string t.vt.num, .string t.vt.den] 36)) := (Chg.refl _ _).alloc _
        have b11 := BlkStk.alloc wr (.int .i64 ow) (.int .i64 cc) (.bool t.vt.neg) (.string t.vt.num) (.string t.vt.den) 36
        have hb11 : g0 + 2 < wr.heap.size := b3.lt
        replace b1 := b1.keep0 c4
        replace b2 := b2.keep0 c4
        replace b3 := b3.keep0 c4
        replace hps := hps.keep0 c4
        replace hx := hx.keep0 c4
        replace hch := hch.then c4
        clear c4
        have b11c0 := b11.c0
        have b11c1 := b11.c1
        by_cases hw0 : wo < 0
        · have d1 : decide (wo < 0) = true := decide_eq_true hw0
          have HXT : Hid (X (P.o i) = true) := Lib.hid (by rw [HXI.out]; simp [hw0])
          clear hw0
          go_wp2_with fail
          clear b11c0 b11c1 b1c1 a0 a1 a2 a3 a4
          obtain ⟨w5, HW5⟩ := name_it (wr.alloc (.cells #[.int .i64 ow, .int .i64 cc, .bool t.vt.neg, .string t.vt.num, .string t.vt.den] 36))
          obtain ⟨g11, HG11⟩ := name_it wr.heap.size
          rw [HW5.out] at b1 b2 b3 b11 hps hx hch ⊢
          rw [HG11.out] at b11 hb11 ⊢
          have c8 : Chg [] w5 w5.drew := (Chg.refl _ _).drew
          replace b1 := b1.keep0 c8
          replace b2 := b2.keep0 c8
          replace b3 := b3.keep0 c8
          replace b11 := b11.keep0 c8
          replace hps := hps.keep0 c8
          replace hx := hx.keep0 c8
          have hcz := hch.then c8
          clear c8 HW5 HG11 hch
          refine wp_region_held_drew (S := (fun w' => w'.cell? ⟨g11, 2, none⟩ = some (.bool t.vt.neg) ∧ w'.cell? ⟨g11, 3, none⟩ = some (.string t.vt.num) ∧ w'.cell? ⟨g11, 4, none⟩ = some (.string t.vt.den))) (by kernel_rfl) ?_ (fun hHeld => ?_)
          · exact ⟨b11.c2, b11.c3, b11.c4⟩
          obtain ⟨wz, HWz⟩ := name_it w5.drew
          rw [HWz.out] at b1 b2 b3 b11 hps hx hcz hHeld ⊢
          refine wpAnyH_take (i := 1) (v := ?_) rfl (by kernel_rfl) (by kernel_rfl) (by kernel_rfl) (fun _ _ _ h => h) (Or.inl ⟨by rfl, ?_⟩) (by assumption) ?_
          rotate_left 1
          · intro w hSw
            try dsimp only at hSw
            go_simp
            try with_reducible rfl
          try simp only [List.getElem_toArray, List.getElem_cons_succ, List.getElem_cons_zero]
          try simp only [Act.put, List.setIfInBounds_toArray, List.set_cons_zero, List.set_cons_succ]
          refine wpAnyH_take (i := 2) (v := ?_) rfl (by kernel_rfl) (by kernel_rfl) (by kernel_rfl) (fun _ _ _ h => h) (Or.inl ⟨by rfl, ?_⟩) (by assumption) ?_
          rotate_left 1
          · intro w hSw
            try dsimp only at hSw
            go_simp
            try with_reducible rfl
          try simp only [List.getElem_toArray, List.getElem_cons_succ, List.getElem_cons_zero]
          try simp only [Act.put, List.setIfInBounds_toArray, List.set_cons_zero, List.set_cons_succ]
          refine wpAnyH_ready (rs := [0, 3]) (by kernel_rfl) (by simp) ?_
          refine AllReadyH.cons (o := _) rfl (fun K' hK => ?_) ?_
          · have b3c0 := b3.c0
            have b3c1 := b3.c1
            have b3c2 := b3.c2
            go_simp
            refine hK.out _ _ ?_ (fun hHeld => ?_)
            · exact ⟨b11.c2, b11.c3, b11.c4⟩
            clear hK K'
            try simp only [Act.put, List.setIfInBounds_toArray, List.set_cons_zero, List.set_cons_succ]
            clear b3c0 b3c1 b3c2
            refine wpAnyH_ready (rs := [3]) (by kernel_rfl) (by simp) ?_
            refine AllReadyH.cons (o := _) rfl (fun K' hK => ?_) AllReadyH.nil
            go_simp
            refine (HFX.out _).mono ?_
            rintro e9 wk1 ⟨y2, rfl, hy2, c6⟩
            have HY2 := Lib.hid hy2
            clear hy2
            replace b1 := b1.keep0 c6
            replace b2 := b2.keep0 c6
            replace b3 := b3.keep0 c6
            replace b11 := b11.keep0 c6
            replace hps := hps.keep0 c6
            replace hx := hx.keep0 c6
            replace hcz := hcz.then c6
            clear c6
            go_wp2_with fail
            refine hK.out _ _ ?_ (fun hHeld => ?_)
            · exact ⟨b11.c2, b11.c3, b11.c4⟩
            clear hK K'
            try simp only [Act.put, List.setIfInBounds_toArray, List.set_cons_zero, List.set_cons_succ]
            refine wpAnyH_ready (rs := [4]) (by kernel_rfl) (by simp) ?_
            refine AllReadyH.cons (o := _) rfl (fun K' hK => ?_) AllReadyH.nil
            go_simp
            refine (HPL.out y2 _ HY2.out).mono ?_
            rintro e9 wk2 ⟨z2, rfl, hz2, c6⟩
            have HZ2 := Lib.hid hz2
            clear hz2
            replace b1 := b1.keep0 c6
            replace b2 := b2.keep0 c6
            replace b3 := b3.keep0 c6
            replace b11 := b11.keep0 c6
            replace hps := hps.keep0 c6
            replace hx := hx.keep0 c6
            replace hcz := hcz.then c6
            clear c6
            go_wp2_with fail
            refine hK.out _ _ ?_ (fun hHeld => ?_)
            · exact ⟨b11.c2, b11.c3, b11.c4⟩
            clear hK K'
            try simp only [Act.put, List.setIfInBounds_toArray, List.set_cons_zero, List.set_cons_succ]
            refine wpAnyH_ready (rs := [5]) (by kernel_rfl) (by simp) ?_
            refine AllReadyH.cons (o := _) rfl (fun K' hK => ?_) AllReadyH.nil
            have b3c0 := b3.c0
            have b3c1 := b3.c1
            have b3c2 := b3.c2
            have b3f0 := b3.f0
            have b3f1 := b3.f1
            have b3f2 := b3.f2
            have b3l := b3.lt
            have n11 : g11 ≠ g0 + 2 := by omega
            go_simp
            refine hK.out _ _ ?_ (fun hHeld => ?_)
            · exact ⟨(b11.keep ((Chg.refl [g0 + 2] _).store3 (g := g0 + 2) (.inl (by simp)) (.bool z2.neg) (.string z2.num) (.string z2.den)) (by simpa using n11)).c2, (b11.keep ((Chg.refl [g0 + 2] _).store3 (g := g0 + 2) (.inl (by simp)) (.bool z2.neg) (.string z2.num) (.string z2.den)) (by simpa using n11)).c3, (b11.keep ((Chg.refl [g0 + 2] _).store3 (g := g0 + 2) (.inl (by simp)) (.bool z2.neg) (.string z2.num) (.string z2.den)) (by simpa using n11)).c4⟩
            clear hK K'
            try simp only [Act.put, List.setIfInBounds_toArray, List.set_cons_zero, List.set_cons_succ]
            clear b3c0 b3c1 b3c2 b3f0 b3f1 b3f2 b3l
            refine wpAnyH_done (by kernel_rfl) ?_ _
            have hcn1 : Chg [g0 + 2] _ _ := (Chg.refl [g0 + 2] wk2).store3 (g := g0 + 2) (.inl (by simp)) (.bool z2.neg) (.string z2.num) (.string z2.den)
            have b1S := b1.keep hcn1 (by simp)
            have b2S := b2.keep hcn1 (by simp)
            have b3S := b3.store (.bool z2.neg) (.string z2.num) (.string z2.den)
            have hpS := hps.keepL HLOW.out hcn1 (by intro x hx; simp at hx; omega)
            have hxS := hx.keepL HXLOW.out hcn1 (by intro x hx; simp at hx; omega)
            have hchS := hcz.store3 (.inr (show w.heap.size ≤ g0 + 2 by omega)) (.bool z2.neg) (.string z2.num) (.string z2.den)
            have HN : Hid (Val z2 (hQ P X co (i + 1)) (KV k (i + 1))) := Lib.hid (by rw [HADD.out HCO.out HXT.out, HKS.out]; exact HZ2.out)
            clear b1 b2 b3 b11 hps hx hcz hcn1
            go_wp2_with fail
            go_roundw
            case rel => exact ⟨i + 1, z2, by omega, by go_num, HN.out, b1S, b2S, b3S, hpS, hxS, hchS⟩
            case measure => simp [intOf]; omega
          refine AllReadyH.cons (o := _) rfl (fun K' hK => ?_) AllReadyH.nil
          go_simp
          refine (HFX.out _).mono ?_
          rintro e9 wk3 ⟨y2, rfl, hy2, c6⟩
          have HY2 := Lib.hid hy2
          clear hy2
          replace b1 := b1.keep0 c6
          replace b2 := b2.keep0 c6
          replace b3 := b3.keep0 c6
          replace b11 := b11.keep0 c6
          replace hps := hps.keep0 c6
          replace hx := hx.keep0 c6
          replace hcz := hcz.then c6
          clear c6
          go_wp2_with fail
          refine hK.out _ _ ?_ (fun hHeld => ?_)
          · exact ⟨b11.c2, b11.c3, b11.c4⟩
          clear hK K'
          try simp only [Act.put, List.setIfInBounds_toArray, List.set_cons_zero, List.set_cons_succ]
          refine wpAnyH_ready (rs := [0]) (by kernel_rfl) (by simp) ?_
          refine AllReadyH.cons (o := _) rfl (fun K' hK => ?_) AllReadyH.nil
          have b3c0 := b3.c0
          have b3c1 := b3.c1
          have b3c2 := b3.c2
          go_simp
          refine hK.out _ _ ?_ (fun hHeld => ?_)
          · exact ⟨b11.c2, b11.c3, b11.c4⟩
          clear hK K'
          try simp only [Act.put, List.setIfInBounds_toArray, List.set_cons_zero, List.set_cons_succ]
          clear b3c0 b3c1 b3c2
          refine wpAnyH_ready (rs := [4]) (by kernel_rfl) (by simp) ?_
          refine AllReadyH.cons (o := _) rfl (fun K' hK => ?_) AllReadyH.nil
          go_simp
          refine (HPL.out y2 _ HY2.out).mono ?_
          rintro e9 wk4 ⟨z2, rfl, hz2, c6⟩
          have HZ2 := Lib.hid hz2
          clear hz2
          replace b1 := b1.keep0 c6
          replace b2 := b2.keep0 c6
          replace b3 := b3.keep0 c6
          replace b11 := b11.keep0 c6
          replace hps := hps.keep0 c6
          replace hx := hx.keep0 c6
          replace hcz := hcz.then c6
          clear c6
          go_wp2_with fail
          refine hK.out _ _ ?_ (fun hHeld => ?_)
          · exact ⟨b11.c2, b11.c3, b11.c4⟩
          clear hK K'
          try simp only [Act.put, List.setIfInBounds_toArray, List.set_cons_zero, List.set_cons_succ]
          refine wpAnyH_ready (rs := [5]) (by kernel_rfl) (by simp) ?_
          refine AllReadyH.cons (o := _) rfl (fun K' hK => ?_) AllReadyH.nil
          have b3c0 := b3.c0
          have b3c1 := b3.c1
          have b3c2 := b3.c2
          have b3f0 := b3.f0
          have b3f1 := b3.f1
          have b3f2 := b3.f2
          have b3l := b3.lt
          have n11 : g11 ≠ g0 + 2 := by omega
          go_simp
          refine hK.out _ _ ?_ (fun hHeld => ?_)
          · exact ⟨(b11.keep ((Chg.refl [g0 + 2] _).store3 (g := g0 + 2) (.inl (by simp)) (.bool z2.neg) (.string z2.num) (.string z2.den)) (by simpa using n11)).c2, (b11.keep ((Chg.refl [g0 + 2] _).store3 (g := g0 + 2) (.inl (by simp)) (.bool z2.neg) (.string z2.num) (.string z2.den)) (by simpa using n11)).c3, (b11.keep ((Chg.refl [g0 + 2] _).store3 (g := g0 + 2) (.inl (by simp)) (.bool z2.neg) (.string z2.num) (.string z2.den)) (by simpa using n11)).c4⟩
          clear hK K'
          try simp only [Act.put, List.setIfInBounds_toArray, List.set_cons_zero, List.set_cons_succ]
          clear b3c0 b3c1 b3c2 b3f0 b3f1 b3f2 b3l
          refine wpAnyH_done (by kernel_rfl) ?_ _
          have hcn1 : Chg [g0 + 2] _ _ := (Chg.refl [g0 + 2] wk4).store3 (g := g0 + 2) (.inl (by simp)) (.bool z2.neg) (.string z2.num) (.string z2.den)
          have b1S := b1.keep hcn1 (by simp)
          have b2S := b2.keep hcn1 (by simp)
          have b3S := b3.store (.bool z2.neg) (.string z2.num) (.string z2.den)
          have hpS := hps.keepL HLOW.out hcn1 (by intro x hx; simp at hx; omega)
          have hxS := hx.keepL HXLOW.out hcn1 (by intro x hx; simp at hx; omega)
          have hchS := hcz.store3 (.inr (show w.heap.size ≤ g0 + 2 by omega)) (.bool z2.neg) (.string z2.num) (.string z2.den)
          have HN : Hid (Val z2 (hQ P X co (i + 1)) (KV k (i + 1))) := Lib.hid (by rw [HADD.out HCO.out HXT.out, HKS.out]; exact HZ2.out)
          clear b1 b2 b3 b11 hps hx hcz hcn1
          go_wp2_with fail
          go_roundw
          case rel => exact ⟨i + 1, z2, by omega, by go_num, HN.out, b1S, b2S, b3S, hpS, hxS, hchS⟩
          case measure => simp [intOf]; omega
        · have d1 : decide (wo < 0) = false := decide_eq_false hw0
          by_cases how : ow = wo
          · have HXT : Hid (X (P.o i) = true) := Lib.hid (by rw [HXI.out]; simp [how])
            clear hw0
            subst how
            go_wp2_with fail
            clear b11c0 b11c1 b1c1 a0 a1 a2 a3 a4
            obtain ⟨w5, HW5⟩ := name_it (wr.alloc (.cells #[.int .i64 ow, .int .i64 cc, .bool t.vt.neg, .string t.vt.num, .string t.vt.den] 36))
            obtain ⟨g11, HG11⟩ := name_it wr.heap.size
            rw [HW5.out] at b1 b2 b3 b11 hps hx hch ⊢
            rw [HG11.out] at b11 hb11 ⊢
            have c8 : Chg [] w5 w5.drew := (Chg.refl _ _).drew
            replace b1 := b1.keep0 c8
            replace b2 := b2.keep0 c8
            replace b3 := b3.keep0 c8
            replace b11 := b11.keep0 c8
            replace hps := hps.keep0 c8
            replace hx := hx.keep0 c8
            have hcz := hch.then c8
            clear c8 HW5 HG11 hch
            refine wp_region_held_drew (S := (fun w' => w'.cell? ⟨g11, 2, none⟩ = some (.bool t.vt.neg) ∧ w'.cell? ⟨g11, 3, none⟩ = some (.string t.vt.num) ∧ w'.cell? ⟨g11, 4, none⟩ = some (.string t.vt.den))) (by kernel_rfl) ?_ (fun hHeld => ?_)
            · exact ⟨b11.c2, b11.c3, b11.c4⟩
            obtain ⟨wz, HWz⟩ := name_it w5.drew
            rw [HWz.out] at b1 b2 b3 b11 hps hx hcz hHeld ⊢
            refine wpAnyH_take (i := 1) (v := ?_) rfl (by kernel_rfl) (by kernel_rfl) (by kernel_rfl) (fun _ _ _ h => h) (Or.inl ⟨by rfl, ?_⟩) (by assumption) ?_
            rotate_left 1
            · intro w hSw
              try dsimp only at hSw
              go_simp
              try with_reducible rfl
            try simp only [List.getElem_toArray, List.getElem_cons_succ, List.getElem_cons_zero]
            try simp only [Act.put, List.setIfInBounds_toArray, List.set_cons_zero, List.set_cons_succ]
            refine wpAnyH_take (i := 2) (v := ?_) rfl (by kernel_rfl) (by kernel_rfl) (by kernel_rfl) (fun _ _ _ h => h) (Or.inl ⟨by rfl, ?_⟩) (by assumption) ?_
            rotate_left 1
            · intro w hSw
              try dsimp only at hSw
              go_simp
              try with_reducible rfl
            try simp only [List.getElem_toArray, List.getElem_cons_succ, List.getElem_cons_zero]
            try simp only [Act.put, List.setIfInBounds_toArray, List.set_cons_zero, List.set_cons_succ]
            refine wpAnyH_ready (rs := [0, 3]) (by kernel_rfl) (by simp) ?_
            refine AllReadyH.cons (o := _) rfl (fun K' hK => ?_) ?_
            · have b3c0 := b3.c0
              have b3c1 := b3.c1
              have b3c2 := b3.c2
              go_simp
              refine hK.out _ _ ?_ (fun hHeld => ?_)
              · exact ⟨b11.c2, b11.c3, b11.c4⟩
              clear hK K'
              try simp only [Act.put, List.setIfInBounds_toArray, List.set_cons_zero, List.set_cons_succ]
              clear b3c0 b3c1 b3c2
              refine wpAnyH_ready (rs := [3]) (by kernel_rfl) (by simp) ?_
              refine AllReadyH.cons (o := _) rfl (fun K' hK => ?_) AllReadyH.nil
              go_simp
              refine (HFX.out _).mono ?_
              rintro e9 wk1 ⟨y2, rfl, hy2, c6⟩
              have HY2 := Lib.hid hy2
              clear hy2
              replace b1 := b1.keep0 c6
              replace b2 := b2.keep0 c6
              replace b3 := b3.keep0 c6
              replace b11 := b11.keep0 c6
              replace hps := hps.keep0 c6
              replace hx := hx.keep0 c6
              replace hcz := hcz.then c6
              clear c6
              go_wp2_with fail
              refine hK.out _ _ ?_ (fun hHeld => ?_)
              · exact ⟨b11.c2, b11.c3, b11.c4⟩
              clear hK K'
              try simp only [Act.put, List.setIfInBounds_toArray, List.set_cons_zero, List.set_cons_succ]
              refine wpAnyH_ready (rs := [4]) (by kernel_rfl) (by simp) ?_
              refine AllReadyH.cons (o := _) rfl (fun K' hK => ?_) AllReadyH.nil
              go_simp
              refine (HPL.out y2 _ HY2.out).mono ?_
              rintro e9 wk2 ⟨z2, rfl, hz2, c6⟩
              have HZ2 := Lib.hid hz2
              clear hz2
              replace b1 := b1.keep0 c6
              replace b2 := b2.keep0 c6
              replace b3 := b3.keep0 c6
              replace b11 := b11.keep0 c6
              replace hps := hps.keep0 c6
              replace hx := hx.keep0 c6
              replace hcz := hcz.then c6
              clear c6
              go_wp2_with fail
              refine hK.out _ _ ?_ (fun hHeld => ?_)
              · exact ⟨b11.c2, b11.c3, b11.c4⟩
              clear hK K'
              try simp only [Act.put, List.setIfInBounds_toArray, List.set_cons_zero, List.set_cons_succ]
              refine wpAnyH_ready (rs := [5]) (by kernel_rfl) (by simp) ?_
              refine AllReadyH.cons (o := _) rfl (fun K' hK => ?_) AllReadyH.nil
              have b3c0 := b3.c0
              have b3c1 := b3.c1
              have b3c2 := b3.c2
              have b3f0 := b3.f0
              have b3f1 := b3.f1
              have b3f2 := b3.f2
              have b3l := b3.lt
              have n11 : g11 ≠ g0 + 2 := by omega
              go_simp
              refine hK.out _ _ ?_ (fun hHeld => ?_)
              · exact ⟨(b11.keep ((Chg.refl [g0 + 2] _).store3 (g := g0 + 2) (.inl (by simp)) (.bool z2.neg) (.string z2.num) (.string z2.den)) (by simpa using n11)).c2, (b11.keep ((Chg.refl [g0 + 2] _).store3 (g := g0 + 2) (.inl (by simp)) (.bool z2.neg) (.string z2.num) (.string z2.den)) (by simpa using n11)).c3, (b11.keep ((Chg.refl [g0 + 2] _).store3 (g := g0 + 2) (.inl (by simp)) (.bool z2.neg) (.string z2.num) (.string z2.den)) (by simpa using n11)).c4⟩
              clear hK K'
              try simp only [Act.put, List.setIfInBounds_toArray, List.set_cons_zero, List.set_cons_succ]
              clear b3c0 b3c1 b3c2 b3f0 b3f1 b3f2 b3l
              refine wpAnyH_done (by kernel_rfl) ?_ _
              have hcn1 : Chg [g0 + 2] _ _ := (Chg.refl [g0 + 2] wk2).store3 (g := g0 + 2) (.inl (by simp)) (.bool z2.neg) (.string z2.num) (.string z2.den)
              have b1S := b1.keep hcn1 (by simp)
              have b2S := b2.keep hcn1 (by simp)
              have b3S := b3.store (.bool z2.neg) (.string z2.num) (.string z2.den)
              have hpS := hps.keepL HLOW.out hcn1 (by intro x hx; simp at hx; omega)
              have hxS := hx.keepL HXLOW.out hcn1 (by intro x hx; simp at hx; omega)
              have hchS := hcz.store3 (.inr (show w.heap.size ≤ g0 + 2 by omega)) (.bool z2.neg) (.string z2.num) (.string z2.den)
              have HN : Hid (Val z2 (hQ P X co (i + 1)) (KV k (i + 1))) := Lib.hid (by rw [HADD.out HCO.out HXT.out, HKS.out]; exact HZ2.out)
              clear b1 b2 b3 b11 hps hx hcz hcn1
              go_wp2_with fail
              go_roundw
              case rel => exact ⟨i + 1, z2, by omega, by go_num, HN.out, b1S, b2S, b3S, hpS, hxS, hchS⟩
              case measure => simp [intOf]; omega
            refine AllReadyH.cons (o := _) rfl (fun K' hK => ?_) AllReadyH.nil
            go_simp
            refine (HFX.out _).mono ?_
            rintro e9 wk3 ⟨y2, rfl, hy2, c6⟩
            have HY2 := Lib.hid hy2
            clear hy2
            replace b1 := b1.keep0 c6
            replace b2 := b2.keep0 c6
            replace b3 := b3.keep0 c6
            replace b11 := b11.keep0 c6
            replace hps := hps.keep0 c6
            replace hx := hx.keep0 c6
            replace hcz := hcz.then c6
            clear c6
            go_wp2_with fail
            refine hK.out _ _ ?_ (fun hHeld => ?_)
            · exact ⟨b11.c2, b11.c3, b11.c4⟩
            clear hK K'
            try simp only [Act.put, List.setIfInBounds_toArray, List.set_cons_zero, List.set_cons_succ]
            refine wpAnyH_ready (rs := [0]) (by kernel_rfl) (by simp) ?_
            refine AllReadyH.cons (o := _) rfl (fun K' hK => ?_) AllReadyH.nil
            have b3c0 := b3.c0
            have b3c1 := b3.c1
            have b3c2 := b3.c2
            go_simp
            refine hK.out _ _ ?_ (fun hHeld => ?_)
            · exact ⟨b11.c2, b11.c3, b11.c4⟩
            clear hK K'
            try simp only [Act.put, List.setIfInBounds_toArray, List.set_cons_zero, List.set_cons_succ]
            clear b3c0 b3c1 b3c2
            refine wpAnyH_ready (rs := [4]) (by kernel_rfl) (by simp) ?_
            refine AllReadyH.cons (o := _) rfl (fun K' hK => ?_) AllReadyH.nil
            go_simp
            refine (HPL.out y2 _ HY2.out).mono ?_
            rintro e9 wk4 ⟨z2, rfl, hz2, c6⟩
            have HZ2 := Lib.hid hz2
            clear hz2
            replace b1 := b1.keep0 c6
            replace b2 := b2.keep0 c6
            replace b3 := b3.keep0 c6
            replace b11 := b11.keep0 c6
            replace hps := hps.keep0 c6
            replace hx := hx.keep0 c6
            replace hcz := hcz.then c6
            clear c6
            go_wp2_with fail
            refine hK.out _ _ ?_ (fun hHeld => ?_)
            · exact ⟨b11.c2, b11.c3, b11.c4⟩
            clear hK K'
            try simp only [Act.put, List.setIfInBounds_toArray, List.set_cons_zero, List.set_cons_succ]
            refine wpAnyH_ready (rs := [5]) (by kernel_rfl) (by simp) ?_
            refine AllReadyH.cons (o := _) rfl (fun K' hK => ?_) AllReadyH.nil
            have b3c0 := b3.c0
            have b3c1 := b3.c1
            have b3c2 := b3.c2
            have b3f0 := b3.f0
            have b3f1 := b3.f1
            have b3f2 := b3.f2
            have b3l := b3.lt
            have n11 : g11 ≠ g0 + 2 := by omega
            go_simp
            refine hK.out _ _ ?_ (fun hHeld => ?_)
            · exact ⟨(b11.keep ((Chg.refl [g0 + 2] _).store3 (g := g0 + 2) (.inl (by simp)) (.bool z2.neg) (.string z2.num) (.string z2.den)) (by simpa using n11)).c2, (b11.keep ((Chg.refl [g0 + 2] _).store3 (g := g0 + 2) (.inl (by simp)) (.bool z2.neg) (.string z2.num) (.string z2.den)) (by simpa using n11)).c3, (b11.keep ((Chg.refl [g0 + 2] _).store3 (g := g0 + 2) (.inl (by simp)) (.bool z2.neg) (.string z2.num) (.string z2.den)) (by simpa using n11)).c4⟩
            clear hK K'
            try simp only [Act.put, List.setIfInBounds_toArray, List.set_cons_zero, List.set_cons_succ]
            clear b3c0 b3c1 b3c2 b3f0 b3f1 b3f2 b3l
            refine wpAnyH_done (by kernel_rfl) ?_ _
            have hcn1 : Chg [g0 + 2] _ _ := (Chg.refl [g0 + 2] wk4).store3 (g := g0 + 2) (.inl (by simp)) (.bool z2.neg) (.string z2.num) (.string z2.den)
            have b1S := b1.keep hcn1 (by simp)
            have b2S := b2.keep hcn1 (by simp)
            have b3S := b3.store (.bool z2.neg) (.string z2.num) (.string z2.den)
            have hpS := hps.keepL HLOW.out hcn1 (by intro x hx; simp at hx; omega)
            have hxS := hx.keepL HXLOW.out hcn1 (by intro x hx; simp at hx; omega)
            have hchS := hcz.store3 (.inr (show w.heap.size ≤ g0 + 2 by omega)) (.bool z2.neg) (.string z2.num) (.string z2.den)
            have HN : Hid (Val z2 (hQ P X co (i + 1)) (KV k (i + 1))) := Lib.hid (by rw [HADD.out HCO.out HXT.out, HKS.out]; exact HZ2.out)
            clear b1 b2 b3 b11 hps hx hcz hcn1
            go_wp2_with fail
            go_roundw
            case rel => exact ⟨i + 1, z2, by omega, by go_num, HN.out, b1S, b2S, b3S, hpS, hxS, hchS⟩
            case measure => simp [intOf]; omega
          · have d2 : (ow == wo) = false := by simp [how]
            have HHS := Lib.hid (fun w h => rhas_any L l A cap ow w HL.out hlm h)
            have HXE : Hid (X (P.o i) = hasB L ow) := Lib.hid (by rw [HXI.out]; simp [hw0, how])
            obtain ⟨y, HY⟩ := name_it (hasB L ow)
            rw [HY.out] at HHS HXE
            clear hw0
            cases y with
            | true =>
              have HXT := Lib.hid HXE.out
              go_wp2_with (go_at_call 41; (refine (HHS.out _ hx).mono ?_); rintro e w' ⟨rfl, hw⟩; obtain rfl := hw.symm; clear hw)
              clear b11c0 b11c1 b1c1 a0 a1 a2 a3 a4
              obtain ⟨w5, HW5⟩ := name_it (wr.alloc (.cells #[.int .i64 ow, .int .i64 cc, .bool t.vt.neg, .string t.vt.num, .string t.vt.den] 36))
              obtain ⟨g11, HG11⟩ := name_it wr.heap.size
              rw [HW5.out] at b1 b2 b3 b11 hps hx hch ⊢
              rw [HG11.out] at b11 hb11 ⊢
              have c8 : Chg [] w5 w5.drew := (Chg.refl _ _).drew
              replace b1 := b1.keep0 c8
              replace b2 := b2.keep0 c8
              replace b3 := b3.keep0 c8
              replace b11 := b11.keep0 c8
              replace hps := hps.keep0 c8
              replace hx := hx.keep0 c8
              have hcz := hch.then c8
              clear c8 HW5 HG11 hch
              refine wp_region_held_drew (S := (fun w' => w'.cell? ⟨g11, 2, none⟩ = some (.bool t.vt.neg) ∧ w'.cell? ⟨g11, 3, none⟩ = some (.string t.vt.num) ∧ w'.cell? ⟨g11, 4, none⟩ = some (.string t.vt.den))) (by kernel_rfl) ?_ (fun hHeld => ?_)
              · exact ⟨b11.c2, b11.c3, b11.c4⟩
              obtain ⟨wz, HWz⟩ := name_it w5.drew
              rw [HWz.out] at b1 b2 b3 b11 hps hx hcz hHeld ⊢
              refine wpAnyH_take (i := 1) (v := ?_) rfl (by kernel_rfl) (by kernel_rfl) (by kernel_rfl) (fun _ _ _ h => h) (Or.inl ⟨by rfl, ?_⟩) (by assumption) ?_
              rotate_left 1
              · intro w hSw
                try dsimp only at hSw
                go_simp
                try with_reducible rfl
              try simp only [List.getElem_toArray, List.getElem_cons_succ, List.getElem_cons_zero]
              try simp only [Act.put, List.setIfInBounds_toArray, List.set_cons_zero, List.set_cons_succ]
              refine wpAnyH_take (i := 2) (v := ?_) rfl (by kernel_rfl) (by kernel_rfl) (by kernel_rfl) (fun _ _ _ h => h) (Or.inl ⟨by rfl, ?_⟩) (by assumption) ?_
              rotate_left 1
              · intro w hSw
                try dsimp only at hSw
                go_simp
                try with_reducible rfl
              try simp only [List.getElem_toArray, List.getElem_cons_succ, List.getElem_cons_zero]
              try simp only [Act.put, List.setIfInBounds_toArray, List.set_cons_zero, List.set_cons_succ]
              refine wpAnyH_ready (rs := [0, 3]) (by kernel_rfl) (by simp) ?_
              refine AllReadyH.cons (o := _) rfl (fun K' hK => ?_) ?_
              · have b3c0 := b3.c0
                have b3c1 := b3.c1
                have b3c2 := b3.c2
                go_simp
                refine hK.out _ _ ?_ (fun hHeld => ?_)
                · exact ⟨b11.c2, b11.c3, b11.c4⟩
                clear hK K'
                try simp only [Act.put, List.setIfInBounds_toArray, List.set_cons_zero, List.set_cons_succ]
                clear b3c0 b3c1 b3c2
                refine wpAnyH_ready (rs := [3]) (by kernel_rfl) (by simp) ?_
                refine AllReadyH.cons (o := _) rfl (fun K' hK => ?_) AllReadyH.nil
                go_simp
                refine (HFX.out _).mono ?_
                rintro e9 wk1 ⟨y2, rfl, hy2, c6⟩
                have HY2 := Lib.hid hy2
                clear hy2
                replace b1 := b1.keep0 c6
                replace b2 := b2.keep0 c6
                replace b3 := b3.keep0 c6
                replace b11 := b11.keep0 c6
                replace hps := hps.keep0 c6
                replace hx := hx.keep0 c6
                replace hcz := hcz.then c6
                clear c6
                go_wp2_with fail
                refine hK.out _ _ ?_ (fun hHeld => ?_)
                · exact ⟨b11.c2, b11.c3, b11.c4⟩
                clear hK K'
                try simp only [Act.put, List.setIfInBounds_toArray, List.set_cons_zero, List.set_cons_succ]
                refine wpAnyH_ready (rs := [4]) (by kernel_rfl) (by simp) ?_
                refine AllReadyH.cons (o := _) rfl (fun K' hK => ?_) AllReadyH.nil
                go_simp
                refine (HPL.out y2 _ HY2.out).mono ?_
                rintro e9 wk2 ⟨z2, rfl, hz2, c6⟩
                have HZ2 := Lib.hid hz2
                clear hz2
                replace b1 := b1.keep0 c6
                replace b2 := b2.keep0 c6
                replace b3 := b3.keep0 c6
                replace b11 := b11.keep0 c6
                replace hps := hps.keep0 c6
                replace hx := hx.keep0 c6
                replace hcz := hcz.then c6
                clear c6
                go_wp2_with fail
                refine hK.out _ _ ?_ (fun hHeld => ?_)
                · exact ⟨b11.c2, b11.c3, b11.c4⟩
                clear hK K'
                try simp only [Act.put, List.setIfInBounds_toArray, List.set_cons_zero, List.set_cons_succ]
                refine wpAnyH_ready (rs := [5]) (by kernel_rfl) (by simp) ?_
                refine AllReadyH.cons (o := _) rfl (fun K' hK => ?_) AllReadyH.nil
                have b3c0 := b3.c0
                have b3c1 := b3.c1
                have b3c2 := b3.c2
                have b3f0 := b3.f0
                have b3f1 := b3.f1
                have b3f2 := b3.f2
                have b3l := b3.lt
                have n11 : g11 ≠ g0 + 2 := by omega
                go_simp
                refine hK.out _ _ ?_ (fun hHeld => ?_)
                · exact ⟨(b11.keep ((Chg.refl [g0 + 2] _).store3 (g := g0 + 2) (.inl (by simp)) (.bool z2.neg) (.string z2.num) (.string z2.den)) (by simpa using n11)).c2, (b11.keep ((Chg.refl [g0 + 2] _).store3 (g := g0 + 2) (.inl (by simp)) (.bool z2.neg) (.string z2.num) (.string z2.den)) (by simpa using n11)).c3, (b11.keep ((Chg.refl [g0 + 2] _).store3 (g := g0 + 2) (.inl (by simp)) (.bool z2.neg) (.string z2.num) (.string z2.den)) (by simpa using n11)).c4⟩
                clear hK K'
                try simp only [Act.put, List.setIfInBounds_toArray, List.set_cons_zero, List.set_cons_succ]
                clear b3c0 b3c1 b3c2 b3f0 b3f1 b3f2 b3l
                refine wpAnyH_done (by kernel_rfl) ?_ _
                have hcn1 : Chg [g0 + 2] _ _ := (Chg.refl [g0 + 2] wk2).store3 (g := g0 + 2) (.inl (by simp)) (.bool z2.neg) (.string z2.num) (.string z2.den)
                have b1S := b1.keep hcn1 (by simp)
                have b2S := b2.keep hcn1 (by simp)
                have b3S := b3.store (.bool z2.neg) (.string z2.num) (.string z2.den)
                have hpS := hps.keepL HLOW.out hcn1 (by intro x hx; simp at hx; omega)
                have hxS := hx.keepL HXLOW.out hcn1 (by intro x hx; simp at hx; omega)
                have hchS := hcz.store3 (.inr (show w.heap.size ≤ g0 + 2 by omega)) (.bool z2.neg) (.string z2.num) (.string z2.den)
                have HN : Hid (Val z2 (hQ P X co (i + 1)) (KV k (i + 1))) := Lib.hid (by rw [HADD.out HCO.out HXT.out, HKS.out]; exact HZ2.out)
                clear b1 b2 b3 b11 hps hx hcz hcn1
                go_wp2_with fail
                go_roundw
                case rel => exact ⟨i + 1, z2, by omega, by go_num, HN.out, b1S, b2S, b3S, hpS, hxS, hchS⟩
                case measure => simp [intOf]; omega
              refine AllReadyH.cons (o := _) rfl (fun K' hK => ?_) AllReadyH.nil
              go_simp
              refine (HFX.out _).mono ?_
              rintro e9 wk3 ⟨y2, rfl, hy2, c6⟩
              have HY2 := Lib.hid hy2
              clear hy2
              replace b1 := b1.keep0 c6
              replace b2 := b2.keep0 c6
              replace b3 := b3.keep0 c6
              replace b11 := b11.keep0 c6
              replace hps := hps.keep0 c6
              replace hx := hx.keep0 c6
              replace hcz := hcz.then c6
              clear c6
              go_wp2_with fail
              refine hK.out _ _ ?_ (fun hHeld => ?_)
              · exact ⟨b11.c2, b11.c3, b11.c4⟩
              clear hK K'
              try simp only [Act.put, List.setIfInBounds_toArray, List.set_cons_zero, List.set_cons_succ]
              refine wpAnyH_ready (rs := [0]) (by kernel_rfl) (by simp) ?_
              refine AllReadyH.cons (o := _) rfl (fun K' hK => ?_) AllReadyH.nil
              have b3c0 := b3.c0
              have b3c1 := b3.c1
              have b3c2 := b3.c2
              go_simp
              refine hK.out _ _ ?_ (fun hHeld => ?_)
              · exact ⟨b11.c2, b11.c3, b11.c4⟩
              clear hK K'
              try simp only [Act.put, List.setIfInBounds_toArray, List.set_cons_zero, List.set_cons_succ]
              clear b3c0 b3c1 b3c2
              refine wpAnyH_ready (rs := [4]) (by kernel_rfl) (by simp) ?_
              refine AllReadyH.cons (o := _) rfl (fun K' hK => ?_) AllReadyH.nil
              go_simp
              refine (HPL.out y2 _ HY2.out).mono ?_
              rintro e9 wk4 ⟨z2, rfl, hz2, c6⟩
              have HZ2 := Lib.hid hz2
              clear hz2
              replace b1 := b1.keep0 c6
              replace b2 := b2.keep0 c6
              replace b3 := b3.keep0 c6
              replace b11 := b11.keep0 c6
              replace hps := hps.keep0 c6
              replace hx := hx.keep0 c6
              replace hcz := hcz.then c6
              clear c6
              go_wp2_with fail
              refine hK.out _ _ ?_ (fun hHeld => ?_)
              · exact ⟨b11.c2, b11.c3, b11.c4⟩
              clear hK K'
              try simp only [Act.put, List.setIfInBounds_toArray, List.set_cons_zero, List.set_cons_succ]
              refine wpAnyH_ready (rs := [5]) (by kernel_rfl) (by simp) ?_
              refine AllReadyH.cons (o := _) rfl (fun K' hK => ?_) AllReadyH.nil
              have b3c0 := b3.c0
              have b3c1 := b3.c1
              have b3c2 := b3.c2
              have b3f0 := b3.f0
              have b3f1 := b3.f1
              have b3f2 := b3.f2
              have b3l := b3.lt
              have n11 : g11 ≠ g0 + 2 := by omega
              go_simp
              refine hK.out _ _ ?_ (fun hHeld => ?_)
              · exact ⟨(b11.keep ((Chg.refl [g0 + 2] _).store3 (g := g0 + 2) (.inl (by simp)) (.bool z2.neg) (.string z2.num) (.string z2.den)) (by simpa using n11)).c2, (b11.keep ((Chg.refl [g0 + 2] _).store3 (g := g0 + 2) (.inl (by simp)) (.bool z2.neg) (.string z2.num) (.string z2.den)) (by simpa using n11)).c3, (b11.keep ((Chg.refl [g0 + 2] _).store3 (g := g0 + 2) (.inl (by simp)) (.bool z2.neg) (.string z2.num) (.string z2.den)) (by simpa using n11)).c4⟩
              clear hK K'
              try simp only [Act.put, List.setIfInBounds_toArray, List.set_cons_zero, List.set_cons_succ]
              clear b3c0 b3c1 b3c2 b3f0 b3f1 b3f2 b3l
              refine wpAnyH_done (by kernel_rfl) ?_ _
              have hcn1 : Chg [g0 + 2] _ _ := (Chg.refl [g0 + 2] wk4).store3 (g := g0 + 2) (.inl (by simp)) (.bool z2.neg) (.string z2.num) (.string z2.den)
              have b1S := b1.keep hcn1 (by simp)
              have b2S := b2.keep hcn1 (by simp)
              have b3S := b3.store (.bool z2.neg) (.string z2.num) (.string z2.den)
              have hpS := hps.keepL HLOW.out hcn1 (by intro x hx; simp at hx; omega)
              have hxS := hx.keepL HXLOW.out hcn1 (by intro x hx; simp at hx; omega)
              have hchS := hcz.store3 (.inr (show w.heap.size ≤ g0 + 2 by omega)) (.bool z2.neg) (.string z2.num) (.string z2.den)
              have HN : Hid (Val z2 (hQ P X co (i + 1)) (KV k (i + 1))) := Lib.hid (by rw [HADD.out HCO.out HXT.out, HKS.out]; exact HZ2.out)
              clear b1 b2 b3 b11 hps hx hcz hcn1
              go_wp2_with fail
              go_roundw
              case rel => exact ⟨i + 1, z2, by omega, by go_num, HN.out, b1S, b2S, b3S, hpS, hxS, hchS⟩
              case measure => simp [intOf]; omega
            | false =>
              have HN := Lib.hid (HNO.out fun h => by rw [HXE.out] at h; exact absurd h.2 (by decide))
              go_wp2_with (go_at_call 41; (refine (HHS.out _ hx).mono ?_); rintro e w' ⟨rfl, hw⟩; obtain rfl := hw.symm; clear hw)
              go_roundw
              case rel => exact ⟨i + 1, z, by omega, by go_num, HN.out, b1, b2, b3, hps, hx, hch⟩
              case measure => simp [intOf]; omega
      · have HN := Lib.hid (HNO.out fun h => hcc (by have := HA.out; have := HCI.out; omega))
        have d1 : (cc == ci) = false := by simp [hcc]
        have c4 : Chg [] wr (wr.alloc (.cells #[.int .i64 ow, .int .i64 cc, .bool t.vt.neg, .string t.vt.num, .string t.vt.den] 36)) := (Chg.refl _ _).alloc _
        have b11 := BlkStk.alloc wr (.int .i64 ow) (.int .i64 cc) (.bool t.vt.neg) (.string t.vt.num) (.string t.vt.den) 36
        have hb11 : g0 + 2 < wr.heap.size := b3.lt
        replace b1 := b1.keep0 c4
        replace b2 := b2.keep0 c4
        replace b3 := b3.keep0 c4
        replace hps := hps.keep0 c4
        replace hx := hx.keep0 c4
        replace hch := hch.then c4
        clear c4
        have b11c0 := b11.c0
        have b11c1 := b11.c1
        go_wp2_with fail
        go_roundw
        case rel => exact ⟨i + 1, z, by omega, by go_num, HN.out, b1, b2, b3, hps, hx, hch⟩
        case measure => simp [intOf]; omega
    · obtain rfl : i = m := by omega
      have hzz := HZ.out.mono (HKV.out i hm).1
      have hn1 : g0 + 1 ≠ g0 + 2 := by omega
      have S2 := b2.store (.bool z.neg) (.string z.num) (.string z.den)
      have hchS := hch.store3 (.inr (show w.heap.size ≤ g0 + 1 by omega)) (.bool z.neg) (.string z.num) (.string z.den)
      have HZZ := Lib.hid hzz
      clear hzz
      have b2c0 := b2.c0
      have b2c1 := b2.c1
      have b2c2 := b2.c2
      have b2f0 := b2.f0
      have b2f1 := b2.f1
      have b2f2 := b2.f2
      have b2l := b2.lt
      have b3c0 := b3.c0
      have b3c1 := b3.c1
      have b3c2 := b3.c2
      go_wp2_with fail
      exact bodyPost_ret (v := .agg #[.bool z.neg, .string z.num, .string z.den]) (by simp [results, Try.results34, go_sem, S2.c0, S2.c1, S2.c2]) rfl ⟨z, rfl, HZZ.out, hchS⟩
end Go.Proofs.Ytgdpcpbmjgaliaa
