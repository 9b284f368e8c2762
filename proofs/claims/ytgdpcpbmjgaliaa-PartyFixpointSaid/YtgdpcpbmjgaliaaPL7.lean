/-
  Party: the law PartyFixpoint, with law 8's votes.
-/
import Derived.Test.YtgdpcpbmjgaliaaPL6
namespace Go.Proofs.Ytgdpcpbmjgaliaa
open Go.RowKit Nd

set_option maxRecDepth 20000 in
set_option linter.unusedSimpArgs false in
set_option maxHeartbeats 4000000 in
theorem lvotes_any (p : PV) (k : Nat) (L : List Zn) (l : Nat) (A : Option Addr) (cap : Nat) (wo : Int) (co : Nat) (X : Nat → Bool) (w : World) (hp : p.At w) (hm : p.m ≤ 64) (hG : GoodS p.K p.S) (hF : FitS p.S k) (hl : L.length = l) (hlm : l ≤ 1000000) (hx : SZn w A L)
    (hX : ∀ i, i < p.m → X ((pdOf p.K p.S).o i) = (decide ((p.S.getD i stk0).ow = wo) || hasB L (p.S.getD i stk0).ow)) :
    Calls Try.prog 28 #[p.val, .slice A l cap, .int .i64 wo, .int .i64 co] w fun e w' => ∃ z, e = .returned (.agg #[.bool z.neg, .string z.num, .string z.den]) ∧ Val z (hQ (pdOf p.K p.S) X co p.m) (KV k 64) ∧ Chg [] w w' := by
  have HKV : Hid (∀ i, i ≤ 64 → KV k i ≤ KV k 64 ∧ KV k 64 ≤ 65000 * 2) := Lib.hid fun i hi => by
    have h1 : i * (k + 1) ≤ 64 * (k + 1) := Nat.mul_le_mul_right _ hi
    have := hF.le
    unfold KV; omega
  have HKS : Hid (∀ i, KV k (i + 1) = KV k i + k + 1) := Lib.hid fun i => by unfold KV; rw [Nat.add_mul]; omega
  have hpm : (pdOf p.K p.S).m = p.m := hp.sn
  have HAT : Hid (∀ i, i < p.m → (p.S.getD i stk0).co = (((pdOf p.K p.S).c i : Nat) : Int)) := Lib.hid fun i hi => (hG.at_ (i := i) (by rw [hp.sn]; exact hi)).2.1
  have HV : Hid (∀ i, i < p.m → Val (p.S.getD i stk0).vt ((pdOf p.K p.S).q i) k) := Lib.hid fun i hi => hF.val hG (by rw [hp.sn]; exact hi)
  have HXX := Lib.hid hX
  have HKL := Lib.hid hF.le
  have HSN : Hid (p.S.length = p.m) := Lib.hid hp.sn
  obtain ⟨P, HP⟩ := name_it (pdOf p.K p.S)
  rw [HP.out] at HAT HV HXX ⊢
  have c1 : Chg [] (w.alloc (.cells #[.slice p.AK p.n p.cK, .slice p.AS p.m p.cS, .slice p.AT p.t p.cT] 26)) ((w.alloc (.cells #[.slice p.AK p.n p.cK, .slice p.AS p.m p.cS, .slice p.AT p.t p.cT] 26)).alloc (.cells #[.bool false, .string ⟨#[]⟩, .string ⟨#[]⟩] 33)) := (Chg.refl _ _).alloc _
  have c2 : Chg [] ((w.alloc (.cells #[.slice p.AK p.n p.cK, .slice p.AS p.m p.cS, .slice p.AT p.t p.cT] 26)).alloc (.cells #[.bool false, .string ⟨#[]⟩, .string ⟨#[]⟩] 33)) (((w.alloc (.cells #[.slice p.AK p.n p.cK, .slice p.AS p.m p.cS, .slice p.AT p.t p.cT] 26)).alloc (.cells #[.bool false, .string ⟨#[]⟩, .string ⟨#[]⟩] 33)).alloc (.cells #[.bool false, .string ⟨#[]⟩, .string ⟨#[]⟩] 33)) := (Chg.refl _ _).alloc _
  have b1 := ((box_p p w).keep0 c1).keep0 c2
  have b2 := (Blk3.alloc (w.alloc (.cells #[.slice p.AK p.n p.cK, .slice p.AS p.m p.cS, .slice p.AT p.t p.cT] 26)) (.bool false) (.string ⟨#[]⟩) (.string ⟨#[]⟩) 33).keep0 c2
  have b3 := Blk3.alloc ((w.alloc (.cells #[.slice p.AK p.n p.cK, .slice p.AS p.m p.cS, .slice p.AT p.t p.cT] 26)).alloc (.cells #[.bool false, .string ⟨#[]⟩, .string ⟨#[]⟩] 33)) (.bool false) (.string ⟨#[]⟩) (.string ⟨#[]⟩) 33
  rw [World.size_alloc] at b2
  rw [World.size_alloc, World.size_alloc] at b3
  have hch := ((chg_p p w).then c1).then c2
  have hlow := hp.low
  have hxlow := hx.form
  have hps := hp.s.keep0 hch
  replace hx := hx.keep0 hch
  have HLOW := Lib.hid hlow.s
  have HXLOW := Lib.hid hxlow
  have HL := Lib.hid hl
  clear c1 c2 hG hF hpm HP hX hlow hp hxlow hl
  obtain ⟨K, S, T, n, m, tn, AK, AS, AT, cK, cS, cT⟩ := p
  dsimp only at *
  obtain ⟨ci, HCI⟩ := name_it ((co : Nat) : Int)
  rw [HCI.out]
  go_enter Try.func28, Try.ntmps28
  go_wp2_with fail
  obtain ⟨w0, HW0⟩ := name_it (((w.alloc (.cells #[.slice AK n cK, .slice AS m cS, .slice AT tn cT] 26)).alloc (.cells #[.bool false, .string ⟨#[]⟩, .string ⟨#[]⟩] 33)).alloc (.cells #[.bool false, .string ⟨#[]⟩, .string ⟨#[]⟩] 33))
  rw [HW0.out] at b1 b2 b3 hps hx hch ⊢
  obtain ⟨g0, HG0⟩ := name_it w.heap.size
  rw [HG0.out] at b1 b2 b3 HLOW HXLOW ⊢
  have hg0 : w.heap.size ≤ g0 := Nat.le_of_eq HG0.out
  clear HW0
  go_loopw [19] (fun iv wr => ∃ (i : Nat) (z : Q3), i ≤ m ∧ iv = .int .i64 i ∧ Val z (hQ P X co i) (KV k i) ∧ Blk3 wr g0 (.slice AK n cK) (.slice AS m cS) (.slice AT tn cT) ∧ Blk3 wr (g0 + 1) (.bool false) (.string ⟨#[]⟩) (.string ⟨#[]⟩) ∧ Blk3 wr (g0 + 2) (.bool z.neg) (.string z.num) (.string z.den) ∧ SStk wr AS S ∧ SZn wr A L ∧ Chg [] w wr) (fun iv _ => m - (intOf iv).toNat)
  case atStart => exact ⟨0, q0, Nat.zero_le _, rfl, Val_zero.mono (by unfold KV; omega), b1, b2, b3, hps, hx, hch⟩
  case round =>
    clear b1 b2 b3 hps hx hch
    obtain ⟨i, z, hi, rfl, hz, b1, b2, b3, hps, hx, hch⟩ := hrel
    have HZ := Lib.hid hz
    clear hz
    have b1c1 := b1.c1
    by_cases hlt : i < m
    · obtain ⟨g, o, rfl, hgl⟩ := hps.form (by rw [HSN.out]; exact Nat.lt_of_le_of_lt (Nat.zero_le _) hlt)
      have hgs0 : g < g0 := by
        obtain ⟨g', o', e, h⟩ := HLOW.out (by rw [HSN.out]; exact Nat.lt_of_le_of_lt (Nat.zero_le _) hlt)
        simp only [Option.some.injEq, Addr.mk.injEq, and_true] at e
        omega
      have hcx := hps.at_ (j := i) (by rw [HSN.out]; exact hlt)
      have HA := Lib.hid (HAT.out i hlt)
      have HVI := Lib.hid (HV.out i hlt)
      have HXI := Lib.hid (HXX.out i hlt)
      have HKI := Lib.hid (HKV.out i (by omega))
      obtain ⟨t, HT⟩ := name_it (S.getD i stk0)
      rw [HT.out] at hcx HA HVI HXI
      obtain ⟨q, HQ⟩ := name_it (P.q i)
      rw [HQ.out] at HVI
      have HPL := Lib.hid (fun w => AddN z t.vt (hQ P X co i) q (KV k i) k w HZ.out.num HVI.out.num (by have := HKI.out; have := HKL.out; omega))
      obtain ⟨ow, HOW⟩ := name_it t.ow
      obtain ⟨cc, HCC⟩ := name_it t.co
      rw [HOW.out] at HXI
      rw [HCC.out] at HA
      obtain ⟨a0, a1, a2, a3, a4, -⟩ := hcx
      rw [HOW.out] at a0
      rw [HCC.out] at a1
      have HADD : Hid (P.c i = co → X (P.o i) = true → hQ P X co (i + 1) = hQ P X co i + q) := Lib.hid fun h1 h2 => by rw [hQ_at h1 h2, HQ.out]
      have HNO : Hid (¬ (P.c i = co ∧ X (P.o i) = true) → Val z (hQ P X co (i + 1)) (KV k (i + 1))) := Lib.hid fun h => by rw [hQ_no h]; exact HZ.out.mono (by rw [HKS.out]; omega)
      have i1 : (0 : Int) ≤ (i : Int) := by omega
      have i2 : (i : Int) < (m : Int) := by omega
      have hb11 : g0 + 2 < wr.heap.size := b3.lt
      have c4 : Chg [] wr (wr.alloc (.cells #[.int .i64 ow, .int .i64 cc, .bool t.vt.neg, .string t.vt.num, .string t.vt.den] 36)) := (Chg.refl _ _).alloc _
      have b11 := BlkStk.alloc wr (.int .i64 ow) (.int .i64 cc) (.bool t.vt.neg) (.string t.vt.num) (.string t.vt.den) 36
      replace b1 := b1.keep0 c4
      replace b2 := b2.keep0 c4
      replace b3 := b3.keep0 c4
      replace hps := hps.keep0 c4
      replace hx := hx.keep0 c4
      replace hch := hch.then c4
      clear c4
      have b11c0 := b11.c0
      obtain ⟨d0, HD0⟩ := name_it (decide (ow = wo))
      have hd : (ow == wo) = d0 := by rw [← HD0.out]; rfl
      go_wp2_with fail
      clear b11c0 b1c1 a0 a1 a2 a3 a4
      obtain ⟨w5, HW5⟩ := name_it (wr.alloc (.cells #[.int .i64 ow, .int .i64 cc, .bool t.vt.neg, .string t.vt.num, .string t.vt.den] 36))
      obtain ⟨g11, HG11⟩ := name_it wr.heap.size
      rw [HW5.out] at b1 b2 b3 b11 hps hx hch ⊢
      rw [HG11.out] at b11 hb11 ⊢
      clear HW5 HG11
      have HX5 := Lib.hid hx
      go_loopw [12, 29] (fun bv iv wr => ∃ (j : Nat) (bb : Bool), j ≤ l ∧ iv = .int .i64 j ∧ bv = .bool bb ∧ bb = (d0 || hasB (L.take j) ow) ∧ w5 = wr) (fun _ iv _ => l - (intOf iv).toNat)
      case atStart => exact ⟨0, d0, Nat.zero_le _, rfl, rfl, by simp [hasB], by first | rfl | trivial⟩
      case round =>
        obtain ⟨j, bb, hj, rfl, rfl, hbb, hw⟩ := hrel
        subst hw
        have HBB := Lib.hid hbb
        clear hbb
        by_cases hlj : j < l
        · obtain ⟨gl, ol, rfl, _⟩ := HX5.out.form (by rw [HL.out]; exact Nat.lt_of_le_of_lt (Nat.zero_le _) hlj)
          have hcl := (HX5.out.at_ (j := j) (by rw [HL.out]; exact hlj)).c0
          rw [Nat.mul_one] at hcl
          have HST : Hid (hasB (L.take (j + 1)) ow = (hasB (L.take j) ow || decide ((L.getD j zn0).x = ow))) := Lib.hid (any_take2 _ L zn0 (by rw [HL.out]; exact hlj))
          obtain ⟨v, HV2⟩ := name_it ((L.getD j zn0).x)
          rw [HV2.out] at hcl HST
          have j1 : (0 : Int) ≤ (j : Int) := by omega
          have j2 : (j : Int) < (l : Int) := by omega
          have b11c0 := b11.c0
          cases bb with
          | true =>
            have HNB : Hid (true = (d0 || hasB (L.take (j + 1)) ow)) := Lib.hid (by rw [HST.out, ← Bool.or_assoc, ← HBB.out]; rfl)
            go_wp2_with fail
            go_roundw
            case rel => exact ⟨j + 1, _, by omega, by go_num, rfl, HNB.out, by first | rfl | trivial⟩
            case measure => simp [intOf]; omega
          | false =>
            by_cases hvo : v = ow
            · have HNB : Hid (true = (d0 || hasB (L.take (j + 1)) ow)) := Lib.hid (by rw [HST.out]; simp [hvo])
              subst hvo
              go_wp2_with fail
              go_roundw
              case rel => exact ⟨j + 1, _, by omega, by go_num, rfl, HNB.out, by first | rfl | trivial⟩
              case measure => simp [intOf]; omega
            · have q1 : (v == ow) = false := by simp [hvo]
              have HNB : Hid (false = (d0 || hasB (L.take (j + 1)) ow)) := Lib.hid (by rw [HST.out, ← Bool.or_assoc, ← HBB.out]; simp [hvo])
              go_wp2_with fail
              go_roundw
              case rel => exact ⟨j + 1, _, by omega, by go_num, rfl, HNB.out, by first | rfl | trivial⟩
              case measure => simp [intOf]; omega
        · obtain rfl : l = j := by omega
          have HXB : Hid (X (P.o i) = bb) := Lib.hid (by
            have h1 := HBB.out
            rw [List.take_of_length_le (by rw [HL.out]; exact Nat.le_refl _)] at h1
            rw [HXI.out, HD0.out, h1])
          have b11c1 := b11.c1
          cases bb with
          | false =>
            have HN := Lib.hid (HNO.out (fun h => by have h2 := h.2; rw [HXB.out] at h2; cases h2))
            go_wp2_with fail
            go_roundw
            case rel => exact ⟨i + 1, z, by omega, by go_num, HN.out, b1, b2, b3, hps, hx, hch⟩
            case measure => simp [intOf]; omega
          | true =>
            by_cases hcc : cc = ci
            · have HCO : Hid (P.c i = co) := Lib.hid (by have := HA.out; have := HCI.out; omega)
              subst hcc
              have b3c0 := b3.c0
              have b3c1 := b3.c1
              have b3c2 := b3.c2
              have b11c2 := b11.c2
              have b11c3 := b11.c3
              have b11c4 := b11.c4
              go_wp2_with fail
              refine (HPL.out _).mono ?_
              rintro e w6 ⟨z2, rfl, hz2, c6⟩
              have HN : Hid (Val z2 (hQ P X co (i + 1)) (KV k (i + 1))) := Lib.hid (by rw [HADD.out HCO.out HXB.out, HKS.out]; exact hz2)
              replace b1 := b1.keep0 c6
              replace b2 := b2.keep0 c6
              replace b3 := b3.keep0 c6
              replace hps := hps.keep0 c6
              replace hx := hx.keep0 c6
              replace hch := hch.then c6
              clear c6 hz2 b3c0 b3c1 b3c2 b11c1 b11c2 b11c3 b11c4 b11
              have hcn1 : Chg [g0 + 2] _ _ := (Chg.refl [g0 + 2] w6).store3 (g := g0 + 2) (.inl (by simp)) (.bool z2.neg) (.string z2.num) (.string z2.den)
              have b1S := b1.keep hcn1 (by simp)
              have b2S := b2.keep hcn1 (by simp)
              have b3S := b3.store (.bool z2.neg) (.string z2.num) (.string z2.den)
              have hpS := hps.keepL HLOW.out hcn1 (by intro x hx; simp at hx; omega)
              have hxS := hx.keepL HXLOW.out hcn1 (by intro x hx; simp at hx; omega)
              have hchS := hch.store3 (.inr (show w.heap.size ≤ g0 + 2 by omega)) (.bool z2.neg) (.string z2.num) (.string z2.den)
              have b3c0 := b3.c0
              have b3c1 := b3.c1
              have b3c2 := b3.c2
              have b3f0 := b3.f0
              have b3f1 := b3.f1
              have b3f2 := b3.f2
              have b3l := b3.lt
              clear b1 b2 b3 hps hx hch hcn1
              go_wp2_with fail
              go_roundw
              case rel => exact ⟨i + 1, z2, by omega, by go_num, HN.out, b1S, b2S, b3S, hpS, hxS, hchS⟩
              case measure => simp [intOf]; omega
            · have q1 : (cc == ci) = false := by simp [hcc]
              have HN := Lib.hid (HNO.out (fun h => by have := h.1; have := HA.out; have := HCI.out; omega))
              go_wp2_with fail
              go_roundw
              case rel => exact ⟨i + 1, z, by omega, by go_num, HN.out, b1, b2, b3, hps, hx, hch⟩
              case measure => simp [intOf]; omega
    · obtain rfl : i = m := by omega
      have hzz := HZ.out.mono (HKV.out i hm).1
      have hn1 : g0 + 1 ≠ g0 + 2 := by omega
      have S2 := b2.store (.bool z.neg) (.string z.num) (.string z.den)
      have hchS := hch.store3 (.inr (show w.heap.size ≤ g0 + 1 by omega)) (.bool z.neg) (.string z.num) (.string z.den)
      have HZZ := Lib.hid hzz
      clear hzz
      have b2c0 := b2.c0
      have b2c1 := b2.c1
      have b2c2 := b2.c2
      have b2f0 := b2.f0
      have b2f1 := b2.f1
      have b2f2 := b2.f2
      have b2l := b2.lt
      have b3c0 := b3.c0
      have b3c1 := b3.c1
      have b3c2 := b3.c2
      go_wp2_with fail
      exact bodyPost_ret (v := .agg #[.bool z.neg, .string z.num, .string z.den]) (by simp [results, Try.results28, go_sem, S2.c0, S2.c1, S2.c2]) rfl ⟨z, rfl, HZZ.out, hchS⟩
theorem idx_mem {X : Nat → Bool} {z : Zn} : ∀ {n : Nat}, z ∈ idx X n → ∃ b : Nat, b < n ∧ z.x = (b : Int) ∧ X b = true
  | 0, h => by cases h
  | n + 1, h => by
    simp only [idx] at h
    split at h
    · rename_i hx
      rcases List.mem_append.1 h with h | h
      · obtain ⟨b, h1, h2, h3⟩ := idx_mem h
        exact ⟨b, by omega, h2, h3⟩
      · simp at h
        exact ⟨n, by omega, by rw [h], hx⟩
    · obtain ⟨b, h1, h2, h3⟩ := idx_mem h
      exact ⟨b, by omega, h2, h3⟩

theorem qo_pos (p q : Rat) : decide (0 < qo p q) = decide (q < p) := by
  by_cases h : q < p
  · rw [qo_gt h]; simp [h]
  · by_cases e : p = q
    · rw [qo_eq e]; subst e; simp
    · rw [qo_lt (by grind)]; simp [h]
theorem ratio_half (w : World) : Calls Try.prog 16 #[.int .i64 1, .int .i64 2] w fun e w' => ∃ z, e = .returned (.agg #[.bool z.neg, .string z.num, .string z.den]) ∧ Val z ((1 : Rat) / 2) 8 ∧ Chg [] w w' := by
  have h := ratio_any 1 2 w (by omega) (by omega) (by omega) (by omega)
  rw [frac_eq (by omega) (by omega)] at h
  exact h
set_option maxRecDepth 20000 in
set_option maxHeartbeats 4000000 in
theorem lpfix_any (n ks : Int) (L3 : List T3) (ow : Int) (l3 : Nat) (A3 : Option Addr) (c3 : Nat) (w : World) (hn : 0 ≤ n ∧ n ≤ 255) (hks : 0 ≤ ks ∧ ks ≤ 65535) (h3 : L3.length = l3) (hl3 : l3 ≤ 9223372036854775807) (i3 : ∀ x ∈ L3, InT3 x) (x3 : ST3 w A3 L3) (how : 0 ≤ ow ∧ ow ≤ 255) :
    Calls Try.prog 8 #[.int .u8 n, .int .u16 ks, .slice A3 l3 c3, .int .u8 ow] w fun e w' => e = .returned (.bool true) ∧ Chg [] w w' := by
  have HPA := Lib.hid (parties_any n ks l3 0 A3 none c3 0 L3 [] w hn hks h3 hl3 i3 x3 rfl (by omega) (fun _ h => by cases h) (fun h => absurd h (by simp)))
  obtain ⟨o1, o2⟩ := how
  clear hn hks h3 hl3 i3 x3
  go_enter Try.func8, Try.ntmps8
  go_wp2_with fail
  refine HPA.out.mono ?_
  rintro e w1 ⟨p, he, hp, hgp, hch⟩
  have he2 : e = .returned (.agg #[.slice p.AK p.n p.cK, .slice p.AS p.m p.cS, .slice p.AT p.t p.cT]) := he
  clear he HPA
  subst he2
  obtain ⟨LF, hS⟩ := leastG p w1 hp hgp.ck
  have hn7 : p.n ≤ 7 := hgp.n7
  have hn2 : 2 ≤ p.n := hgp.n2
  obtain ⟨a, HA⟩ : ∃ a : Nat, Hid (ow % (p.n : Int) = (a : Int)) := ⟨(ow % (p.n : Int)).toNat, Lib.hid (by have := Int.emod_nonneg ow (show (p.n : Int) ≠ 0 by omega); omega)⟩
  have han : a < p.n := by have := Int.emod_lt_of_pos ow (show (0 : Int) < p.n by omega); have := HA.out; omega
  have e1 : ow.tmod (p.n : Int) = (a : Int) := by rw [Int.tmod_eq_emod_of_nonneg o1]; exact HA.out
  have z0 : ((p.n : Int) == 0) = false := by simp; omega
  have z0n : ¬ (p.n : Int) = 0 := by omega
  have z0m : ¬ p.n = 0 := by omega
  have H1 := Lib.hid (gpC hgp hS a han)
  have HPM : Hid ((pdOf p.K p.S).m = p.m) := Lib.hid hp.sn
  have HPN : Hid ((pdOf p.K p.S).n = p.n) := Lib.hid hp.kn
  have HVO : Hid (∀ (A : Option Addr) (cap c : Nat) (w : World), p.At w → SZn w A (idx (LF a) p.n) → Calls Try.prog 28 #[p.val, .slice A (idx (LF a) p.n).length cap, .int .i64 (a : Int), .int .i64 (c : Int)] w fun e w' => ∃ z, e = .returned (.agg #[.bool z.neg, .string z.num, .string z.den]) ∧ Val z (hQ (pdOf p.K p.S) (fun x => x == a || LF a x) c (pdOf p.K p.S).m) (KV 8 64) ∧ Chg [] w w') := Lib.hid fun A cap c w h1 h2 => by
    rw [HPM.out]
    refine lvotes_any p 8 (idx (LF a) p.n) _ A cap (a : Int) c _ w h1 hS.m hS.g hgp.ft rfl (by have := idx_len (LF a) p.n; omega) h2 fun i hi => ?_
    have e := hS.g.at_ (i := i) (by rw [h1.sn]; exact hi)
    rw [e.1, hasB_idx (by have := e.2.2.1; rw [h1.kn] at this; exact this)]
    show ((pdOf p.K p.S).o i == a || LF a ((pdOf p.K p.S).o i)) = _
    congr 1
    rw [Bool.eq_iff_iff, beq_iff_eq, decide_eq_true_eq]; omega
  have HIN : Hid (∀ c, c < p.n → c ≠ a → LF a c = decide ((1 : Rat) / 2 < hQ (pdOf p.K p.S) (fun x => x == a || LF a x) c (pdOf p.K p.S).m)) := Lib.hid fun c hc hca => by
    have h := (hS.l a han).iff hS.g.ok.ps (k := c) (by rw [HPN.out]; exact hc)
    rw [Bool.eq_iff_iff, decide_eq_true_eq, h, FF_iff]
    constructor
    · exact fun g => g.2.2
    · intro g
      refine ⟨hca, ?_, g⟩
      cases hcp : (pdOf p.K p.S).cp c
      · exfalso
        have h0 : hQ (pdOf p.K p.S) (fun x => x == a || LF a x) c (pdOf p.K p.S).m = 0 := hQ_out (fun i hi e => by
          have := hS.g.ok.kc i hi
          rw [e, hcp] at this; cases this) (Nat.le_refl _)
        rw [h0] at g
        exact absurd g (by grind)
      · rfl
  have HSF : Hid (LF a a = false) := Lib.hid (hS.l a han).self
  have HCM : Hid (∀ (z y : Q3) (q : Rat) w, Val z q (KV 8 64) → Val y ((1 : Rat) / 2) 8 → Calls Try.prog 27 #[.agg #[.bool z.neg, .string z.num, .string z.den], .agg #[.bool y.neg, .string y.num, .string y.den]] w fun e w' => e = .returned (.int .i64 (qo q ((1 : Rat) / 2))) ∧ Chg [] w w') := Lib.hid fun z y q w h1 h2 => CompareN z y q _ (KV 8 64) 8 w h1.num h2.num (by unfold KV; omega)
  have HI1 : Hid ((idx (LF a) p.n).length ≤ 1000000) := Lib.hid (by have := idx_len (LF a) p.n; omega)
  have HHB : Hid (∀ c, c < p.n → hasB (idx (LF a) p.n) (c : Int) = LF a c) := Lib.hid fun c hc => hasB_idx hc
  obtain ⟨L, HL⟩ := name_it (idx (LF a) p.n)
  rw [HL.out] at H1 HVO HI1 HHB
  obtain ⟨l, HLN⟩ := name_it L.length
  rw [HLN.out] at HVO HI1
  have hlB : l ≤ 1000000 := HI1.out
  have b1 := box_p p w1
  have c4 := chg_p p w1
  replace hp := hp.keep0 c4
  replace hch := hch.then c4
  clear c4 hgp hS
  have b1c0 := b1.c0
  have b1c1 := b1.c1
  have b1c2 := b1.c2
  go_wp2_with fail
  refine (H1.out _ hp).mono ?_
  rintro e w2 ⟨v, rfl, hown, c1⟩
  obtain ⟨A, cap, rfl, -, -, hv⟩ := hown.rds
  rw [HLN.out]
  replace b1 := b1.keep0 c1
  replace hp := hp.keep0 c1
  replace hch := hch.then c1
  clear c1 b1c0 b1c1 b1c2 hown H1 e1 z0 z0n z0m
  have b1c0 := b1.c0
  go_wp2_with fail
  clear b1c0
  obtain ⟨g1, HG1⟩ := name_it w1.heap.size
  rw [HG1.out] at b1 ⊢
  go_loopw [39] (fun iv wr => ∃ c : Nat, c ≤ p.n ∧ iv = .int .i64 c ∧ SZn wr A L ∧ Blk3 wr g1 (.slice p.AK p.n p.cK) (.slice p.AS p.m p.cS) (.slice p.AT p.t p.cT) ∧ p.At wr ∧ Chg [] w wr) (fun iv _ => p.n - (intOf iv).toNat)
  case atStart => exact ⟨0, Nat.zero_le _, rfl, hv, b1, hp, hch⟩
  case round =>
    clear hv b1 hp hch
    obtain ⟨c, hcn, rfl, hv, b1, hp, hch⟩ := hrel
    by_cases hlt : c < p.n
    · obtain ⟨wo, hwo⟩ : ∃ wo, wo = wr := ⟨_, rfl⟩
      subst hwo
      have HV5 := Lib.hid hv
      go_wp2_with fail
      go_loopw [14, 44] (fun bv iv wr => ∃ (j : Nat) (bb : Bool), j ≤ l ∧ iv = .int .i64 j ∧ bv = .bool bb ∧ bb = hasB (L.take j) (c : Int) ∧ wo = wr) (fun _ iv _ => l - (intOf iv).toNat)
      case atStart => exact ⟨0, false, Nat.zero_le _, rfl, rfl, by simp [hasB], by first | rfl | trivial⟩
      case round =>
        obtain ⟨j, bb, hj, rfl, rfl, hbb, hw⟩ := hrel
        subst hw
        have HBB := Lib.hid hbb
        clear hbb
        by_cases hlj : j < l
        · obtain ⟨gl, ol, rfl, _⟩ := HV5.out.form (by rw [HLN.out]; exact Nat.lt_of_le_of_lt (Nat.zero_le _) hlj)
          have hcl := (HV5.out.at_ (j := j) (by rw [HLN.out]; exact hlj)).c0
          rw [Nat.mul_one] at hcl
          have HST : Hid (hasB (L.take (j + 1)) (c : Int) = (hasB (L.take j) (c : Int) || decide ((L.getD j zn0).x = (c : Int)))) := Lib.hid (any_take2 _ L zn0 (by rw [HLN.out]; exact hlj))
          obtain ⟨v, HV2⟩ := name_it ((L.getD j zn0).x)
          rw [HV2.out] at hcl HST
          have j1 : (0 : Int) ≤ (j : Int) := by omega
          have j2 : (j : Int) < (l : Int) := by omega
          cases bb with
          | true =>
            have HNB : Hid (true = hasB (L.take (j + 1)) (c : Int)) := Lib.hid (by rw [HST.out, ← HBB.out]; rfl)
            go_wp2_with fail
            go_roundw
            case rel => exact ⟨j + 1, _, by omega, by go_num, rfl, HNB.out, by first | rfl | trivial⟩
            case measure => simp [intOf]; omega
          | false =>
            by_cases hvo : v = (c : Int)
            · have HNB : Hid (true = hasB (L.take (j + 1)) (c : Int)) := Lib.hid (by rw [HST.out]; simp [hvo])
              subst hvo
              go_wp2_with fail
              go_roundw
              case rel => exact ⟨j + 1, _, by omega, by go_num, rfl, HNB.out, by first | rfl | trivial⟩
              case measure => simp [intOf]; omega
            · have q1 : (v == (c : Int)) = false := by simp [hvo]
              have HNB : Hid (false = hasB (L.take (j + 1)) (c : Int)) := Lib.hid (by rw [HST.out, ← HBB.out]; simp [hvo])
              go_wp2_with fail
              go_roundw
              case rel => exact ⟨j + 1, _, by omega, by go_num, rfl, HNB.out, by first | rfl | trivial⟩
              case measure => simp [intOf]; omega
        · obtain rfl : l = j := by omega
          have HXB : Hid (LF a c = bb) := Lib.hid (by
            have h1 := HBB.out
            rw [List.take_of_length_le (by rw [HLN.out]; exact Nat.le_refl _), HHB.out c hlt] at h1
            exact h1.symm)
          have HIC := Lib.hid (HIN.out c hlt)
          rw [HXB.out] at HIC
          have HVC := Lib.hid (fun w h1 h2 => HVO.out A cap c w h1 h2)
          obtain ⟨Q, HQ⟩ := name_it (hQ (pdOf p.K p.S) (fun x => x == a || LF a x) c (pdOf p.K p.S).m)
          rw [HQ.out] at HIC HVC
          have HPO : Hid (decide (0 < qo Q ((1 : Rat) / 2)) = decide ((1 : Rat) / 2 < Q)) := Lib.hid (qo_pos _ _)
          have HCC := Lib.hid (fun z y w h1 h2 => HCM.out z y Q w h1 h2)
          obtain ⟨cm, HCMV⟩ := name_it (qo Q ((1 : Rat) / 2))
          rw [HCMV.out] at HCC HPO
          obtain ⟨mo, HMO⟩ := name_it (decide ((1 : Rat) / 2 < Q))
          rw [HMO.out] at HPO HIC
          have hpo : decide (0 < cm) = mo := HPO.out
          have b1c0 := b1.c0
          have b1c1 := b1.c1
          have b1c2 := b1.c2
          go_wp2_with fail
          refine (HVC.out _ hp hv).mono ?_
          rintro e w3 ⟨z, rfl, hz, c1⟩
          have HZ := Lib.hid hz
          replace hv := hv.keep0 c1
          replace b1 := b1.keep0 c1
          replace hp := hp.keep0 c1
          replace hch := hch.then c1
          clear c1 hz b1c0 b1c1 b1c2
          go_wp2_with fail
          refine (ratio_half _).mono ?_
          rintro e w4 ⟨y, rfl, hy, c1⟩
          have HY := Lib.hid hy
          replace hv := hv.keep0 c1
          replace b1 := b1.keep0 c1
          replace hp := hp.keep0 c1
          replace hch := hch.then c1
          clear c1 hy
          go_wp2_with fail
          refine (HCC.out z y _ HZ.out HY.out).mono ?_
          rintro e w5 ⟨rfl, c1⟩
          replace hv := hv.keep0 c1
          replace b1 := b1.keep0 c1
          replace hp := hp.keep0 c1
          replace hch := hch.then c1
          clear c1
          by_cases hca : c = a
          · subst hca
            obtain rfl : bb = false := by rw [← HXB.out]; exact HSF.out
            clear HIC
            go_wp2_with fail
            go_roundw
            case rel => exact ⟨c + 1, by omega, by go_num, hv, b1, hp, hch⟩
            case measure => simp [intOf]; omega
          · obtain rfl : bb = mo := HIC.out hca
            have q1 : ((c : Int) == (a : Int)) = false := by simp; omega
            have q2 : (c == a) = false := by simp [hca]
            have q3 : ¬ (c : Int) = (a : Int) := by omega
            have q4 : (bb != bb) = false := by simp
            go_wp2_with fail
            go_roundw
            case rel => exact ⟨c + 1, by omega, by go_num, hv, b1, hp, hch⟩
            case measure => simp [intOf]; omega
    · have hin : c = p.n := by omega
      subst hin
      go_wp2_with fail
      refine (awake8_any _).mono ?_
      rintro e w6 ⟨rfl, c1⟩
      replace hch := hch.then c1
      clear c1
      go_wp2_with fail
      go_ret
      exact ⟨rfl, hch⟩
end Go.Proofs.Ytgdpcpbmjgaliaa
