/-
  Party: the reference's Connected, Circle: with their errors.
-/
import Derived.Test.YtgdpcpbmjgaliaaPR4
import Derived.Test.YtgdpcpbmjgaliaaPX9
namespace Go.Proofs.Ytgdpcpbmjgaliaa
open Go.RowKit Nd

set_option maxRecDepth 20000 in
set_option linter.unusedSimpArgs false in
set_option maxHeartbeats 4000000 in
theorem rconn_any (p : PV) (k a b : Nat) (LF : Nat → Nat → Bool) (w : World) (hp : p.At w) (hF : FitS p.S k) (hS : Sound p LF) (ha : a < p.n) (hb : b < p.n) :
    Calls Try.prog 43 #[p.val, .int .i64 (a : Int), .int .i64 (b : Int)] w fun e w' => e = .returned (.bool (nrB p.T LF p.n a b)) ∧ Chg [] w w' := by
  have HCO := Lib.hid (fun c w (h1 : p.At w) (h : c < p.n) => rcontrolled_any p k c (LF c) w h1 hS.m hS.n hS.g hF (hS.l c h))
  have HTT := Lib.hid hS.tt
  have HTN : Hid (p.T.length = p.t) := Lib.hid hp.tn
  have htb := hp.tb
  have hn32 := hS.n
  have HTH : Hid (∀ j, j < p.t → tiB a b (p.T.getD j ti0) = true → nrB p.T LF p.n a b = true) := Lib.hid fun j h1 h2 => by unfold nrB; rw [tieJ_hit (by rw [hp.tn]; exact h1) h2]; rfl
  have HPH : Hid (∀ i, i < p.n → prB LF a b i = true → nrB p.T LF p.n a b = true) := Lib.hid fun i h1 h2 => by unfold nrB; rw [prJ_hit h1 h2]; simp
  have HNO : Hid (tieJ p.T a b p.T.length = false → prJ LF a b p.n = false → nrB p.T LF p.n a b = false) := Lib.hid fun h1 h2 => by unfold nrB; rw [h1, h2]; rfl
  obtain ⟨r, HR⟩ := name_it (nrB p.T LF p.n a b)
  rw [HR.out] at HTH HPH HNO ⊢
  have b1 := box_p p w
  have hch := chg_p p w
  replace hp := hp.keep0 hch
  have b1c0 := b1.c0
  have b1c1 := b1.c1
  have b1c2 := b1.c2
  clear hS hF HR
  obtain ⟨K, S, T, n, m, tn, AK, AS, AT, cK, cS, cT⟩ := p
  dsimp only at *
  by_cases hab : a = b
  · obtain rfl : r = true := HPH.out a ha (by rw [← hab]; unfold prB; simp)
    subst hab
    go_enter Try.func43, Try.ntmps43
    go_wp2_with fail
    go_ret
    exact ⟨rfl, hch⟩
  · have e1 : ((a : Int) == (b : Int)) = false := by simp; omega
    have e2 : (a == b) = false := by simp [hab]
    have e3 : ¬ (a : Int) = (b : Int) := by omega
    have e4 : ¬ b = a := fun e => hab e.symm
    go_enter Try.func43, Try.ntmps43
    go_wp2_with fail
    clear b1c0 b1c1 b1c2
    obtain ⟨w0, HW0⟩ := name_it (w.alloc (.cells #[.slice AK n cK, .slice AS m cS, .slice AT tn cT] 26))
    rw [HW0.out] at b1 hp hch ⊢
    clear HW0
    obtain ⟨g0, HG0⟩ := name_it w.heap.size
    rw [HG0.out] at b1 ⊢
    go_loopw [7] (fun iv wr => ∃ j : Nat, j ≤ tn ∧ iv = .int .i64 j ∧ tieJ T a b j = false ∧ Blk3 wr g0 (.slice AK n cK) (.slice AS m cS) (.slice AT tn cT) ∧ PV.At ⟨K, S, T, n, m, tn, AK, AS, AT, cK, cS, cT⟩ wr ∧ Chg [] w wr) (fun iv _ => tn - (intOf iv).toNat)
    case atStart => exact ⟨0, Nat.zero_le _, rfl, rfl, b1, hp, hch⟩
    case round =>
      clear b1 hp hch
      obtain ⟨j, hj, rfl, hz, b1, hp, hch⟩ := hrel
      have HZ := Lib.hid hz
      clear hz
      have b1c0 := b1.c0
      have b1c2 := b1.c2
      by_cases hlt : j < tn
      · obtain ⟨gt, ot, rfl, hgt⟩ := hp.t.form (by rw [HTN.out]; exact Nat.lt_of_le_of_lt (Nat.zero_le _) hlt)
        have hcx := hp.t.at_ (j := j) (by rw [HTN.out]; exact hlt)
        have HST : Hid (tieJ T a b (j + 1) = (tieJ T a b j || tiB a b (T.getD j ti0))) := Lib.hid (tieJ_step (by rw [HTN.out]; exact hlt))
        have h2 := twoB_iff.1 (HTT.out j hlt)
        have HTJH := Lib.hid (HTH.out j hlt)
        obtain ⟨x, hx, hxn⟩ := inB_nat h2.1
        obtain ⟨y, hy, hyn⟩ := inB_nat h2.2.1
        have hxy : x ≠ y := by have := h2.2.2; omega
        obtain ⟨t, HTJ⟩ := name_it (T.getD j ti0)
        rw [HTJ.out] at hcx HST hx hy HTJH
        obtain ⟨f0, f1, -⟩ := hcx
        have HTB : Hid (tiB a b t = ((x == a && y == b) || (x == b && y == a))) := Lib.hid (by
          unfold tiB; rw [hx, hy, Bool.eq_iff_iff]; simp only [Bool.or_eq_true, Bool.and_eq_true, decide_eq_true_eq, beq_iff_eq]; omega)
        rw [hx] at f0
        rw [hy] at f1
        clear h2 hx hy
        have c4 : Chg [] wr (wr.alloc (.cells #[.int .i64 (x : Int), .int .i64 (y : Int)] 38)) := (Chg.refl _ _).alloc _
        have b9 := BlkTi.alloc wr (.int .i64 (x : Int)) (.int .i64 (y : Int)) 38
        replace b1 := b1.keep0 c4
        replace hp := hp.keep0 c4
        replace hch := hch.then c4
        clear c4
        have b9c0 := b9.c0
        have b9c1 := b9.c1
        have j1 : (0 : Int) ≤ (j : Int) := by omega
        have j2 : (j : Int) < (tn : Int) := by omega
        by_cases hxa : x = a
        · by_cases hyb : y = b
          · obtain rfl : r = true := HTJH.out (by rw [HTB.out]; simp [hxa, hyb])
            subst hxa
            subst hyb
            go_wp2_with fail
            go_ret
            exact ⟨rfl, hch⟩
          · have g1 : ((y : Int) == (b : Int)) = false := by simp; omega
            have g2 : (y == b) = false := by simp [hyb]
            have g3 : ¬ (y : Int) = (b : Int) := by omega
            have HZ2 : Hid (tieJ T a b (j + 1) = false) := Lib.hid (by rw [HST.out, HZ.out, HTB.out, g2, hxa, e2]; simp)
            subst hxa
            go_wp2_with fail
            go_roundw
            case rel => exact ⟨j + 1, by omega, by go_num, HZ2.out, b1, hp, hch⟩
            case measure => simp [intOf]; omega
        · have p1 : ((x : Int) == (a : Int)) = false := by simp; omega
          have p2 : (x == a) = false := by simp [hxa]
          have p3 : ¬ (x : Int) = (a : Int) := by omega
          by_cases hxb : x = b
          · by_cases hya : y = a
            · obtain rfl : r = true := HTJH.out (by rw [HTB.out]; simp [hxb, hya])
              subst hxb
              subst hya
              go_wp2_with fail
              go_ret
              exact ⟨rfl, hch⟩
            · have g1 : ((y : Int) == (a : Int)) = false := by simp; omega
              have g2 : (y == a) = false := by simp [hya]
              have g3 : ¬ (y : Int) = (a : Int) := by omega
              have HZ2 : Hid (tieJ T a b (j + 1) = false) := Lib.hid (by rw [HST.out, HZ.out, HTB.out, g2, p2]; simp)
              subst hxb
              go_wp2_with fail
              go_roundw
              case rel => exact ⟨j + 1, by omega, by go_num, HZ2.out, b1, hp, hch⟩
              case measure => simp [intOf]; omega
          · have g1 : ((x : Int) == (b : Int)) = false := by simp; omega
            have g2 : (x == b) = false := by simp [hxb]
            have g3 : ¬ (x : Int) = (b : Int) := by omega
            have HZ2 : Hid (tieJ T a b (j + 1) = false) := Lib.hid (by rw [HST.out, HZ.out, HTB.out, g2, p2]; simp)
            go_wp2_with fail
            go_roundw
            case rel => exact ⟨j + 1, by omega, by go_num, HZ2.out, b1, hp, hch⟩
            case measure => simp [intOf]; omega
      · obtain rfl : tn = j := by omega
        have HTF : Hid (tieJ T a b T.length = false) := Lib.hid (by rw [HTN.out]; exact HZ.out)
        clear HZ HTT HTN HTH
        go_wp2_with fail
        clear b1c0 b1c2
        go_loopw [9] (fun iv wr => ∃ i : Nat, i ≤ n ∧ iv = .int .i64 i ∧ prJ LF a b i = false ∧ Blk3 wr g0 (.slice AK n cK) (.slice AS m cS) (.slice AT tn cT) ∧ PV.At ⟨K, S, T, n, m, tn, AK, AS, AT, cK, cS, cT⟩ wr ∧ Chg [] w wr) (fun iv _ => n - (intOf iv).toNat)
        case atStart => exact ⟨0, Nat.zero_le _, rfl, rfl, b1, hp, hch⟩
        case round =>
          clear b1 hp hch
          obtain ⟨i, hi, rfl, hz, b1, hp, hch⟩ := hrel
          have HZ := Lib.hid hz
          clear hz
          have b1c0 := b1.c0
          have b1c1 := b1.c1
          have b1c2 := b1.c2
          by_cases hlt : i < n
          · have HST : Hid (prJ LF a b (i + 1) = (prJ LF a b i || prB LF a b i)) := Lib.hid prJ_step
            have HHIT := Lib.hid (HPH.out i hlt)
            have HPB : Hid (prB LF a b i = ((i == a || LF i a) && (i == b || LF i b))) := Lib.hid rfl
            have HIA : Hid (hasB (idx (LF i) n) (a : Int) = LF i a) := Lib.hid (hasB_idx ha)
            have HIB : Hid (hasB (idx (LF i) n) (b : Int) = LF i b) := Lib.hid (hasB_idx hb)
            have HIX := Lib.hid (idx_len (LF i) n)
            go_wp2_with fail
            refine (HCO.out i _ hp hlt).mono ?_
            rintro e w3 ⟨v, rfl, hown, hob, c1⟩
            replace b1 := b1.keep0 c1
            replace hp := hp.keep0 c1
            replace hch := hch.then c1
            clear c1 hob b1c0 b1c1 b1c2
            obtain ⟨A, cap, rfl, -, -, hsz⟩ := hown.rds
            have HHA : Hid (Calls Try.prog 41 #[.slice A (idx (LF i) n).length cap, .int .i64 (a : Int)] w3 fun e w' => e = .returned (.bool (LF i a)) ∧ w3 = w') := Lib.hid (by
              have := rhas_any (idx (LF i) n) _ A cap (a : Int) w3 rfl (by have := HIX.out; omega) hsz
              rwa [HIA.out] at this)
            have HHB : Hid (Calls Try.prog 41 #[.slice A (idx (LF i) n).length cap, .int .i64 (b : Int)] w3 fun e w' => e = .returned (.bool (LF i b)) ∧ w3 = w') := Lib.hid (by
              have := rhas_any (idx (LF i) n) _ A cap (b : Int) w3 rfl (by have := HIX.out; omega) hsz
              rwa [HIB.out] at this)
            clear hown hsz HIA HIB HIX
            obtain ⟨l, HL⟩ := name_it (idx (LF i) n).length
            rw [HL.out] at HHA HHB ⊢
            obtain ⟨xa, HXA⟩ := name_it (LF i a)
            obtain ⟨xb, HXB⟩ := name_it (LF i b)
            rw [HXA.out] at HHA HPB
            rw [HXB.out] at HHB HPB
            by_cases hia : i = a
            · have q1 : ((i : Int) == (b : Int)) = false := by simp; omega
              have q2 : (i == b) = false := by simp; omega
              have q3 : ¬ (i : Int) = (b : Int) := by omega
              cases xb with
              | true =>
                obtain rfl : r = true := HHIT.out (by rw [HPB.out, hia]; simp)
                subst hia
                go_wp2_with fail
                refine HHB.out.mono ?_
                rintro e w6 ⟨rfl, hw⟩
                subst hw
                go_wp2_with fail
                go_ret
                exact ⟨rfl, hch⟩
              | false =>
                have HZ2 : Hid (prJ LF a b (i + 1) = false) := Lib.hid (by rw [HST.out, HZ.out, HPB.out, q2]; simp)
                subst hia
                go_wp2_with fail
                refine HHB.out.mono ?_
                rintro e w6 ⟨rfl, hw⟩
                subst hw
                go_wp2_with fail
                go_roundw
                case rel => exact ⟨i + 1, by omega, by go_num, HZ2.out, b1, hp, hch⟩
                case measure => simp [intOf]; omega
            · have p1 : ((i : Int) == (a : Int)) = false := by simp; omega
              have p2 : (i == a) = false := by simp [hia]
              have p3 : ¬ (i : Int) = (a : Int) := by omega
              cases xa with
              | false =>
                have HZ2 : Hid (prJ LF a b (i + 1) = false) := Lib.hid (by rw [HST.out, HZ.out, HPB.out, p2]; simp)
                go_wp2_with fail
                refine HHA.out.mono ?_
                rintro e w6 ⟨rfl, hw⟩
                subst hw
                go_wp2_with fail
                go_roundw
                case rel => exact ⟨i + 1, by omega, by go_num, HZ2.out, b1, hp, hch⟩
                case measure => simp [intOf]; omega
              | true =>
                by_cases hib : i = b
                · obtain rfl : r = true := HHIT.out (by rw [HPB.out, hib]; simp)
                  subst hib
                  go_wp2_with fail
                  refine HHA.out.mono ?_
                  rintro e w6 ⟨rfl, hw⟩
                  subst hw
                  go_wp2_with fail
                  go_ret
                  exact ⟨rfl, hch⟩
                · have q1 : ((i : Int) == (b : Int)) = false := by simp; omega
                  have q2 : (i == b) = false := by simp [hib]
                  have q3 : ¬ (i : Int) = (b : Int) := by omega
                  cases xb with
                  | true =>
                    obtain rfl : r = true := HHIT.out (by rw [HPB.out]; simp)
                    go_wp2_with fail
                    refine HHA.out.mono ?_
                    rintro e w6 ⟨rfl, hw⟩
                    subst hw
                    go_wp2_with fail
                    refine HHB.out.mono ?_
                    rintro e w6 ⟨rfl, hw⟩
                    subst hw
                    go_wp2_with fail
                    go_ret
                    exact ⟨rfl, hch⟩
                  | false =>
                    have HZ2 : Hid (prJ LF a b (i + 1) = false) := Lib.hid (by rw [HST.out, HZ.out, HPB.out, q2]; simp)
                    go_wp2_with fail
                    refine HHA.out.mono ?_
                    rintro e w6 ⟨rfl, hw⟩
                    subst hw
                    go_wp2_with fail
                    refine HHB.out.mono ?_
                    rintro e w6 ⟨rfl, hw⟩
                    subst hw
                    go_wp2_with fail
                    go_roundw
                    case rel => exact ⟨i + 1, by omega, by go_num, HZ2.out, b1, hp, hch⟩
                    case measure => simp [intOf]; omega
          · obtain rfl : n = i := by omega
            obtain rfl : r = false := HNO.out HTF.out HZ.out
            go_wp2_with fail
            go_ret
            exact ⟨rfl, hch⟩


theorem cf_dup {p : PV} {a : Int} : cfE p [⟨a⟩, ⟨a⟩] = cfE p [⟨a⟩] := by unfold cfE; simp

set_option maxRecDepth 20000 in
set_option maxHeartbeats 2000000 in
theorem rConnected_any (p : PV) (k : Nat) (a b : Int) (LF : Nat → Nat → Bool) (w : World) (hp : p.At w) (hF : FitS p.S k) (hL : ckP p.K p.S p.T = 0 → Sound p LF) :
    Calls Try.prog 23 #[p.val, .int .i64 a, .int .i64 b] w fun e w' => e = .returned (.tuple #[.bool (decide (cfE p [⟨a⟩, ⟨b⟩] = 0) && nrB p.T LF p.n a.toNat b.toNat), .int .i64 (cfE p [⟨a⟩, ⟨b⟩])]) ∧ Chg [] w w' := by
  have b1 := box_p p w
  have hch := chg_p p w
  replace hp := hp.keep0 hch
  have b1c0 := b1.c0
  have b1c1 := b1.c1
  have b1c2 := b1.c2
  have HTW := Lib.hid (fun w h => rtwo_any p k a b w h hF)
  have HZ : Hid (cfE p [⟨a⟩, ⟨b⟩] = 0 → ∃ x c : Nat, a = (x : Int) ∧ b = (c : Int) ∧ x < p.n ∧ c < p.n ∧ Sound p LF) := Lib.hid fun h => by
    have h1 := cf_zero h
    obtain ⟨x, ha, hn⟩ := inB_nat (h1.2 ⟨a⟩ (by simp))
    obtain ⟨c, hc, hcn⟩ := inB_nat (h1.2 ⟨b⟩ (by simp))
    exact ⟨x, c, ha, hc, hn, hcn, hL h1.1⟩
  have HF := Lib.hid hF
  obtain ⟨r, HR⟩ := name_it (cfE p [⟨a⟩, ⟨b⟩])
  rw [HR.out] at HTW HZ ⊢
  have HYG : Hid (r = 0 → (decide (r = 0) && nrB p.T LF p.n a.toNat b.toNat) = nrB p.T LF p.n a.toNat b.toNat) := Lib.hid fun h => by rw [h]; simp
  have HYB : Hid (r ≠ 0 → (decide (r = 0) && nrB p.T LF p.n a.toNat b.toNat) = false) := Lib.hid fun h => by simp [h]
  obtain ⟨y, HY⟩ := name_it (decide (r = 0) && nrB p.T LF p.n a.toNat b.toNat)
  rw [HY.out] at HYG HYB ⊢
  clear hL hF
  go_enter Try.func23, Try.ntmps23
  go_wp2_with fail
  refine (HTW.out _ hp).mono ?_
  rintro e w1 ⟨rfl, c1⟩
  have hp1 := hp.keep0 c1
  have hch1 := hch.then c1
  have d1c0 := (b1.keep0 c1).c0
  have d1c1 := (b1.keep0 c1).c1
  have d1c2 := (b1.keep0 c1).c2
  clear c1 b1c0 b1c1 b1c2 b1 hp hch
  by_cases h0 : r = 0
  · obtain ⟨x, c, rfl, rfl, han, hcn, hSo⟩ := HZ.out h0
    subst h0
    have HBB : Hid (nrB p.T LF p.n x c = y) := Lib.hid (by have := HYG.out rfl; rw [Int.toNat_natCast, Int.toNat_natCast] at this; exact this.symm)
    have HCT : Hid (∀ w, p.At w → Calls Try.prog 43 #[p.val, .int .i64 (x : Int), .int .i64 (c : Int)] w fun e w' => e = .returned (.bool y) ∧ Chg [] w w') := Lib.hid fun w h => by
      have := rconn_any p k x c LF w h HF.out hSo han hcn
      rwa [HBB.out] at this
    clear hSo
    go_wp2_with fail
    refine (HCT.out _ hp1).mono ?_
    rintro e w3 ⟨rfl, c1⟩
    replace hch1 := hch1.then c1
    clear c1 d1c0 d1c1 d1c2 hp1
    go_wp2_with fail
    go_ret2
    exact ⟨rfl, hch1⟩
  · have d1 : (r == 0) = false := by simp [h0]
    have d2 : (r != 0) = true := by simp [h0]
    have hy : y = false := HYB.out h0
    subst hy
    go_wp2_with fail
    go_ret2
    exact ⟨rfl, hch1⟩

set_option maxRecDepth 20000 in
set_option linter.unusedSimpArgs false in
set_option maxHeartbeats 4000000 in
theorem rCircle_any (p : PV) (k : Nat) (o : Int) (LF : Nat → Nat → Bool) (w : World) (hp : p.At w) (hF : FitS p.S k) (hL : ckP p.K p.S p.T = 0 → Sound p LF) :
    Calls Try.prog 25 #[p.val, .int .i64 o] w fun e w' => ∃ v, e = .returned (.tuple #[v, .int .i64 (cfE p [⟨o⟩])]) ∧ OwnZn w' v (ctlL (cfE p [⟨o⟩]) (nrB p.T LF p.n o.toNat) p.n) ∧ (∀ x ∈ v.ownBlock.toList, w.heap.size ≤ x) ∧ Chg [] w w' := by
  have b1 := box_p p w
  have hch := chg_p p w
  have HLOW := Lib.hid hp.low
  replace hp := hp.keep0 hch
  have b1c0 := b1.c0
  have b1c1 := b1.c1
  have b1c2 := b1.c2
  have HTW : Hid (∀ w, p.At w → Calls Try.prog 40 #[p.val, .int .i64 o, .int .i64 o] w fun e w' => e = .returned (.int .i64 (cfE p [⟨o⟩])) ∧ Chg [] w w') := Lib.hid fun w h => by
    have := rtwo_any p k o o w h hF
    rwa [cf_dup] at this
  have HZ : Hid (cfE p [⟨o⟩] = 0 → ∃ a : Nat, o = (a : Int) ∧ a < p.n ∧ Sound p LF) := Lib.hid fun h => by
    have h1 := cf_zero h
    obtain ⟨a, ha, hn⟩ := inB_nat (h1.2 ⟨o⟩ (by simp))
    exact ⟨a, ha, hn, hL h1.1⟩
  have HB : Hid (cfE p [⟨o⟩] ≠ 0 → ctlL (cfE p [⟨o⟩]) (nrB p.T LF p.n o.toNat) p.n = []) := Lib.hid fun h => by unfold ctlL; rw [if_neg h]
  have HG : Hid (cfE p [⟨o⟩] = 0 → ctlL (cfE p [⟨o⟩]) (nrB p.T LF p.n o.toNat) p.n = idx (nrB p.T LF p.n o.toNat) p.n) := Lib.hid fun h => if_pos h
  have HF := Lib.hid hF
  obtain ⟨r, HR⟩ := name_it (cfE p [⟨o⟩])
  rw [HR.out] at HTW HZ HB HG ⊢
  clear hL hF
  go_enter Try.func25, Try.ntmps25
  go_wp2_with fail
  refine (HTW.out _ hp).mono ?_
  rintro e w1 ⟨rfl, c1⟩
  replace hp := hp.keep0 c1
  replace b1 := b1.keep0 c1
  replace hch := hch.then c1
  clear c1 b1c0 b1c1 b1c2
  by_cases h0 : r = 0
  · obtain ⟨a, rfl, han, hSo⟩ := HZ.out h0
    have HGG := Lib.hid (HG.out h0)
    rw [Int.toNat_natCast] at HGG
    have hn32 := hSo.n
    have HCT := Lib.hid (fun b w h (hb : b < p.n) => rconn_any p k a b LF w h HF.out hSo han hb)
    clear hSo
    subst h0
    obtain ⟨X, HX⟩ := name_it (nrB p.T LF p.n a)
    have HXC : Hid (∀ b w, p.At w → b < p.n → Calls Try.prog 43 #[p.val, .int .i64 (a : Int), .int .i64 (b : Int)] w fun e w' => e = .returned (.bool (X b)) ∧ Chg [] w w') := Lib.hid fun b w h hb => by
      rw [← HX.out]; exact HCT.out b w h hb
    rw [HX.out] at HGG
    obtain ⟨B1, HB1⟩ := name_it w1.heap.size
    have hB1 : B1 ≤ w1.heap.size := Nat.le_of_eq HB1.out.symm
    have hbw : w.heap.size < B1 := by have := b1.lt; have := HB1.out; omega
    obtain ⟨g0, HG0⟩ := name_it w.heap.size
    rw [HG0.out] at b1 hbw HLOW ⊢
    have hg0 : w.heap.size ≤ g0 := Nat.le_of_eq HG0.out
    clear HCT HB HG HTW
    obtain ⟨K, S, T, n, m, tn, AK, AS, AT, cK, cS, cT⟩ := p
    dsimp only at *
    go_wp2_with fail
    go_loopw [7, 8] (fun ov iv wr => ∃ i : Nat, i ≤ n ∧ iv = .int .i64 i ∧ OwnZn wr ov (idx X i) ∧ (∀ x ∈ ov.ownBlock.toList, B1 ≤ x) ∧ Blk3 wr g0 (.slice AK n cK) (.slice AS m cS) (.slice AT tn cT) ∧ PV.At ⟨K, S, T, n, m, tn, AK, AS, AT, cK, cS, cT⟩ wr ∧ B1 ≤ wr.heap.size ∧ Chg [] w wr) (fun _ iv _ => n - (intOf iv).toNat)
    case atStart => exact ⟨0, Nat.zero_le _, rfl, OwnZn.nil _, by simp [Value.ownBlock], b1, hp, hB1, hch⟩
    case round =>
      clear b1 hp hB1 hch
      obtain ⟨i, hi, rfl, hown, hblk, b1, hp, hB1, hch⟩ := hrel
      have HOWN := Lib.hid hown
      have HPB := Lib.hid hblk
      clear hown hblk
      have b1c0 := b1.c0
      have b1c1 := b1.c1
      have b1c2 := b1.c2
      obtain ⟨A2, cp2, rfl, -, -, -⟩ := HOWN.out.rds
      have HLEN := Lib.hid (idx_len X i)
      obtain ⟨l2, HL2⟩ := name_it (idx X i).length
      rw [HL2.out] at HOWN HPB HLEN ⊢
      by_cases hlt : i < n
      · have HID : Hid (idx X (i + 1) = if X i then idx X i ++ [⟨(i : Int)⟩] else idx X i) := Lib.hid rfl
        have HHC := Lib.hid (fun w h => HXC.out i w h hlt)
        obtain ⟨xi, HXI⟩ := name_it (X i)
        rw [HXI.out] at HID HHC
        have i1 : (0 : Int) ≤ (i : Int) := by omega
        have i2 : (i : Int) < (n : Int) := by omega
        go_wp2_with fail
        refine (HHC.out _ hp).mono ?_
        rintro e w6 ⟨rfl, c1⟩
        replace HOWN := Lib.hid (HOWN.out.keep0 c1)
        replace b1 := b1.keep0 c1
        replace hp := hp.keep0 c1
        replace hB1 := Nat.le_trans hB1 c1.size
        replace hch := hch.then c1
        clear b1c0 b1c1 b1c2 c1
        cases xi with
        | false =>
          go_wp2_with fail
          go_roundw
          case rel => exact ⟨i + 1, by omega, by go_num, by rw [HID.out]; exact HOWN.out, HPB.out, b1, hp, hB1, hch⟩
          case measure => simp [intOf]; omega
        | true =>
          have c4 : Chg [] w6 (w6.alloc (.cells #[.int .i64 (i : Int)] 3)) := (Chg.refl _ _).alloc _
          go_wp2_with (at_builtin; refine wpList_appendZn _ rfl (.tmp 27) (.tmp 29) rfl _ (idx X i) rfl (HOWN.out.keep0 c4) _ 1 ⟨(i : Int)⟩ rfl (sZn_new _ ⟨(i : Int)⟩) (by rw [HL2.out]; have := HLEN.out; omega) ?_)
          intro v5 w5 own5 cv5 hv5
          obtain ⟨A5, l5, cp5, rfl⟩ : ∃ A l c, v5 = .slice A l c := by obtain ⟨A, c, h, _⟩ := own5.rds; exact ⟨A, _, c, h⟩
          have HO5 := Lib.hid own5
          have HPB5 : Hid (∀ x ∈ (Value.slice A5 l5 cp5).ownBlock.toList, B1 ≤ x) := Lib.hid fun x hx => by
            rcases hv5 with h5 | h5
            · rw [h5] at hx; exact HPB.out x hx
            · rw [h5] at hx; simp at hx; omega
          have c7 : Chg (Value.slice A2 l2 cp2).ownBlock.toList w6 w5 := (c4.mono (fun x hx => by cases hx)).trans cv5 (fun x hx => .inl hx)
          have b15 := b1.keep c7 (fun hm => by have := HPB.out _ hm; omega)
          have hp5 := hp.keepL HLOW.out c7 (fun y hy => by have := HPB.out y hy; omega)
          have hB5 := Nat.le_trans hB1 c7.size
          have hch5 : Chg [] w w5 := hch.trans c7 (fun x hx => .inr (by have := HPB.out x hx; omega))
          clear own5 cv5 hv5 b1 hp hB1 hch c7 c4
          go_wp2_with fail
          go_roundw
          case rel => exact ⟨i + 1, by omega, by go_num, by rw [HID.out]; exact HO5.out, HPB5.out, b15, hp5, hB5, hch5⟩
          case measure => simp [intOf]; omega
      · obtain rfl : n = i := by omega
        go_wp2_with fail
        go_ret2
        exact ⟨.slice A2 l2 cp2, rfl, by rw [HX.out, HGG.out]; exact HOWN.out, (fun x hx => by have := HPB.out x (by first | exact hx | simpa using hx); omega), hch⟩
  · have d1 : (r == 0) = false := by simp [h0]
    have d2 : (r != 0) = true := by simp [h0]
    have HBB := Lib.hid (HB.out h0)
    go_wp2_with fail
    go_ret2
    exact ⟨_, rfl, by rw [HBB.out]; exact OwnZn.nil _, by simp [Value.ownBlock], hch⟩
end Go.Proofs.Ytgdpcpbmjgaliaa
