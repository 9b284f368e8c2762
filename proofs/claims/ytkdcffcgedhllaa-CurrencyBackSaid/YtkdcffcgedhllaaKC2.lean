/-
  Currency: the reference's CheckQuotes; the program's checkOn.
-/
import Derived.Test.YtkdcffcgedhllaaKC1
namespace Go.Proofs.Ytkdcffcgedhllaa
open Go.RowKit Nd

set_option maxRecDepth 20000 in
set_option maxHeartbeats 4000000 in
theorem rqcheck_any (l : List Qt) (n k : Nat) (A : Option Addr) (cap : Nat) (w : World) (hn : l.length = n) (hm : n ≤ 1000000000) (hf : FitQ l k) (hx : SQt w A l) :
    Calls Try.prog 13 #[.slice A n cap] w fun e w' => e = .returned (.int .i64 (chkQ l)) ∧ Chg [] w w' := by
  have hch : Chg [] w w := Chg.refl _ _
  obtain ⟨r, HR⟩ := name_it (chkQ l)
  rw [HR.out]
  have HN := Lib.hid hn
  have HF := Lib.hid hf
  clear hn hf
  by_cases h64 : 256 < n
  · have hr : r = 2 := by rw [← HR.out]; unfold chkQ; rw [if_pos (by rw [HN.out]; exact h64)]
    subst hr
    have d1 : decide ((256 : Int) < (n : Int)) = true := decide_eq_true (by omega)
    clear HR
    go_enter Try.func13, Try.ntmps13
    go_wp2_with fail
    go_ret
    exact ⟨rfl, hch⟩
  · have HR2 : Hid (fE (qE l) n = r) := Lib.hid (by rw [← HR.out]; unfold chkQ; rw [if_neg (by rw [HN.out]; exact h64), HN.out])
    have d1 : decide ((256 : Int) < (n : Int)) = false := decide_eq_false (by omega)
    clear HR h64
    go_enter Try.func13, Try.ntmps13
    go_wp2_with fail
    clear d1
    go_loopw [3] (fun iv wr => ∃ i : Nat, i ≤ n ∧ iv = .int .i64 i ∧ fE (qE l) i = 0 ∧ SQt wr A l ∧ Chg [] w wr) (fun iv _ => n - (intOf iv).toNat)
    case atStart => exact ⟨0, Nat.zero_le _, rfl, rfl, hx, hch⟩
    case round =>
      clear hx hch
      obtain ⟨i, hi, rfl, hz, hx, hch⟩ := hrel
      have HZ := Lib.hid hz
      clear hz
      by_cases hlt : i < n
      · obtain ⟨g, o, rfl, hgl⟩ := hx.form (by rw [HN.out]; omega)
        have hc := hx.at_ (j := i) (by rw [HN.out]; exact hlt)
        have hnum := Lib.hid (HF.out.num (j := i) (by rw [HN.out]; exact hlt))
        have hsz := HF.out.cod _ (memQt (show i < l.length by rw [HN.out]; exact hlt))
        have hstp := chk_step HN.out HR2.out HZ.out hlt
        have HCQ : Hid (qE l i = cqE (l.take i) (l.getD i qt0)) := Lib.hid rfl
        obtain ⟨v, HV⟩ := name_it (qE l i)
        rw [HV.out] at hstp HCQ
        have HSTP := Lib.hid hstp
        obtain ⟨t, HT⟩ := name_it (l.getD i qt0)
        rw [HT.out] at hc HCQ hsz hnum
        have a0 := hc.c0
        have a1 := hc.c1
        have a2 := hc.c2
        have a3 := hc.c3
        have a4 := hc.c4
        have HX := Lib.hid hx
        have i1 : (0 : Int) ≤ (i : Int) := by omega
        have i2 : (i : Int) < (n : Int) := by omega
        obtain ⟨c, HC⟩ := name_it (codeB t.cd)
        have HIC := Lib.hid (fun w => rIsCode_any t.cd w (by omega))
        rw [HC.out] at HIC
        clear hx hc hstp hsz
        cases c with
        | false =>
          have hr : r = 8 := by rw [HSTP.out.1 (by rw [HCQ.out, cq_code HC.out]; decide), HCQ.out, cq_code HC.out]
          subst hr
          clear HC HCQ HSTP
          go_wp2_with (go_at_call 25; (with_reducible refine (HIC.out _).mono ?_); rintro e w' ⟨rfl, hw⟩; obtain rfl := hw.symm; clear hw)
          go_ret
          exact ⟨rfl, hch⟩
        | true =>
          have HCC := Lib.hid HC.out
          clear HC
          by_cases he : t.cd = eur
          · have hr : r = 8 := by rw [HSTP.out.1 (by rw [HCQ.out, cq_eur he]; decide), HCQ.out, cq_eur he]
            subst hr
            have d1 : (t.cd.toList == [69, 85, 82]) = true := eur_eq he
            clear HCQ HSTP he
            go_wp2_with (go_at_call 25; (with_reducible refine (HIC.out _).mono ?_); rintro e w' ⟨rfl, hw⟩; obtain rfl := hw.symm; clear hw)
            go_ret
            exact ⟨rfl, hch⟩
          · have d1 : (t.cd.toList == [69, 85, 82]) = false := eur_ne he
            have HE := Lib.hid he
            clear he
            cases hd : isd t.dy with
            | false =>
              have hr : r = 1 := by rw [HSTP.out.1 (by rw [HCQ.out, cq_day HCC.out HE.out hd]; decide), HCQ.out, cq_day HCC.out HE.out hd]
              subst hr
              have HD := Lib.hid hd
              clear HCQ HSTP hd
              go_wp2_with (first
                | (go_at_call 25; (with_reducible refine (HIC.out _).mono ?_); rintro e w' ⟨rfl, hw⟩; obtain rfl := hw.symm; clear hw)
                | (go_at_call 26; (with_reducible refine (rIsDay_any t.dy _ false HD.out).mono ?_); rintro e w' ⟨rfl, hw⟩; obtain rfl := hw.symm; clear hw)
                | fail)
              go_ret
              exact ⟨rfl, hch⟩
            | true =>
              have HD := Lib.hid hd
              clear hd
              have hsg := Lib.hid (fun w => rSignN t.rt _ k w hnum.out (by have := HF.out.le; omega))
              obtain ⟨p, HP⟩ := name_it (ratOf t.rt)
              rw [HP.out] at hsg
              obtain ⟨s, HS⟩ := name_it (sg p)
              rw [HS.out] at hsg
              by_cases hs : s ≤ 0
              · have ecq := cq_rate (l := l.take i) HCC.out HE.out HD.out (by rw [HP.out, HS.out]; exact hs)
                have hr : r = 1 := by rw [HSTP.out.1 (by rw [HCQ.out, ecq]; decide), HCQ.out, ecq]
                subst hr
                have d2 : decide (s ≤ 0) = true := decide_eq_true hs
                clear HCQ HSTP hs HS HP ecq
                go_wp2_with (first
                  | (go_at_call 25; (with_reducible refine (HIC.out _).mono ?_); rintro e w' ⟨rfl, hw⟩; obtain rfl := hw.symm; clear hw)
                  | (go_at_call 26; (with_reducible refine (rIsDay_any t.dy _ true HD.out).mono ?_); rintro e w' ⟨rfl, hw⟩; obtain rfl := hw.symm; clear hw)
                  | (go_at_call 27; (with_reducible refine (hsg.out _).mono ?_); rintro e w2 ⟨rfl, c2⟩; replace hch := hch.then c2; clear c2)
                  | fail)
                go_ret
                exact ⟨rfl, hch⟩
              · have HCE : Hid (v = if dupL (l.take i) t = true then 12 else 0) := Lib.hid (by rw [HCQ.out]; exact cq_dup HCC.out HE.out HD.out (by rw [HP.out, HS.out]; exact hs))
                have d2 : decide (s ≤ 0) = false := decide_eq_false hs
                clear HCQ hs HS HP
                go_wp2_with (first
                  | (go_at_call 25; (with_reducible refine (HIC.out _).mono ?_); rintro e w' ⟨rfl, hw⟩; obtain rfl := hw.symm; clear hw)
                  | (go_at_call 26; (with_reducible refine (rIsDay_any t.dy _ true HD.out).mono ?_); rintro e w' ⟨rfl, hw⟩; obtain rfl := hw.symm; clear hw)
                  | (go_at_call 27; (with_reducible refine (hsg.out _).mono ?_); rintro e w2 ⟨rfl, c2⟩; have HX2 := Lib.hid (HX.out.keep0 c2); replace hch := hch.then c2; clear c2)
                  | fail)
                clear a0 a1 a2 a3 a4 d1 d2
                have hx2 := HX2.out
                clear HX HX2
                go_loopw [4] (fun jv wj => ∃ j : Nat, j ≤ i ∧ jv = .int .i64 j ∧ dupL (l.take j) t = false ∧ SQt wj (some ⟨g, o, none⟩) l ∧ Chg [] w wj) (fun jv _ => i - (intOf jv).toNat)
                case atStart => exact ⟨0, Nat.zero_le _, rfl, by simp [dupL], hx2, hch⟩
                case round =>
                  clear hx2 hch
                  obtain ⟨j, hj, rfl, hz, hx, hch⟩ := hrel
                  have HZ2 := Lib.hid hz
                  clear hz
                  by_cases hjlt : j < i
                  · have hc := hx.at_ (j := i) (by rw [HN.out]; exact hlt)
                    have hcj := hx.at_ (j := j) (by rw [HN.out]; omega)
                    have HSTD := Lib.hid (dup_take (q := t) (show j < l.length by rw [HN.out]; omega))
                    have HHIT : Hid ((l.getD j qt0).cd = t.cd → (l.getD j qt0).dy = t.dy → dupL (l.take i) t = true) := Lib.hid fun h1 h2 => by
                      have hg : (l.take i).getD j qt0 = l.getD j qt0 := by rw [List.getD_eq_getElem?_getD, List.getD_eq_getElem?_getD, List.getElem?_take_of_lt hjlt]
                      exact dup_hit (i := j) (by rw [List.length_take, HN.out]; omega) (by rw [hg]; exact h1) (by rw [hg]; exact h2)
                    rw [HT.out] at hc
                    obtain ⟨u, HU⟩ := name_it (l.getD j qt0)
                    rw [HU.out] at hcj HSTD HHIT
                    have a0 := hc.c0
                    have a1 := hc.c1
                    have e0 := hcj.c0
                    have e1 := hcj.c1
                    have HX1 := Lib.hid hx
                    have j1 : (0 : Int) ≤ (j : Int) := by omega
                    have j2 : (j : Int) < (n : Int) := by omega
                    clear hx hc hcj
                    by_cases hcd : u.cd = t.cd
                    · have d3 : (u.cd.toList == t.cd.toList) = true := str_eq hcd
                      by_cases hdy : u.dy = t.dy
                      · have hr : r = 12 := by
                          have ev : v = 12 := by rw [HCE.out, HHIT.out hcd hdy]; rfl
                          rw [HSTP.out.1 (by rw [ev]; decide), ev]
                        subst hr
                        have d4 : (u.dy == t.dy) = true := by simp [hdy]
                        clear hcd hdy
                        go_wp2_with fail
                        go_quiet (fail)
                        go_wp2_with fail
                        go_ret
                        exact ⟨rfl, hch.drewN _⟩
                      · have HNX : Hid (dupL (l.take (j + 1)) t = false) := Lib.hid (by rw [HSTD.out, HZ2.out]; simp [hdy])
                        have d4 : (u.dy == t.dy) = false := by simp [hdy]
                        clear hcd hdy
                        go_wp2_with fail
                        go_quiet (fail)
                        go_wp2_with fail
                        go_roundw
                        case rel => exact ⟨j + 1, by omega, by go_num, HNX.out, HX1.out.keep0 ((Chg.refl [] _).drewN _), hch.drewN _⟩
                        case measure => simp [intOf]; omega
                    · have d3 : (u.cd.toList == t.cd.toList) = false := str_ne hcd
                      have HNX : Hid (dupL (l.take (j + 1)) t = false) := Lib.hid (by rw [HSTD.out, HZ2.out]; simp [hcd])
                      clear hcd
                      go_wp2_with fail
                      go_quiet (fail)
                      go_wp2_with fail
                      go_roundw
                      case rel => exact ⟨j + 1, by omega, by go_num, HNX.out, HX1.out.keep0 ((Chg.refl [] _).drewN _), hch.drewN _⟩
                      case measure => simp [intOf]; omega
                  · obtain rfl : j = i := by omega
                    have HNX : Hid (fE (qE l) (j + 1) = 0) := Lib.hid (HSTP.out.2 (by rw [HCE.out, HZ2.out]; rfl))
                    go_wp2_with fail
                    go_roundw
                    case rel => exact ⟨j + 1, by omega, by go_num, HNX.out, hx, hch⟩
                    case measure => simp [intOf]; omega
      · have hin : i = n := by omega
        subst hin
        have hr : r = 0 := by rw [← HR2.out]; exact HZ.out
        subst hr
        go_wp2_with fail
        go_ret
        exact ⟨rfl, hch⟩

set_option maxRecDepth 20000 in
set_option maxHeartbeats 2000000 in
theorem checkOn_any (l : List Qt) (d : Int) (n k : Nat) (A : Option Addr) (cap : Nat) (w : World) (hn : l.length = n) (hm : n ≤ 1000000000) (hcp : n ≤ cap) (hcp2 : cap ≤ 9223372036854775807) (hf : FitQ l k) (hx : SQt w A l) :
    Calls Try.prog 30 #[.slice A n cap, .int .i64 d] w fun e w' => e = .returned (.int .i64 (onE l d)) ∧ Chg [] w w' := by
  have HCK := Lib.hid (fun w h => qcheck_any l n k A cap w hn hm hcp hcp2 hf h)
  obtain ⟨c, HC⟩ := name_it (chkQ l)
  rw [HC.out] at HCK
  obtain ⟨r, HR⟩ := name_it (onE l d)
  rw [HR.out]
  have hch : Chg [] w w := Chg.refl _ _
  clear hn hf
  by_cases hc0 : c = 0
  · subst hc0
    cases hd : isd d with
    | false =>
      obtain rfl : r = 1 := by rw [← HR.out]; exact on_day HC.out hd
      have HD := Lib.hid hd
      clear HR HC hd
      go_enter Try.func30, Try.ntmps30
      go_wp2_with (first
        | (go_at_call 12; (with_reducible refine (HCK.out _ hx).mono ?_); rintro e w1 ⟨rfl, c1⟩; replace hch := hch.then c1; clear c1)
        | (go_at_call 42; (with_reducible refine (isDay_any d _ false HD.out).mono ?_); rintro e w' ⟨rfl, hw⟩; obtain rfl := hw.symm; clear hw)
        | fail)
      go_ret
      exact ⟨rfl, hch⟩
    | true =>
      obtain rfl : r = 0 := by rw [← HR.out]; exact on_ok HC.out hd
      have HD := Lib.hid hd
      clear HR HC hd
      go_enter Try.func30, Try.ntmps30
      go_wp2_with (first
        | (go_at_call 12; (with_reducible refine (HCK.out _ hx).mono ?_); rintro e w1 ⟨rfl, c1⟩; replace hch := hch.then c1; clear c1)
        | (go_at_call 42; (with_reducible refine (isDay_any d _ true HD.out).mono ?_); rintro e w' ⟨rfl, hw⟩; obtain rfl := hw.symm; clear hw)
        | fail)
      go_ret
      exact ⟨rfl, hch⟩
  · obtain rfl : r = c := by rw [← HR.out, on_chk (by rw [HC.out]; exact hc0), HC.out]
    have d1 : (r == 0) = false := by simp; exact hc0
    clear HR HC hc0
    go_enter Try.func30, Try.ntmps30
    go_wp2_with (go_at_call 12; (with_reducible refine (HCK.out _ hx).mono ?_); rintro e w1 ⟨rfl, c1⟩; replace hch := hch.then c1; clear c1)
    go_ret
    exact ⟨rfl, hch⟩
end Go.Proofs.Ytkdcffcgedhllaa
