/-
  Currency: the error of a quote, of a list of quotes: the program's checkQuote, Check, checkOn.
-/
import Derived.Test.YtkdcffcgedhllaaKM
namespace Go.Proofs.Ytkdcffcgedhllaa
open Go.RowKit Nd

theorem str_ne {a b : ByteArray} (h : a ≠ b) : (a.toList == b.toList) = false := by
  rw [beq_eq_false_iff_ne, Lib.toList_data, Lib.toList_data]
  intro e
  exact h (ByteArray.ext (Array.toList_inj.1 e))
theorem str_eq {a b : ByteArray} (h : a = b) : (a.toList == b.toList) = true := by rw [h]; exact beq_self_eq_true _
theorem eur_list : eur.toList = [69, 85, 82] := by rw [Lib.toList_data]; rfl
theorem eur_ne {a : ByteArray} (h : a ≠ eur) : (a.toList == [69, 85, 82]) = false := by rw [← eur_list]; exact str_ne h
theorem eur_eq {a : ByteArray} (h : a = eur) : (a.toList == [69, 85, 82]) = true := by rw [← eur_list]; exact str_eq h
theorem dup_take {l : List Qt} {q : Qt} {i : Nat} (h : i < l.length) : dupL (l.take (i + 1)) q = (dupL (l.take i) q || (decide ((l.getD i qt0).cd = q.cd) && decide ((l.getD i qt0).dy = q.dy))) := by
  unfold dupL; rw [take_snocQt l i h, List.any_append]; simp
theorem dup_hit {l : List Qt} {q : Qt} {i : Nat} (h : i < l.length) (h2 : (l.getD i qt0).cd = q.cd) (h3 : (l.getD i qt0).dy = q.dy) : dupL l q = true := by
  unfold dupL; rw [List.any_eq_true]
  exact ⟨_, memQt h, by rw [h2, h3]; simp⟩

set_option maxRecDepth 20000 in
set_option maxHeartbeats 2000000 in
theorem checkQuote_any (q : Qt) (l : List Qt) (m k : Nat) (A : Option Addr) (cap : Nat) (w : World) (hm : l.length = m) (hm2 : m ≤ 1000000000) (hf : Num q.rt (ratOf q.rt) k) (hk : k ≤ 1000) (hx : SQt w A l) :
    Calls Try.prog 24 #[q.val, .slice A m cap] w fun e w' => e = .returned (.int .i64 (cqE l q)) ∧ Chg [] w w' := by
  have hch : Chg [] w (w.alloc (.cells #[.string q.cd, .int .i64 q.dy, .bool q.rt.neg, .string q.rt.num, .string q.rt.den] 33)) := (Chg.refl _ _).alloc _
  have b1 := BlkQt.alloc w (.string q.cd) (.int .i64 q.dy) (.bool q.rt.neg) (.string q.rt.num) (.string q.rt.den) 33
  replace hx := hx.keep0 hch
  have HM := Lib.hid hm
  have HF := Lib.hid hf
  obtain ⟨r, HR⟩ := name_it (cqE l q)
  rw [HR.out]
  clear hm hf
  have b10 := b1.c0
  have b11 := b1.c1
  have b12 := b1.c2
  have b13 := b1.c3
  have b14 := b1.c4
  obtain ⟨c, HC⟩ := name_it (codeB q.cd)
  have HIC := Lib.hid (fun w => isCode_any q.cd w)
  rw [HC.out] at HIC
  cases c with
  | false =>
    obtain rfl : r = 8 := by rw [← HR.out]; exact cq_code HC.out
    clear HC HR
    go_enter Try.func24, Try.ntmps24
    go_wp2_with (go_at_call 41; (with_reducible refine (HIC.out _).mono ?_); rintro e w' ⟨rfl, hw⟩; obtain rfl := hw.symm; clear hw)
    go_ret
    exact ⟨rfl, hch⟩
  | true =>
    have HCC := Lib.hid HC.out
    clear HC
    by_cases he : q.cd = eur
    · obtain rfl : r = 8 := by rw [← HR.out]; exact cq_eur he
      have d1 : (q.cd.toList == [69, 85, 82]) = true := eur_eq he
      clear HR he
      go_enter Try.func24, Try.ntmps24
      go_wp2_with (go_at_call 41; (with_reducible refine (HIC.out _).mono ?_); rintro e w' ⟨rfl, hw⟩; obtain rfl := hw.symm; clear hw)
      go_ret
      exact ⟨rfl, hch⟩
    · have d1 : (q.cd.toList == [69, 85, 82]) = false := eur_ne he
      have HE := Lib.hid he
      clear he
      cases hd : isd q.dy with
      | false =>
        obtain rfl : r = 1 := by rw [← HR.out]; exact cq_day HCC.out HE.out hd
        have HD := Lib.hid hd
        clear HR hd
        go_enter Try.func24, Try.ntmps24
        go_wp2_with (first
          | (go_at_call 41; (with_reducible refine (HIC.out _).mono ?_); rintro e w' ⟨rfl, hw⟩; obtain rfl := hw.symm; clear hw)
          | (go_at_call 42; (with_reducible refine (isDay_any q.dy _ false HD.out).mono ?_); rintro e w' ⟨rfl, hw⟩; obtain rfl := hw.symm; clear hw)
          | fail)
        go_ret
        exact ⟨rfl, hch⟩
      | true =>
        have HD := Lib.hid hd
        clear hd
        have hsg := Lib.hid (fun w => SignN q.rt _ k w HF.out (by omega))
        obtain ⟨p, HP⟩ := name_it (ratOf q.rt)
        rw [HP.out] at hsg
        obtain ⟨s, HS⟩ := name_it (sg p)
        rw [HS.out] at hsg
        by_cases hs : s ≤ 0
        · obtain rfl : r = 1 := by rw [← HR.out]; exact cq_rate HCC.out HE.out HD.out (by rw [HP.out, HS.out]; exact hs)
          have d2 : decide (s ≤ 0) = true := decide_eq_true hs
          clear HR hs HS HP
          go_enter Try.func24, Try.ntmps24
          go_wp2_with (first
            | (go_at_call 41; (with_reducible refine (HIC.out _).mono ?_); rintro e w' ⟨rfl, hw⟩; obtain rfl := hw.symm; clear hw)
            | (go_at_call 42; (with_reducible refine (isDay_any q.dy _ true HD.out).mono ?_); rintro e w' ⟨rfl, hw⟩; obtain rfl := hw.symm; clear hw)
            | (go_at_call 43; (with_reducible refine (hsg.out _).mono ?_); rintro e w2 ⟨rfl, c2⟩; replace hch := hch.then c2; clear c2)
            | fail)
          go_ret
          exact ⟨rfl, hch⟩
        · have HR2 : Hid ((if dupL l q = true then (12 : Int) else 0) = r) := Lib.hid (by rw [← HR.out]; exact (cq_dup HCC.out HE.out HD.out (by rw [HP.out, HS.out]; exact hs)).symm)
          have d2 : decide (s ≤ 0) = false := decide_eq_false hs
          have HLOW : Hid (0 < l.length → ∃ g o, A = some ⟨g, o, none⟩ ∧ g < w.heap.size + 1) := Lib.hid (fun h => by simpa using hx.form h)
          clear HR hs HS HP
          go_enter Try.func24, Try.ntmps24
          go_wp2_with (first
            | (go_at_call 41; (with_reducible refine (HIC.out _).mono ?_); rintro e w' ⟨rfl, hw⟩; obtain rfl := hw.symm; clear hw)
            | (go_at_call 42; (with_reducible refine (isDay_any q.dy _ true HD.out).mono ?_); rintro e w' ⟨rfl, hw⟩; obtain rfl := hw.symm; clear hw)
            | (go_at_call 43; (with_reducible refine (hsg.out _).mono ?_); rintro e w2 ⟨rfl, c2⟩; clear b10 b11 b12 b13 b14; replace b1 := b1.keep c2 (by simp); replace hx := hx.keep0 c2; replace hch := hch.then c2; clear c2)
            | fail)
          go_loopw [28] (fun iv wr => ∃ i : Nat, i ≤ m ∧ iv = .int .i64 i ∧ dupL (l.take i) q = false ∧ BlkQt wr w.heap.size (.string q.cd) (.int .i64 q.dy) (.bool q.rt.neg) (.string q.rt.num) (.string q.rt.den) ∧ SQt wr A l ∧ Chg [] w wr) (fun iv _ => m - (intOf iv).toNat)
          case atStart => exact ⟨0, Nat.zero_le _, rfl, by simp [dupL], b1, hx, hch⟩
          case round =>
            clear hx hch b1
            obtain ⟨i, hi, rfl, hz, b1, hx, hch⟩ := hrel
            have HZ := Lib.hid hz
            clear hz
            by_cases hlt : i < m
            · obtain ⟨g, o, rfl, hgl⟩ := hx.form (by rw [HM.out]; omega)
              have hc := hx.at_ (j := i) (by rw [HM.out]; exact hlt)
              have HST := Lib.hid (dup_take (q := q) (show i < l.length by rw [HM.out]; exact hlt))
              have HHIT := Lib.hid (dup_hit (q := q) (show i < l.length by rw [HM.out]; exact hlt))
              obtain ⟨t, HT⟩ := name_it (l.getD i qt0)
              rw [HT.out] at hc HST HHIT
              have a0 := hc.c0
              have a1 := hc.c1
              have a2 := hc.c2
              have a3 := hc.c3
              have a4 := hc.c4
              have c4 : Chg [] wr (wr.alloc (.cells #[.string t.cd, .int .i64 t.dy, .bool t.rt.neg, .string t.rt.num, .string t.rt.den] 33)) := (Chg.refl _ _).alloc _
              have b4 := BlkQt.alloc wr (.string t.cd) (.int .i64 t.dy) (.bool t.rt.neg) (.string t.rt.num) (.string t.rt.den) 33
              replace b1 := b1.keep c4 (by simp)
              have HX1 := Lib.hid (hx.keep0 c4)
              replace hch := hch.then c4
              clear hx hc c4
              have e0 := b1.c0
              have e1 := b1.c1
              have g0 := b4.c0
              have g1 := b4.c1
              by_cases hcd : t.cd = q.cd
              · have d3 : (t.cd.toList == q.cd.toList) = true := str_eq hcd
                by_cases hdy : t.dy = q.dy
                · obtain rfl : r = 12 := by rw [← HR2.out, HHIT.out hcd hdy]; rfl
                  have d4 : (t.dy == q.dy) = true := by simp [hdy]
                  clear hcd hdy
                  go_wp2_with fail
                  go_ret
                  exact ⟨rfl, hch⟩
                · have HN : Hid (dupL (l.take (i + 1)) q = false) := Lib.hid (by rw [HST.out, HZ.out]; simp [hdy])
                  have d4 : (t.dy == q.dy) = false := by simp [hdy]
                  clear hcd hdy
                  go_wp2_with fail
                  go_roundw
                  case rel => exact ⟨i + 1, by omega, by go_num, HN.out, b1, HX1.out, hch⟩
                  case measure => simp [intOf]; omega
              · have d3 : (t.cd.toList == q.cd.toList) = false := str_ne hcd
                have HN : Hid (dupL (l.take (i + 1)) q = false) := Lib.hid (by rw [HST.out, HZ.out]; simp [hcd])
                clear hcd
                go_wp2_with fail
                go_roundw
                case rel => exact ⟨i + 1, by omega, by go_num, HN.out, b1, HX1.out, hch⟩
                case measure => simp [intOf]; omega
            · have hr : r = 0 := by
                rw [← HR2.out]
                have := HZ.out
                rw [List.take_of_length_le (by rw [HM.out]; omega)] at this
                rw [this]; rfl
              subst hr
              go_wp2_with fail
              go_ret
              exact ⟨rfl, hch⟩

set_option maxRecDepth 20000 in
set_option maxHeartbeats 2000000 in
theorem qcheck_any (l : List Qt) (n k : Nat) (A : Option Addr) (cap : Nat) (w : World) (hn : l.length = n) (hm : n ≤ 1000000000) (hcp : n ≤ cap) (hcp2 : cap ≤ 9223372036854775807) (hf : FitQ l k) (hx : SQt w A l) :
    Calls Try.prog 12 #[.slice A n cap] w fun e w' => e = .returned (.int .i64 (chkQ l)) ∧ Chg [] w w' := by
  have hch : Chg [] w w := Chg.refl _ _
  obtain ⟨r, HR⟩ := name_it (chkQ l)
  rw [HR.out]
  have HN := Lib.hid hn
  have HF := Lib.hid hf
  clear hn hf
  by_cases h64 : 256 < n
  · have hr : r = 2 := by rw [← HR.out]; unfold chkQ; rw [if_pos (by rw [HN.out]; exact h64)]
    subst hr
    have d1 : decide ((256 : Int) < (n : Int)) = true := decide_eq_true (by omega)
    clear HR
    go_enter Try.func12, Try.ntmps12
    go_wp2_with fail
    go_ret
    exact ⟨rfl, hch⟩
  · have HR2 : Hid (fE (qE l) n = r) := Lib.hid (by rw [← HR.out]; unfold chkQ; rw [if_neg (by rw [HN.out]; exact h64), HN.out])
    have d1 : decide ((256 : Int) < (n : Int)) = false := decide_eq_false (by omega)
    clear HR h64
    go_enter Try.func12, Try.ntmps12
    go_wp2_with fail
    clear d1
    go_loopw [11] (fun iv wr => ∃ i : Nat, i ≤ n ∧ iv = .int .i64 i ∧ fE (qE l) i = 0 ∧ SQt wr A l ∧ Chg [] w wr) (fun iv _ => n - (intOf iv).toNat)
    case atStart => exact ⟨0, Nat.zero_le _, rfl, rfl, hx, hch⟩
    case round =>
      clear hx hch
      obtain ⟨i, hi, rfl, hz, hx, hch⟩ := hrel
      have HZ := Lib.hid hz
      clear hz
      by_cases hlt : i < n
      · obtain ⟨g, o, rfl, hgl⟩ := hx.form (by rw [HN.out]; omega)
        have hc := hx.at_ (j := i) (by rw [HN.out]; exact hlt)
        have hnum := Lib.hid (HF.out.num (j := i) (by rw [HN.out]; exact hlt))
        have hstp := chk_step HN.out HR2.out HZ.out hlt
        have HCQ := Lib.hid (fun w h c => checkQuote_any (l.getD i qt0) (l.take i) i k (some ⟨g, o, none⟩) c w (by rw [List.length_take, HN.out]; omega) (by omega) hnum.out HF.out.le h)
        rw [show cqE (l.take i) (l.getD i qt0) = qE l i from rfl] at HCQ
        obtain ⟨v, HV⟩ := name_it (qE l i)
        rw [HV.out] at hstp HCQ
        have HSTP := Lib.hid hstp
        obtain ⟨t, HT⟩ := name_it (l.getD i qt0)
        rw [HT.out] at hc HCQ
        have a0 := hc.c0
        have a1 := hc.c1
        have a2 := hc.c2
        have a3 := hc.c3
        have a4 := hc.c4
        have c4 : Chg [] wr (wr.alloc (.cells #[.string t.cd, .int .i64 t.dy, .bool t.rt.neg, .string t.rt.num, .string t.rt.den] 33)) := (Chg.refl _ _).alloc _
        have b4 := BlkQt.alloc wr (.string t.cd) (.int .i64 t.dy) (.bool t.rt.neg) (.string t.rt.num) (.string t.rt.den) 33
        have HX1 := Lib.hid (hx.keep0 c4)
        replace hch := hch.then c4
        clear hx hc c4 hnum hstp
        have g0 := b4.c0
        have g1 := b4.c1
        have g2 := b4.c2
        have g3 := b4.c3
        have g4 := b4.c4
        have i1 : (0 : Int) ≤ (i : Int) := by omega
        have i2 : (i : Int) ≤ (n : Int) := by omega
        have i3 : (i : Int) ≤ (cap : Int) := by omega
        go_wp2_with fail
        obtain ⟨w5, HW5⟩ := name_it (wr.alloc (.cells #[.string t.cd, .int .i64 t.dy, .bool t.rt.neg, .string t.rt.num, .string t.rt.den] 33))
        obtain ⟨g9, G9⟩ := name_it wr.heap.size
        rw [HW5.out] at b4 HX1 hch ⊢
        rw [G9.out] at b4 ⊢
        have c8 : Chg [] w5 w5.drew := (Chg.refl _ _).drew
        replace b4 := b4.keep0 c8
        have HX2 := Lib.hid (HX1.out.keep0 c8)
        replace hch := hch.then c8
        clear c8 HX1 g0 g1 g2 g3 g4 a0 a1 a2 a3 a4
        go_region_held3 (fun w' => w'.cell? ⟨g9, 0, none⟩ = some (.string t.cd) ∧ w'.cell? ⟨g9, 1, none⟩ = some (.int .i64 t.dy) ∧ w'.cell? ⟨g9, 2, none⟩ = some (.bool t.rt.neg) ∧ w'.cell? ⟨g9, 3, none⟩ = some (.string t.rt.num) ∧ w'.cell? ⟨g9, 4, none⟩ = some (.string t.rt.den)) (first | exact ⟨b4.c0, b4.c1, b4.c2, b4.c3, b4.c4⟩) (first
          | (go_at_call 24
             refine (HCQ.out _ (HX2.out.take i) _).mono ?_
             rintro e w6 ⟨rfl, c6⟩
             replace b4 := b4.keep0 c6
             have HX3 := Lib.hid (HX2.out.keep0 c6)
             replace hch := hch.then c6
             clear c6)
          | fail)
        all_goals
          by_cases hv : v = 0
          · have HN2 := Lib.hid (HSTP.out.2 hv)
            subst hv
            go_wp2_with fail
            go_roundw
            case rel => exact ⟨i + 1, by omega, by go_num, HN2.out, HX3.out, hch⟩
            case measure => simp [intOf]; omega
          · obtain rfl : r = v := HSTP.out.1 hv
            have d1 : (r == 0) = false := by simp; exact hv
            clear hv
            go_wp2_with fail
            go_ret
            exact ⟨rfl, hch⟩
      · have hin : i = n := by omega
        subst hin
        have hr : r = 0 := by rw [← HR2.out]; exact HZ.out
        subst hr
        go_wp2_with fail
        go_ret
        exact ⟨rfl, hch⟩
end Go.Proofs.Ytkdcffcgedhllaa
