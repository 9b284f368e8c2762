/-
  Currency: Rate of the program, ExchangeRate of the reference.
-/
import Derived.Test.YtkdcffcgedhllaaKX1
namespace Go.Proofs.Ytkdcffcgedhllaa
open Go.RowKit Nd

set_option maxRecDepth 20000 in
theorem rOne_any (w : World) : Calls Try.prog 32 #[] w fun e w' => e = .returned (.agg #[.bool false, .string ⟨#[1]⟩, .string ⟨#[]⟩]) ∧ Chg [] w w' := by
  go_enter Try.func32, Try.ntmps32
  go_wp2
  exact bodyPost_ret (v := .agg #[.bool false, .string ⟨#[1]⟩, .string ⟨#[]⟩]) (by simp [results, Try.results32, go_sem]) rfl ⟨rfl, (Chg.refl _ _).alloc _⟩

set_option maxRecDepth 20000 in
set_option maxHeartbeats 2000000 in
theorem qrate_any (l : List Qt) (c : ByteArray) (d : Int) (n k : Nat) (A : Option Addr) (cap : Nat) (w : World) (hn : l.length = n) (hm : n ≤ 1000000000) (hcp : n ≤ cap) (hcp2 : cap ≤ 9223372036854775807) (hf : FitQ l k) (hx : SQt w A l) :
    Calls Try.prog 15 #[.slice A n cap, .string c, .int .i64 d] w fun e w' => e = .returned (.tuple #[.agg #[.bool (rtV l c d).neg, .string (rtV l c d).num, .string (rtV l c d).den], .int .i64 (rtE l c d)]) ∧ Chg [] w w' := by
  have b1 := Blk3.alloc w (.bool false) (.string ⟨#[]⟩) (.string ⟨#[]⟩) 30
  have hch : Chg [] w (w.alloc (.cells #[.bool false, .string ⟨#[]⟩, .string ⟨#[]⟩] 30)) := (Chg.refl _ _).alloc _
  replace hx := hx.keep0 hch
  have HCK := Lib.hid (fun w h => checkOn_any l d n k A cap w hn hm hcp hcp2 hf h)
  by_cases h0 : onE l d = 0
  · have HFD := Lib.hid (fun w h => find_any l c d n A cap w hn hm (fun j hj => (chk_good (on_chk0 h0) hj).2.1) h)
    rw [(rt_off h0).1, (rt_off h0).2]
    rw [h0] at HCK
    obtain ⟨vE, HVE⟩ := name_it (findE l c d)
    obtain ⟨vV, HVV⟩ := name_it (findV l c d)
    rw [HVE.out, HVV.out] at HFD ⊢
    clear hn hf h0
    go_enter Try.func15, Try.ntmps15
    go_wp2_with (go_at_call 30; (with_reducible refine (HCK.out _ hx).mono ?_); rintro e w1 ⟨rfl, c1⟩; replace b1 := b1.keep0 c1; have hx2 := hx.keep0 c1; replace hch := hch.then c1; clear c1)
    refine (HFD.out _ hx2).mono ?_
    rintro e w2 ⟨rfl, c1⟩
    replace b1 := b1.keep0 c1
    replace hch := hch.then c1
    clear c1
    have S := b1.store (.bool vV.neg) (.string vV.num) (.string vV.den)
    have hchS := hch.store3 (.inr (Nat.le_refl _)) (.bool vV.neg) (.string vV.num) (.string vV.den)
    have b1c0 := b1.c0
    have b1c1 := b1.c1
    have b1c2 := b1.c2
    have b1f0 := b1.f0
    have b1f1 := b1.f1
    have b1f2 := b1.f2
    have b1l := b1.lt
    go_wp2_with fail
    exact bodyPost_ret (v := .tuple #[.agg #[.bool vV.neg, .string vV.num, .string vV.den], .int .i64 vE]) (by simp [results, Try.results15, go_sem, S.c0, S.c1, S.c2]) rfl ⟨rfl, hchS⟩
  · rw [(rt_on h0).1, (rt_on h0).2]
    obtain ⟨r, HR⟩ := name_it (onE l d)
    rw [HR.out] at HCK ⊢
    have d1 : (r == 0) = false := by simp; rw [← HR.out]; exact h0
    clear hn hf h0
    go_enter Try.func15, Try.ntmps15
    go_wp2_with (go_at_call 30; (with_reducible refine (HCK.out _ hx).mono ?_); rintro e w1 ⟨rfl, c1⟩; replace b1 := b1.keep0 c1; replace hch := hch.then c1; clear c1; have b1c0 := b1.c0; have b1c1 := b1.c1; have b1c2 := b1.c2; have b1f0 := b1.f0; have b1f1 := b1.f1; have b1f2 := b1.f2; have b1l := b1.lt)
    have S := b1.store (.bool false) (.string ⟨#[]⟩) (.string ⟨#[]⟩)
    have hchS := hch.store3 (.inr (Nat.le_refl _)) (.bool false) (.string ⟨#[]⟩) (.string ⟨#[]⟩)
    exact bodyPost_ret (v := .tuple #[.agg #[.bool q0.neg, .string q0.num, .string q0.den], .int .i64 r]) (by simp [results, Try.results15, go_sem, S.c0, S.c1, S.c2, q0]) rfl ⟨rfl, hchS⟩

set_option maxRecDepth 20000 in
set_option maxHeartbeats 4000000 in
theorem erate_any (l : List Qt) (c : ByteArray) (d : Int) (n k : Nat) (A : Option Addr) (cap : Nat) (w : World) (hn : l.length = n) (hm : n ≤ 1000000000) (hf : FitQ l k) (hx : SQt w A l) :
    Calls Try.prog 16 #[.slice A n cap, .string c, .int .i64 d] w fun e w' => e = .returned (.tuple #[.agg #[.bool (rtV l c d).neg, .string (rtV l c d).num, .string (rtV l c d).den], .int .i64 (rtE l c d)]) ∧ Chg [] w w' := by
  have HLOW : Hid (0 < l.length → ∃ g o, A = some ⟨g, o, none⟩ ∧ g < w.heap.size) := Lib.hid hx.form
  have b1 := Blk3.alloc w (.bool false) (.string ⟨#[]⟩) (.string ⟨#[]⟩) 30
  have hch : Chg [] w (w.alloc (.cells #[.bool false, .string ⟨#[]⟩, .string ⟨#[]⟩] 30)) := (Chg.refl _ _).alloc _
  replace hx := hx.keep0 hch
  have HCK := Lib.hid (fun w h => rqcheck_any l n k A cap w hn hm hf h)
  have HN := Lib.hid hn
  obtain ⟨vE, HVE⟩ := name_it (rtE l c d)
  obtain ⟨vV, HVV⟩ := name_it (rtV l c d)
  rw [HVE.out, HVV.out]
  by_cases hc0 : chkQ l = 0
  · rw [hc0] at HCK
    have HC0 := Lib.hid hc0
    clear hc0 hn hf
    cases hd : isd d with
    | false =>
      have ho := on_day HC0.out hd
      obtain ⟨r1, r2⟩ := rt_on (c := c) (show onE l d ≠ 0 by rw [ho]; decide)
      rw [HVE.out, ho] at r1
      rw [HVV.out] at r2
      subst r1 r2
      have HD := Lib.hid hd
      clear hd HVE HVV ho
      go_enter Try.func16, Try.ntmps16
      go_wp2_with (first
        | (go_at_call 13; (with_reducible refine (HCK.out _ hx).mono ?_); rintro e w1 ⟨rfl, c1⟩; replace b1 := b1.keep0 c1; replace hch := hch.then c1; clear c1; have b1c0 := b1.c0; have b1c1 := b1.c1; have b1c2 := b1.c2; have b1f0 := b1.f0; have b1f1 := b1.f1; have b1f2 := b1.f2; have b1l := b1.lt)
        | (go_at_call 26; (with_reducible refine (rIsDay_any d _ false HD.out).mono ?_); rintro e w' ⟨rfl, hw⟩; obtain rfl := hw.symm; clear hw)
        | fail)
      have S := b1.store (.bool false) (.string ⟨#[]⟩) (.string ⟨#[]⟩)
      have hchS := hch.store3 (.inr (Nat.le_refl _)) (.bool false) (.string ⟨#[]⟩) (.string ⟨#[]⟩)
      exact bodyPost_ret (v := .tuple #[.agg #[.bool q0.neg, .string q0.num, .string q0.den], .int .i64 1]) (by simp [results, Try.results16, go_sem, S.c0, S.c1, S.c2, q0]) rfl ⟨rfl, hchS⟩
    | true =>
      obtain ⟨r1, r2⟩ := rt_off (c := c) (on_ok HC0.out hd)
      rw [HVE.out] at r1
      rw [HVV.out] at r2
      have HD := Lib.hid hd
      clear hd
      by_cases he : c = eur
      · rw [(eur_ok (l := l) (d := d) he).1] at r1
        rw [(eur_ok (l := l) (d := d) he).2] at r2
        subst r1 r2
        have d1 : (c.toList == [69, 85, 82]) = true := eur_eq he
        clear he HVE HVV
        go_enter Try.func16, Try.ntmps16
        go_wp2_with (first
          | (go_at_call 13; (with_reducible refine (HCK.out _ hx).mono ?_); rintro e w1 ⟨rfl, c1⟩; replace b1 := b1.keep0 c1; replace hch := hch.then c1; clear c1)
          | (go_at_call 26; (with_reducible refine (rIsDay_any d _ true HD.out).mono ?_); rintro e w' ⟨rfl, hw⟩; obtain rfl := hw.symm; clear hw)
          | (go_at_call 32; (with_reducible refine (rOne_any _).mono ?_); rintro e w2 ⟨rfl, c1⟩; replace b1 := b1.keep0 c1; replace hch := hch.then c1; clear c1; have b1c0 := b1.c0; have b1c1 := b1.c1; have b1c2 := b1.c2; have b1f0 := b1.f0; have b1f1 := b1.f1; have b1f2 := b1.f2; have b1l := b1.lt)
          | fail)
        have S := b1.store (.bool false) (.string ⟨#[1]⟩) (.string ⟨#[]⟩)
        have hchS := hch.store3 (.inr (Nat.le_refl _)) (.bool false) (.string ⟨#[1]⟩) (.string ⟨#[]⟩)
        exact bodyPost_ret (v := .tuple #[.agg #[.bool q1.neg, .string q1.num, .string q1.den], .int .i64 0]) (by simp [results, Try.results16, go_sem, S.c0, S.c1, S.c2, q1]) rfl ⟨rfl, hchS⟩
      · have HE := Lib.hid he
        have d1 : (c.toList == [69, 85, 82]) = false := eur_ne he
        have HR1 : Hid (findE l c d = vE) := Lib.hid r1.symm
        have HR2 : Hid (findV l c d = vV) := Lib.hid r2.symm
        clear he HVE HVV r1 r2
        go_enter Try.func16, Try.ntmps16
        go_wp2_with (first
          | (go_at_call 13; (with_reducible refine (HCK.out _ hx).mono ?_); rintro e w1 ⟨rfl, c1⟩; replace b1 := b1.keep0 c1; have hx2 := hx.keep0 c1; replace hch := hch.then c1; clear c1)
          | (go_at_call 26; (with_reducible refine (rIsDay_any d _ true HD.out).mono ?_); rintro e w' ⟨rfl, hw⟩; obtain rfl := hw.symm; clear hw)
          | fail)
        clear hx d1
        go_loopw [9, 10, 11] (fun kv bv iv wr => ∃ (i : Nat) (kn : Bool) (b : Int), i ≤ n ∧ iv = .int .i64 i ∧ kv = .bool kn ∧ bv = .int .i64 b ∧ kno l c i = kn ∧ bst l c d i = b ∧ Blk3 wr w.heap.size (.bool false) (.string ⟨#[]⟩) (.string ⟨#[]⟩) ∧ SQt wr A l ∧ Chg [] w wr) (fun _ _ iv _ => n - (intOf iv).toNat)
        case atStart => exact ⟨0, false, -1, Nat.zero_le _, rfl, rfl, rfl, kno_zero l c, rfl, b1, hx2, hch⟩
        case round =>
          clear hx2 hch b1
          obtain ⟨i, kn, b, hi, rfl, rfl, rfl, hkn, hb, b1, hx, hch⟩ := hrel
          have HKN := Lib.hid hkn
          have HB := Lib.hid hb
          clear hkn hb
          by_cases hlt : i < n
          · obtain ⟨g, o, rfl, hgl⟩ := HLOW.out (by rw [HN.out]; omega)
            have hc := hx.at_ (j := i) (by rw [HN.out]; exact hlt)
            have HKS := Lib.hid (kno_step l c i (by rw [HN.out]; exact hlt))
            have HOTH := Lib.hid (bst_other (l := l) (c := c) (d := d) (i := i))
            have HNEW := Lib.hid (bst_new (l := l) (c := c) (d := d) (i := i))
            have HOLD := Lib.hid (bst_old (l := l) (c := c) (d := d) (i := i))
            have hblo := bst_lo l c d i
            rw [HB.out] at hblo HNEW HOLD HOTH
            obtain ⟨t, HT⟩ := name_it (l.getD i qt0)
            rw [HT.out] at hc HKS HOTH HNEW HOLD
            rw [HKN.out] at HKS
            have a0 := hc.c0
            have a1 := hc.c1
            have i1 : (0 : Int) ≤ (i : Int) := by omega
            have i2 : (i : Int) < (n : Int) := by omega
            have HX1 := Lib.hid hx
            clear hc
            by_cases hcd : t.cd = c
            · have d3 : (t.cd.toList == c.toList) = true := str_eq hcd
              have HK2 : Hid (kno l c (i + 1) = true) := Lib.hid (by rw [HKS.out]; simp [hcd])
              by_cases h4 : t.dy ≤ d
              · have d4 : decide (t.dy ≤ d) = true := decide_eq_true h4
                by_cases hb0 : b < 0
                · have HB2 := Lib.hid (HNEW.out hcd h4 (.inl hb0))
                  have d5 : decide (b < 0) = true := decide_eq_true hb0
                  clear hcd h4 hx hb0 hblo
                  go_wp2_with fail
                  go_quiet (fail)
                  go_wp2_with fail
                  go_roundw
                  case rel => exact ⟨i + 1, true, i, by omega, by go_num, rfl, rfl, HK2.out, HB2.out, b1.keep0 ((Chg.refl [] _).drewN _), HX1.out.keep0 ((Chg.refl [] _).drewN _), hch.drewN _⟩
                  case measure => simp [intOf]; omega
                · have hcb := hx.at_ (j := b.toNat) (by rw [HN.out]; omega)
                  obtain ⟨u, HU⟩ := name_it (l.getD b.toNat qt0)
                  rw [HU.out] at hcb HNEW HOLD
                  have e1 := hcb.c1
                  have d5 : decide (b < 0) = false := decide_eq_false hb0
                  have b3 : 0 ≤ b := by omega
                  have b4 : b < (n : Int) := by omega
                  clear hcb hx
                  by_cases hdy : u.dy < t.dy
                  · have HB2 := Lib.hid (HNEW.out hcd h4 (.inr hdy))
                    have d6 : decide (u.dy < t.dy) = true := decide_eq_true hdy
                    clear hcd h4 hb0 hdy hblo
                    go_wp2_with fail
                    go_quiet (fail)
                    go_wp2_with fail
                    go_roundw
                    case rel => exact ⟨i + 1, true, i, by omega, by go_num, rfl, rfl, HK2.out, HB2.out, b1.keep0 ((Chg.refl [] _).drewN _), HX1.out.keep0 ((Chg.refl [] _).drewN _), hch.drewN _⟩
                    case measure => simp [intOf]; omega
                  · have HB2 := Lib.hid (HOLD.out (fun h => by rcases h.2 with h | h; exact hb0 h; exact hdy h))
                    have d6 : decide (u.dy < t.dy) = false := decide_eq_false hdy
                    clear hcd h4 hb0 hdy hblo
                    go_wp2_with fail
                    go_quiet (fail)
                    go_wp2_with fail
                    go_roundw
                    case rel => exact ⟨i + 1, true, b, by omega, by go_num, rfl, rfl, HK2.out, HB2.out, b1.keep0 ((Chg.refl [] _).drewN _), HX1.out.keep0 ((Chg.refl [] _).drewN _), hch.drewN _⟩
                    case measure => simp [intOf]; omega
              · have HB2 := Lib.hid (HOLD.out (fun h => h4 h.1))
                have d4 : decide (t.dy ≤ d) = false := decide_eq_false h4
                clear hcd h4 hx hblo
                go_wp2_with fail
                go_quiet (fail)
                go_wp2_with fail
                go_roundw
                case rel => exact ⟨i + 1, true, b, by omega, by go_num, rfl, rfl, HK2.out, HB2.out, b1.keep0 ((Chg.refl [] _).drewN _), HX1.out.keep0 ((Chg.refl [] _).drewN _), hch.drewN _⟩
                case measure => simp [intOf]; omega
            · have d3 : (t.cd.toList == c.toList) = false := str_ne hcd
              have HK2 : Hid (kno l c (i + 1) = kn) := Lib.hid (by rw [HKS.out]; simp [hcd])
              have HB2 := Lib.hid (HOTH.out hcd)
              clear hcd hx hblo
              go_wp2_with fail
              go_roundw
              case rel => exact ⟨i + 1, kn, b, by omega, by go_num, rfl, rfl, HK2.out, HB2.out, b1, HX1.out, hch⟩
              case measure => simp [intOf]; omega
          · have hin : i = n := by omega
            subst hin
            have HKL : Hid (kno l c l.length = kn) := Lib.hid (by rw [HN.out]; exact HKN.out)
            have HBL : Hid (bst l c d l.length = b) := Lib.hid (by rw [HN.out]; exact HB.out)
            have hblo := bst_lo l c d i
            rw [HB.out] at hblo
            cases kn with
            | false =>
              obtain ⟨r1, r2⟩ := find_unknown (d := d) HE.out HKL.out
              rw [HR1.out] at r1
              rw [HR2.out] at r2
              subst r1 r2
              clear HR1 HR2
              have S := b1.store (.bool false) (.string ⟨#[]⟩) (.string ⟨#[]⟩)
              have hchS := hch.store3 (.inr (Nat.le_refl _)) (.bool false) (.string ⟨#[]⟩) (.string ⟨#[]⟩)
              have b1c0 := b1.c0
              have b1c1 := b1.c1
              have b1c2 := b1.c2
              have b1f0 := b1.f0
              have b1f1 := b1.f1
              have b1f2 := b1.f2
              have b1l := b1.lt
              go_wp2_with fail
              exact bodyPost_ret (v := .tuple #[.agg #[.bool q0.neg, .string q0.num, .string q0.den], .int .i64 8]) (by simp [results, Try.results16, go_sem, S.c0, S.c1, S.c2, q0]) rfl ⟨rfl, hchS⟩
            | true =>
              by_cases hb0 : b < 0
              · obtain ⟨r1, r2⟩ := find_late (d := d) HE.out HKL.out (by rw [HBL.out]; exact hb0)
                rw [HR1.out] at r1
                rw [HR2.out] at r2
                subst r1 r2
                clear HR1 HR2 hblo
                have d4 : decide (b < 0) = true := decide_eq_true hb0
                have S := b1.store (.bool false) (.string ⟨#[]⟩) (.string ⟨#[]⟩)
                have hchS := hch.store3 (.inr (Nat.le_refl _)) (.bool false) (.string ⟨#[]⟩) (.string ⟨#[]⟩)
                clear hb0
                have b1c0 := b1.c0
                have b1c1 := b1.c1
                have b1c2 := b1.c2
                have b1f0 := b1.f0
                have b1f1 := b1.f1
                have b1f2 := b1.f2
                have b1l := b1.lt
                go_wp2_with fail
                exact bodyPost_ret (v := .tuple #[.agg #[.bool q0.neg, .string q0.num, .string q0.den], .int .i64 9]) (by simp [results, Try.results16, go_sem, S.c0, S.c1, S.c2, q0]) rfl ⟨rfl, hchS⟩
              · obtain ⟨r1, r2⟩ := find_hit (d := d) HE.out HKL.out (by rw [HBL.out]; exact hb0)
                have hpos : 0 < l.length := by rw [HN.out]; omega
                obtain ⟨g, o, rfl, hgl⟩ := HLOW.out hpos
                have hcb := hx.at_ (j := b.toNat) (by rw [HN.out]; omega)
                rw [HR1.out] at r1
                rw [HR2.out, HBL.out] at r2
                obtain ⟨u, HU⟩ := name_it (l.getD b.toNat qt0)
                rw [HU.out] at hcb r2
                clear HR1 HR2
                subst r1 r2
                have e2 := hcb.c2
                have e3 := hcb.c3
                have e4 := hcb.c4
                have d4 : decide (b < 0) = false := decide_eq_false hb0
                have b3 : 0 ≤ b := by omega
                have b4 : b < (i : Int) := by omega
                have S := b1.store (.bool u.rt.neg) (.string u.rt.num) (.string u.rt.den)
                have hchS := hch.store3 (.inr (Nat.le_refl _)) (.bool u.rt.neg) (.string u.rt.num) (.string u.rt.den)
                clear hb0 hblo hcb
                have b1c0 := b1.c0
                have b1c1 := b1.c1
                have b1c2 := b1.c2
                have b1f0 := b1.f0
                have b1f1 := b1.f1
                have b1f2 := b1.f2
                have b1l := b1.lt
                go_wp2_with fail
                exact bodyPost_ret (v := .tuple #[.agg #[.bool u.rt.neg, .string u.rt.num, .string u.rt.den], .int .i64 0]) (by simp [results, Try.results16, go_sem, S.c0, S.c1, S.c2]) rfl ⟨rfl, hchS⟩
  · have ho := on_chk (d := d) hc0
    obtain ⟨r1, r2⟩ := rt_on (c := c) (show onE l d ≠ 0 by rw [ho]; exact hc0)
    rw [HVE.out, ho] at r1
    rw [HVV.out] at r2
    obtain ⟨r, HR⟩ := name_it (chkQ l)
    rw [HR.out] at HCK r1 hc0
    subst r1 r2
    have d1 : (vE == 0) = false := by simp; exact hc0
    clear HVE HVV HR hc0 ho hn hf
    go_enter Try.func16, Try.ntmps16
    go_wp2_with (go_at_call 13; (with_reducible refine (HCK.out _ hx).mono ?_); rintro e w1 ⟨rfl, c1⟩; replace b1 := b1.keep0 c1; replace hch := hch.then c1; clear c1; have b1c0 := b1.c0; have b1c1 := b1.c1; have b1c2 := b1.c2; have b1f0 := b1.f0; have b1f1 := b1.f1; have b1f2 := b1.f2; have b1l := b1.lt)
    have S := b1.store (.bool false) (.string ⟨#[]⟩) (.string ⟨#[]⟩)
    have hchS := hch.store3 (.inr (Nat.le_refl _)) (.bool false) (.string ⟨#[]⟩) (.string ⟨#[]⟩)
    exact bodyPost_ret (v := .tuple #[.agg #[.bool q0.neg, .string q0.num, .string q0.den], .int .i64 vE]) (by simp [results, Try.results16, go_sem, S.c0, S.c1, S.c2, q0]) rfl ⟨rfl, hchS⟩
end Go.Proofs.Ytkdcffcgedhllaa
