/-
  The reference's has, IsBusiness, AddDays, NextDay, CountDays.
-/
import Derived.Test.YtfmbekdhkilflaaC6
namespace Go.Proofs.Ytfmbekdhkilflaa
open Go.RowKit Go.Sort

set_option maxRecDepth 20000 in
set_option maxHeartbeats 1000000 in
theorem rhas_any (zs : List Int) (x : Int) (n : Nat) (A : Option Addr) (cap : Nat) (w : World) (b : Bool) (hl : zs.length = n) (hn : n ≤ 9223372036854775807) (hx : RdZ w A zs) (hb : zs.contains x = b) :
    Calls Try.prog 29 #[.slice A n cap, .int .i64 x] w fun e w' => e = .returned (.bool b) ∧ Chg [] w w' := by
  have hch : Chg [] w w := Chg.refl _ _
  have HL := Lib.hid hl
  have HX := Lib.hid hx
  have HB2 : Hid (((∃ j, j < n ∧ zs.getD j 0 = x) → b = true) ∧ ((∀ j, j < n → zs.getD j 0 ≠ x) → b = false)) := Lib.hid (by
    rw [← hb]
    refine ⟨fun ⟨j, hj, he⟩ => ?_, fun h => ?_⟩
    · rw [List.contains_iff_mem, ← he]; exact getD_mem (by omega)
    · cases hc : zs.contains x with
      | false => rfl
      | true =>
        obtain ⟨j, hj, he⟩ := mem_getD (List.contains_iff_mem.1 hc)
        exact absurd he (h j (by omega)))
  clear hl hb hx
  go_enter Try.func29, Try.ntmps29
  go_wp2_with fail
  go_loopw [5] (fun iv wr => ∃ k : Nat, k ≤ n ∧ iv = .int .i64 k ∧ (∀ t, t < k → zs.getD t 0 ≠ x) ∧ Chg [] w wr) (fun iv _ => n - (intOf iv).toNat)
  case atStart => exact ⟨0, Nat.zero_le _, rfl, fun t h => absurd h (by omega), hch⟩
  case round =>
    clear hch
    obtain ⟨k, hk, rfl, hall, hch⟩ := hrel
    have HALL := Lib.hid hall
    clear hall
    by_cases hlt : k < n
    · have hx := HX.out.keep0 hch
      obtain ⟨g, o, rfl, _, a0⟩ := hx (by rw [HL.out]; omega)
      have a1 := a0 k (by rw [HL.out]; exact hlt)
      obtain ⟨s, HS⟩ := name_it (zs.getD k 0)
      rw [HS.out] at a1
      have i1 : (0 : Int) ≤ (k : Int) := by omega
      have i2 : (k : Int) < (n : Int) := by omega
      clear a0
      by_cases he : s = x
      · have hb := HB2.out.1 ⟨k, hlt, by rw [HS.out]; exact he⟩
        subst hb
        have e1 : (s == x) = true := by simp; exact he
        clear he
        go_wp2_with fail
        go_ret
        exact ⟨rfl, hch⟩
      · have e1 : (s == x) = false := by simp; exact he
        have HNE : Hid (∀ t, t < k + 1 → zs.getD t 0 ≠ x) := Lib.hid fun t ht => by
          by_cases e : t = k
          · subst e; rw [HS.out]; exact he
          · exact HALL.out t (by omega)
        clear he
        go_wp2_with fail
        go_roundw
        case rel => exact ⟨k + 1, by omega, by go_num, HNE.out, hch⟩
        case measure => simp [intOf]; omega
    · have hb := HB2.out.2 (fun j hj => HALL.out j (by omega))
      subst hb
      go_wp2_with fail
      go_ret
      exact ⟨rfl, hch⟩

set_option maxRecDepth 20000 in
set_option maxHeartbeats 1000000 in
theorem rIsBusiness_any (zs : List Int) (d : Int) (l : Nat) (A : Option Addr) (cap : Nat) (w : World) (b : Bool) (hd : I64 d) (hl : zs.length = l) (hl2 : l ≤ 9223372036854775807) (hx : RdZ w A zs) (hb : busD zs d = b) :
    Calls Try.prog 16 #[.int .i64 d, .slice A l cap] w fun e w' => e = .returned (.bool b) ∧ Chg [] w w' := by
  have HD := Lib.hid hd
  have hch : Chg [] w w := Chg.refl _ _
  cases hi : isd d with
  | false =>
    have HI := Lib.hid hi
    obtain rfl : b = false := by rw [← hb]; unfold busD; rw [hi]; rfl
    clear hl hx hi hd hb
    go_enter Try.func16, Try.ntmps16
    go_wp2_with (go_at_call 22; refine (rIsDay_any d _ false HI.out).mono ?_; rintro e w' ⟨rfl, hw⟩; obtain rfl := hw.symm; clear hw)
    go_ret
    exact ⟨rfl, hch⟩
  | true =>
    have HI := Lib.hid hi
    cases hw' : wkd d with
    | false =>
      have d1 : decide (d % 7 < 5) = false := hw'
      obtain rfl : b = false := by rw [← hb]; unfold busD bus; rw [hi, hw']; rfl
      clear hl hx hi hd hw' hb
      go_enter Try.func16, Try.ntmps16
      go_wp2_with (first
        | (go_at_call 22; refine (rIsDay_any d _ true HI.out).mono ?_; rintro e w' ⟨rfl, hw⟩; obtain rfl := hw.symm; clear hw)
        | (go_at_call 14; refine (rweekday_any d _ HD.out).mono ?_; rintro e w' ⟨rfl, hw⟩; obtain rfl := hw.symm; clear hw))
      go_ret
      exact ⟨rfl, hch⟩
    | true =>
      have d1 : decide (d % 7 < 5) = true := hw'
      obtain ⟨c, HBB⟩ := name_it (zs.contains d)
      obtain rfl : b = !c := by rw [← hb]; unfold busD bus; rw [hi, hw', HBB.out]; rfl
      have HC := Lib.hid (rhas_any zs d l A cap w c hl hl2 hx HBB.out)
      clear hl hx hi hd hw' hb
      go_enter Try.func16, Try.ntmps16
      go_wp2_with (first
        | (go_at_call 22; refine (rIsDay_any d _ true HI.out).mono ?_; rintro e w' ⟨rfl, hw⟩; obtain rfl := hw.symm; clear hw)
        | (go_at_call 14; refine (rweekday_any d _ HD.out).mono ?_; rintro e w' ⟨rfl, hw⟩; obtain rfl := hw.symm; clear hw)
        | (go_at_call 29; refine HC.out.mono ?_; rintro e w1 ⟨rfl, c1⟩))
      go_ret
      exact ⟨rfl, c1⟩

theorem cnt_next (P : Int → Bool) (s d : Int) (h : s ≤ d) : cnt P s (d + 1 - s).toNat = cnt P s (d - s).toNat + if P d then 1 else 0 := by
  rw [show (d + 1 - s).toNat = (d - s).toNat + 1 by omega, cnt, show s + ((d - s).toNat : Int) = d by omega]

set_option maxRecDepth 20000 in
set_option maxHeartbeats 2000000 in
theorem rcount_any (zs : List Int) (a b : Int) (l : Nat) (A : Option Addr) (cap : Nat) (w : World) (hl : zs.length = l) (hl2 : l ≤ 9223372036854775807) (hx : RdZ w A zs) :
    Calls Try.prog 24 #[.int .i64 a, .int .i64 b, .slice A l cap] w fun e w' => ∃ o, e = .returned o ∧ CountR zs a b o ∧ Chg [] w w' := by
  have hch : Chg [] w w := Chg.refl _ _
  by_cases hlong : 1000 < l
  · have HR := Lib.hid (CountR.long (zs := zs) (a := a) (b := b) (by rw [hl]; exact hlong))
    clear hl hx
    have d1 : decide ((1000 : Int) < (l : Int)) = true := decide_eq_true (by omega)
    go_enter Try.func24, Try.ntmps24
    go_wp2_with fail
    go_ret2
    exact ⟨_, rfl, HR.out, hch⟩
  · have d1 : decide ((1000 : Int) < (l : Int)) = false := decide_eq_false (by omega)
    cases hia : isd a with
    | false =>
      have HR := Lib.hid (CountR.range (zs := zs) (a := a) (b := b) (by rw [hl]; omega) (.inl hia))
      have HA := Lib.hid hia
      clear hl hx hia
      go_enter Try.func24, Try.ntmps24
      go_wp2_with (go_at_call 22; refine (rIsDay_any a _ false HA.out).mono ?_; rintro e w' ⟨rfl, hw⟩; obtain rfl := hw.symm; clear hw)
      go_ret2
      exact ⟨_, rfl, HR.out, hch⟩
    | true =>
      obtain ⟨i1, i2⟩ := isd_yes hia
      have HA := Lib.hid hia
      cases hib : isd b with
      | false =>
        have HR := Lib.hid (CountR.range (zs := zs) (a := a) (b := b) (by rw [hl]; omega) (.inr hib))
        have HB := Lib.hid hib
        clear hl hx hia hib
        go_enter Try.func24, Try.ntmps24
        go_wp2_with (first
            | (go_at_call 22; (with_reducible refine (rIsDay_any a _ true HA.out).mono ?_); rintro e w' ⟨rfl, hw⟩; obtain rfl := hw.symm; clear hw)
            | (go_at_call 22; (with_reducible refine (rIsDay_any b _ false HB.out).mono ?_); rintro e w' ⟨rfl, hw⟩; obtain rfl := hw.symm; clear hw))
        go_ret2
        exact ⟨_, rfl, HR.out, hch⟩
      | true =>
        obtain ⟨j1, j2⟩ := isd_yes hib
        have HB := Lib.hid hib
        have HOK := Lib.hid (CountR.ok (zs := zs) (by rw [hl]; omega) hia hib)
        have HX := Lib.hid hx
        have HIB := Lib.hid (fun d u b (hd : I64 d) (hx : RdZ u A zs) (hb : busD zs d = b) => rIsBusiness_any zs d l A cap u b hd hl hl2 hx hb)
        clear hl hx hia hib
        go_enter Try.func24, Try.ntmps24
        go_wp2_with (first
            | (go_at_call 22; (with_reducible refine (rIsDay_any a _ true HA.out).mono ?_); rintro e w' ⟨rfl, hw⟩; obtain rfl := hw.symm; clear hw)
            | (go_at_call 22; (with_reducible refine (rIsDay_any b _ true HB.out).mono ?_); rintro e w' ⟨rfl, hw⟩; obtain rfl := hw.symm; clear hw))
        go_loopw [8, 9] (fun nv dv wr => ∃ (d : Int) (c : Nat), a ≤ d ∧ (d ≤ b ∨ d = a) ∧ dv = .int .i64 d ∧ nv = .int .i64 c ∧ cnt (bus zs) a (d - a).toNat = c ∧ (c : Int) ≤ d - a ∧ Chg [] w wr) (fun _ dv _ => (b - intOf dv).toNat)
        case atStart => exact ⟨a, 0, Int.le_refl _, .inr rfl, rfl, rfl, by simp [cnt], by omega, hch⟩
        case round =>
          clear hch
          obtain ⟨d, c, h1, h2, rfl, rfl, hc, hcb, hch⟩ := hrel
          have HC := Lib.hid hc
          have HO := Lib.hid h2
          clear hc h2
          by_cases hlt : d < b
          · have d2 : decide (d < b) = true := decide_eq_true hlt
            have hnx := Lib.hid (cnt_next (bus zs) a d h1)
            have hdI : Hid (I64 d) := Lib.hid ⟨by omega, by omega⟩
            cases hbd : bus zs d with
            | true =>
              have HBD := Lib.hid (HIB.out d _ true hdI.out (HX.out.keep0 hch) (by rw [busD_is (by omega) (by omega)]; exact hbd))
              have HN : Hid (cnt (bus zs) a (d + 1 - a).toNat = c + 1) := Lib.hid (by rw [hnx.out, HC.out, hbd]; rfl)
              clear hbd
              go_wp2_with (go_at_call 16; refine HBD.out.mono ?_; rintro e w1 ⟨rfl, c1⟩)
              go_roundw
              case rel => exact ⟨d + 1, c + 1, by omega, .inl (by omega), rfl, by go_num, HN.out, by omega, hch.then c1⟩
              case measure => simp [intOf]; omega
            | false =>
              have HBD := Lib.hid (HIB.out d _ false hdI.out (HX.out.keep0 hch) (by rw [busD_is (by omega) (by omega)]; exact hbd))
              have HN : Hid (cnt (bus zs) a (d + 1 - a).toNat = c) := Lib.hid (by rw [hnx.out, HC.out, hbd]; rfl)
              clear hbd
              go_wp2_with (go_at_call 16; refine HBD.out.mono ?_; rintro e w1 ⟨rfl, c1⟩)
              go_roundw
              case rel => exact ⟨d + 1, c, by omega, .inl (by omega), rfl, rfl, HN.out, by omega, hch.then c1⟩
              case measure => simp [intOf]; omega
          · have d2 : decide (d < b) = false := decide_eq_false hlt
            have HOK2 : Hid (CountR zs a b (two c 0)) := Lib.hid (by
              have := HOK.out
              rwa [show (b - a).toNat = (d - a).toNat by have := HO.out; omega, HC.out] at this)
            clear hlt
            go_wp2_with fail
            go_ret2
            exact ⟨_, rfl, HOK2.out, hch⟩

theorem radd_some {zs : List Int} {s dd : Int} {m : Nat} (h1 : s ≤ dd) (h2 : dd ≤ 1048576) (hb : bus zs dd = true) (hc : cnt (bus zs) s (dd - s).toNat = m) : Nth zs s m (some dd) := ⟨h1, h2, hb, hc⟩
theorem radd_none {zs : List Int} {s : Int} {m : Nat} (hc : cnt (bus zs) s (1048577 - s).toNat ≤ m) : Nth zs s m none := hc

set_option maxRecDepth 20000 in
set_option maxHeartbeats 4000000 in
theorem radd_any (zs : List Int) (d n : Int) (l : Nat) (A : Option Addr) (cap : Nat) (w : World) (hn : I64 n) (hl : zs.length = l) (hl2 : l ≤ 9223372036854775807) (hx : RdZ w A zs) :
    Calls Try.prog 21 #[.int .i64 d, .int .i64 n, .slice A l cap] w fun e w' => ∃ o, e = .returned o ∧ AddR zs d n o ∧ Chg [] w w' := by
  have hch : Chg [] w w := Chg.refl _ _
  obtain ⟨n1, n2⟩ := hn
  by_cases hlong : 1000 < l
  · have HR := Lib.hid (AddR.long (zs := zs) (d := d) (n := n) (by rw [hl]; exact hlong))
    clear hl hx
    have d1 : decide ((1000 : Int) < (l : Int)) = true := decide_eq_true (by omega)
    go_enter Try.func21, Try.ntmps21
    go_wp2_with fail
    go_ret2
    exact ⟨_, rfl, HR.out, hch⟩
  · have d1 : decide ((1000 : Int) < (l : Int)) = false := decide_eq_false (by omega)
    cases hisd : isd d with
    | false =>
      have HR := Lib.hid (AddR.range (zs := zs) (d := d) (n := n) (by rw [hl]; omega) (.inl hisd))
      have HI := Lib.hid hisd
      clear hl hx hisd
      go_enter Try.func21, Try.ntmps21
      go_wp2_with (go_at_call 22; refine (rIsDay_any d _ false HI.out).mono ?_; rintro e w' ⟨rfl, hw⟩; obtain rfl := hw.symm; clear hw)
      go_ret2
      exact ⟨_, rfl, HR.out, hch⟩
    | true =>
      obtain ⟨i1, i2⟩ := isd_yes hisd
      have HI := Lib.hid hisd
      by_cases hneg : n < 0
      · have HR := Lib.hid (AddR.range (zs := zs) (d := d) (n := n) (by rw [hl]; omega) (.inr (.inl hneg)))
        have d2 : decide (n < 0) = true := decide_eq_true hneg
        clear hl hx hisd hneg
        go_enter Try.func21, Try.ntmps21
        go_wp2_with (go_at_call 22; refine (rIsDay_any d _ true HI.out).mono ?_; rintro e w' ⟨rfl, hw⟩; obtain rfl := hw.symm; clear hw)
        go_ret2
        exact ⟨_, rfl, HR.out, hch⟩
      · have d2 : decide (n < 0) = false := decide_eq_false hneg
        by_cases hbig : 1048576 < n
        · have HR := Lib.hid (AddR.range (zs := zs) (d := d) (n := n) (by rw [hl]; omega) (.inr (.inr hbig)))
          have d3 : decide (1048576 < n) = true := decide_eq_true hbig
          clear hl hx hisd hneg hbig
          go_enter Try.func21, Try.ntmps21
          go_wp2_with (go_at_call 22; refine (rIsDay_any d _ true HI.out).mono ?_; rintro e w' ⟨rfl, hw⟩; obtain rfl := hw.symm; clear hw)
          go_ret2
          exact ⟨_, rfl, HR.out, hch⟩
        · have d3 : decide (1048576 < n) = false := decide_eq_false hbig
          have HOK := Lib.hid (fun v => AddR.ok (zs := zs) (d := d) (n := n) (v := v) (by rw [hl]; omega) hisd (by omega) (by omega))
          have hn0 : 0 ≤ n := by omega
          have hnM : n ≤ 1048576 := by omega
          have HX := Lib.hid hx
          have HIB := Lib.hid (fun d u b (hd : I64 d) (hx : RdZ u A zs) (hb : busD zs d = b) => rIsBusiness_any zs d l A cap u b hd hl hl2 hx hb)
          clear hl hx hisd hneg hbig
          obtain ⟨s, Hs⟩ := name_it (if n = 0 then d else d + 1)
          obtain ⟨m, Hm⟩ := name_it (n - 1).toNat
          rw [Hs.out, Hm.out] at HOK
          go_enter Try.func21, Try.ntmps21
          go_upto_region 6 with (first
            | (go_at_call 22; refine (rIsDay_any d _ true HI.out).mono ?_; rintro e w' ⟨rfl, hw⟩; obtain rfl := hw.symm; clear hw))
          have hs1 : 0 ≤ s := by rw [← Hs.out]; split <;> omega
          have hs2 : s ≤ 1048577 := by rw [← Hs.out]; split <;> omega
          by_cases h0 : 0 < n
          · have d4 : decide (0 < n) = true := decide_eq_true h0
            have e1 : Hid (s = d + 1) := Lib.hid (by rw [← Hs.out, if_neg (by omega)])
            have e2 : Hid (n.toNat = m + 1) := Lib.hid (by rw [← Hm.out]; omega)
            clear h0
            go_wp2_with fail
            go_loopw [1, 8] (fun nv dv wr => ∃ (dd nn : Int) (r : Nat), s ≤ dd ∧ dd ≤ 1048577 ∧ dv = .int .i64 dd ∧ nv = .int .i64 nn ∧ (nn = r + 1 ∨ nn = 0 ∧ r = 0) ∧ cnt (bus zs) s (dd - s).toNat + r = m ∧ r ≤ 1048576 ∧ Chg [] w wr) (fun _ dv _ => (1048577 - intOf dv).toNat)
            case atStart => exact ⟨d + 1, n, m, Int.le_of_eq e1.out, by omega, rfl, rfl, .inl (by have := e2.out; omega), by rw [← e1.out]; simp [cnt], by have := e2.out; omega, hch⟩
            case round =>
              clear hch
              obtain ⟨dd, nn, r, h1, h2, rfl, rfl, h3, h4, h5, hch⟩ := hrel
              have H3 := Lib.hid h3
              have H4 := Lib.hid h4
              have h6 : 0 ≤ nn := by omega
              have h7 : nn ≤ 1048577 := by omega
              clear h3 h4
              by_cases hlt : dd ≤ 1048576
              · have d5 : decide (dd ≤ 1048576) = true := decide_eq_true hlt
                have hnx := Lib.hid (cnt_next (bus zs) s dd h1)
                have hdI : Hid (I64 dd) := Lib.hid ⟨by omega, by omega⟩
                cases hbd : bus zs dd with
                | true =>
                  have HBD := Lib.hid (HIB.out dd _ true hdI.out (HX.out.keep0 hch) (by rw [busD_is (by omega) (by omega)]; exact hbd))
                  by_cases hr : nn ≤ 1
                  · have d6 : decide (nn ≤ 1) = true := decide_eq_true hr
                    have HRES : Hid (AddR zs d n (two dd 0)) := Lib.hid (HOK.out (some dd) (radd_some h1 hlt hbd (by have := H4.out; have := H3.out; omega)))
                    clear hbd hr hlt
                    go_wp2_with (go_at_call 16; refine HBD.out.mono ?_; rintro e w1 ⟨rfl, c1⟩)
                    go_ret2
                    exact ⟨_, rfl, HRES.out, hch.then c1⟩
                  · have d6 : decide (nn ≤ 1) = false := decide_eq_false hr
                    have HN : Hid (cnt (bus zs) s (dd + 1 - s).toNat + (r - 1) = m) := Lib.hid (by have := H4.out; have := H3.out; rw [hnx.out, hbd]; simp; omega)
                    have HQ : Hid (nn - 1 = ((r - 1 : Nat) : Int) + 1 ∨ nn - 1 = 0 ∧ r - 1 = 0) := Lib.hid (by have := H3.out; omega)
                    clear hbd hr
                    go_wp2_with (go_at_call 16; refine HBD.out.mono ?_; rintro e w1 ⟨rfl, c1⟩)
                    go_roundw
                    case rel => exact ⟨dd + 1, nn - 1, r - 1, by omega, by omega, rfl, rfl, HQ.out, HN.out, by omega, hch.then c1⟩
                    case measure => simp [intOf]; omega
                | false =>
                  have HBD := Lib.hid (HIB.out dd _ false hdI.out (HX.out.keep0 hch) (by rw [busD_is (by omega) (by omega)]; exact hbd))
                  have HN : Hid (cnt (bus zs) s (dd + 1 - s).toNat + r = m) := Lib.hid (by have := H4.out; rw [hnx.out, hbd]; simpa using this)
                  clear hbd
                  go_wp2_with (go_at_call 16; refine HBD.out.mono ?_; rintro e w1 ⟨rfl, c1⟩)
                  go_roundw
                  case rel => exact ⟨dd + 1, nn, r, by omega, by omega, rfl, rfl, H3.out, HN.out, h5, hch.then c1⟩
                  case measure => simp [intOf]; omega
              · have d5 : decide (dd ≤ 1048576) = false := decide_eq_false hlt
                have HRES : Hid (AddR zs d n (two 0 1)) := Lib.hid (HOK.out none (radd_none (by
                  have := H4.out
                  rw [show (1048577 - s).toNat = (dd - s).toNat by omega]
                  omega)))
                clear hlt
                go_wp2_with fail
                go_ret2
                exact ⟨_, rfl, HRES.out, hch⟩
          · have d4 : decide (0 < n) = false := decide_eq_false h0
            have e1 : Hid (s = d) := Lib.hid (by rw [← Hs.out, if_pos (by omega)])
            have e2 : Hid (n = 0 ∧ m = 0) := Lib.hid ⟨by omega, by rw [← Hm.out]; omega⟩
            clear h0
            go_wp2_with fail
            go_loopw [1, 8] (fun nv dv wr => ∃ (dd nn : Int) (r : Nat), s ≤ dd ∧ dd ≤ 1048577 ∧ dv = .int .i64 dd ∧ nv = .int .i64 nn ∧ (nn = r + 1 ∨ nn = 0 ∧ r = 0) ∧ cnt (bus zs) s (dd - s).toNat + r = m ∧ r ≤ 1048576 ∧ Chg [] w wr) (fun _ dv _ => (1048577 - intOf dv).toNat)
            case atStart => exact ⟨d, n, m, Int.le_of_eq e1.out, by omega, rfl, rfl, .inr e2.out, by rw [← e1.out]; simp [cnt], by have := e2.out; omega, hch⟩
            case round =>
              clear hch
              obtain ⟨dd, nn, r, h1, h2, rfl, rfl, h3, h4, h5, hch⟩ := hrel
              have H3 := Lib.hid h3
              have H4 := Lib.hid h4
              have h6 : 0 ≤ nn := by omega
              have h7 : nn ≤ 1048577 := by omega
              clear h3 h4
              by_cases hlt : dd ≤ 1048576
              · have d5 : decide (dd ≤ 1048576) = true := decide_eq_true hlt
                have hnx := Lib.hid (cnt_next (bus zs) s dd h1)
                have hdI : Hid (I64 dd) := Lib.hid ⟨by omega, by omega⟩
                cases hbd : bus zs dd with
                | true =>
                  have HBD := Lib.hid (HIB.out dd _ true hdI.out (HX.out.keep0 hch) (by rw [busD_is (by omega) (by omega)]; exact hbd))
                  by_cases hr : nn ≤ 1
                  · have d6 : decide (nn ≤ 1) = true := decide_eq_true hr
                    have HRES : Hid (AddR zs d n (two dd 0)) := Lib.hid (HOK.out (some dd) (radd_some h1 hlt hbd (by have := H4.out; have := H3.out; omega)))
                    clear hbd hr hlt
                    go_wp2_with (go_at_call 16; refine HBD.out.mono ?_; rintro e w1 ⟨rfl, c1⟩)
                    go_ret2
                    exact ⟨_, rfl, HRES.out, hch.then c1⟩
                  · have d6 : decide (nn ≤ 1) = false := decide_eq_false hr
                    have HN : Hid (cnt (bus zs) s (dd + 1 - s).toNat + (r - 1) = m) := Lib.hid (by have := H4.out; have := H3.out; rw [hnx.out, hbd]; simp; omega)
                    have HQ : Hid (nn - 1 = ((r - 1 : Nat) : Int) + 1 ∨ nn - 1 = 0 ∧ r - 1 = 0) := Lib.hid (by have := H3.out; omega)
                    clear hbd hr
                    go_wp2_with (go_at_call 16; refine HBD.out.mono ?_; rintro e w1 ⟨rfl, c1⟩)
                    go_roundw
                    case rel => exact ⟨dd + 1, nn - 1, r - 1, by omega, by omega, rfl, rfl, HQ.out, HN.out, by omega, hch.then c1⟩
                    case measure => simp [intOf]; omega
                | false =>
                  have HBD := Lib.hid (HIB.out dd _ false hdI.out (HX.out.keep0 hch) (by rw [busD_is (by omega) (by omega)]; exact hbd))
                  have HN : Hid (cnt (bus zs) s (dd + 1 - s).toNat + r = m) := Lib.hid (by have := H4.out; rw [hnx.out, hbd]; simpa using this)
                  clear hbd
                  go_wp2_with (go_at_call 16; refine HBD.out.mono ?_; rintro e w1 ⟨rfl, c1⟩)
                  go_roundw
                  case rel => exact ⟨dd + 1, nn, r, by omega, by omega, rfl, rfl, H3.out, HN.out, h5, hch.then c1⟩
                  case measure => simp [intOf]; omega
              · have d5 : decide (dd ≤ 1048576) = false := decide_eq_false hlt
                have HRES : Hid (AddR zs d n (two 0 1)) := Lib.hid (HOK.out none (radd_none (by
                  have := H4.out
                  rw [show (1048577 - s).toNat = (dd - s).toNat by omega]
                  omega)))
                clear hlt
                go_wp2_with fail
                go_ret2
                exact ⟨_, rfl, HRES.out, hch⟩

set_option maxRecDepth 20000 in
theorem rnext_any (zs : List Int) (d : Int) (l : Nat) (A : Option Addr) (cap : Nat) (w : World) (hl : zs.length = l) (hl2 : l ≤ 9223372036854775807) (hx : RdZ w A zs) :
    Calls Try.prog 19 #[.int .i64 d, .slice A l cap] w fun e w' => ∃ a c, e = .returned (two a c) ∧ AddR zs d 0 (two a c) ∧ Chg [] w w' := by
  have HC := Lib.hid (radd_any zs d 0 l A cap w ⟨by omega, by omega⟩ hl hl2 hx)
  clear hl hx
  go_enter Try.func19, Try.ntmps19
  go_wp2_with (go_at_call 21; refine HC.out.mono ?_; rintro e w1 ⟨o, rfl, hr, c1⟩; obtain ⟨a, c, rfl⟩ := hr.form; have HR := Lib.hid hr; clear hr; unfold two)
  go_ret2
  exact ⟨a, c, rfl, HR.out, c1⟩
end Go.Proofs.Ytfmbekdhkilflaa
