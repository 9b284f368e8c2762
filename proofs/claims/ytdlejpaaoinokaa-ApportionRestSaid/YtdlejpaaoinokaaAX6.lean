/-
  Apportion: Largest and Split of the program.
-/
import Derived.Test.YtdlejpaaoinokaaAX5
import Derived.Test.YtdlejpaaoinokaaAX2
namespace Go.Proofs.Ytdlejpaaoinokaa
open Go.RowKit Nd

/-- Numbers that are not negative, over a common denominator. -/
structure Com (xs : List Q3) (n : Nat) (N : Nat → Nat) (D : Nat) : Prop where
  pos : 0 < D
  eq : ∀ j, j < n → ratOf (xs.getD j q0) = sq false (N j) D
/-- What Largest answers. -/
structure LgPost (w w' : World) (e : Ending) (xs : List Q3) (n : Nat) : Prop where
  bad : chkA xs ≠ 0 → e = .returned (.tuple #[.slice none 0 0, .int .i64 (chkA xs)])
  com : chkA xs = 0 → ∃ N D, Com xs n N D ∧ (okS (apS N n) D = false → e = .returned (.tuple #[.slice none 0 0, .int .i64 6])) ∧
    (okS (apS N n) D = true → ∃ h, e = .returned (.tuple #[.slice (some ⟨h, 0, none⟩) n n, .int .i64 0]) ∧ w.heap.size ≤ h ∧ Fb w' h n (fun j => .int .i64 ((resA N D n j : Nat) : Int)))
  ch : Chg [] w w'
theorem chkA_neg {xs : List Q3} (h : chkA xs = 0) : negL xs = false ∧ xs.length ≤ 1024 := by
  unfold chkA at h
  by_cases h1 : 1024 < xs.length
  · rw [if_pos h1] at h; exact absurd h (by decide)
  · rw [if_neg h1] at h
    cases hn : negL xs with
    | true => rw [hn] at h; exact absurd h (by decide)
    | false => exact ⟨rfl, by omega⟩
theorem pow_le256 {a b : Nat} (h : a ≤ b) : 256 ^ a ≤ 256 ^ b := Nat.pow_le_pow_right (by omega) h

set_option maxRecDepth 20000 in
set_option maxHeartbeats 2000000 in
theorem largest_any (xs : List Q3) (n k : Nat) (A : Option Addr) (cap : Nat) (w : World) (hn : xs.length = n) (hm : n ≤ 20) (hk1 : 1 ≤ k) (hk : k ≤ 10000) (hf : ∀ x ∈ xs, fits x k) (hx : Rds w A xs) :
    Calls Try.prog 9 #[.slice A n cap] w fun e w' => LgPost w w' e xs n := by
  have hch : Chg [] w w := Chg.refl _ _
  have HCK := Lib.hid (fun w h => acheck_any xs n k A cap w hn (by omega) hk1 (by omega) hf h)
  by_cases hc0 : chkA xs = 0
  · have hno := chkA_neg hc0
    have HSC := Lib.hid (fun w h => scaled_any xs n k A cap w hn (by omega) hk1 (by omega) hf (fun j hj => negL_no hno.1 (by rw [hn]; exact hj)) h)
    have hnk : n * k ≤ 20 * 10000 := Nat.mul_le_mul hm hk
    rw [hc0] at HCK
    have HC0 := Lib.hid hc0
    clear hn hf hno hc0
    go_enter Try.func9, Try.ntmps9
    go_wp2_with (go_at_call 24; (with_reducible refine (HCK.out _ hx).mono ?_); rintro e w1 ⟨rfl, c1⟩; have hx1 := hx.keep0 c1; replace hch := hch.then c1; clear c1)
    refine (HSC.out _ hx1).mono ?_
    rintro e w2 ⟨g, s, N, D, ds, rfl, hfb, hsc, hds, hg, c1⟩
    have HS := Lib.hid hsc
    have HD := Lib.hid hds
    replace hch := hch.then c1
    have hw2 := hch.size
    clear c1 hsc hds hx hx1
    go_wp2_with fail
    refine (rounded_any s N ds D n (n * k + 1 + k) g n _ hm HS.out.num HS.out.lN (by omega) HD.out HS.out.pos (Nat.lt_of_lt_of_le HS.out.lD (pow_le256 (by omega))) hfb).mono ?_
    intro e w3 hr
    have HR := Lib.hid hr
    clear hr
    obtain ⟨ok, HOK⟩ := name_it (okS (apS N n) D)
    rw [HOK.out] at HR
    have hch3 := hch.then HR.out.ch
    cases ok with
    | false =>
      obtain rfl := HR.out.bad rfl
      go_wp2_with fail
      go_ret2
      exact ⟨fun h => absurd HC0.out h, fun _ => ⟨N, D, ⟨HS.out.pos, HS.out.eq⟩, fun _ => rfl, fun h => absurd (h.symm.trans HOK.out) (by decide)⟩, hch3⟩
    | true =>
      obtain ⟨h, rfl, hh, hfb2⟩ := HR.out.good rfl
      go_wp2_with fail
      go_ret2
      exact ⟨fun h => absurd HC0.out h, fun _ => ⟨N, D, ⟨HS.out.pos, HS.out.eq⟩, fun h => absurd (h.symm.trans HOK.out) (by decide), fun _ => ⟨h, rfl, by omega, hfb2⟩⟩, hch3⟩
  · obtain ⟨c, HC⟩ := name_it (chkA xs)
    rw [HC.out] at HCK hc0
    have d1 : (c == 0) = false := by simp; exact hc0
    have HC1 := Lib.hid hc0
    clear hn hf hc0
    go_enter Try.func9, Try.ntmps9
    go_wp2_with (go_at_call 24; (with_reducible refine (HCK.out _ hx).mono ?_); rintro e w1 ⟨rfl, c1⟩; replace hch := hch.then c1; clear c1)
    go_ret2
    exact ⟨fun _ => by rw [HC.out]; rfl, fun h => absurd (HC.out.symm.trans h) HC1.out, hch⟩

/-- What Split answers. -/
structure SpPost (w w' : World) (e : Ending) (t : Int) (xs : List Q3) (n : Nat) : Prop where
  bad : chkA xs ≠ 0 → e = .returned (.tuple #[.slice none 0 0, .int .i64 (chkA xs)])
  neg : chkA xs = 0 → t < 0 → e = .returned (.tuple #[.slice none 0 0, .int .i64 7])
  com : chkA xs = 0 → 0 ≤ t → ∃ N D, Com xs n N D ∧ (apS N n = 0 → e = .returned (.tuple #[.slice none 0 0, .int .i64 6])) ∧
    (apS N n ≠ 0 → ∃ h, e = .returned (.tuple #[.slice (some ⟨h, 0, none⟩) n n, .int .i64 0]) ∧ w.heap.size ≤ h ∧ Fb w' h n (fun j => .int .i64 ((resA (fun i => t.toNat * N i) (apS N n) n j : Nat) : Int)))
  ch : Chg [] w w'
theorem split_ok {N : Nat → Nat} {t n : Nat} (h : apS N n ≠ 0) (ht : t ≤ 9223372036854775807) : okS (apS (fun i => t * N i) n) (apS N n) = true := by
  unfold okS
  rw [apS_mul, Nat.mul_mod_left, Nat.mul_div_cancel _ (Nat.pos_of_ne_zero h)]
  simp [ht]

set_option maxRecDepth 20000 in
set_option maxHeartbeats 4000000 in
theorem split_any (t : Int) (xs : List Q3) (n k : Nat) (A : Option Addr) (cap : Nat) (w : World) (ht : -9223372036854775808 ≤ t ∧ t ≤ 9223372036854775807) (hn : xs.length = n) (hm : n ≤ 20) (hk1 : 1 ≤ k) (hk : k ≤ 10000) (hf : ∀ x ∈ xs, fits x k) (hx : Rds w A xs) :
    Calls Try.prog 12 #[.int .i64 t, .slice A n cap] w fun e w' => SpPost w w' e t xs n := by
  have hch : Chg [] w w := Chg.refl _ _
  have HCK := Lib.hid (fun w h => acheck_any xs n k A cap w hn (by omega) hk1 (by omega) hf h)
  by_cases hc0 : chkA xs = 0
  · have hno := chkA_neg hc0
    have HSC := Lib.hid (fun w h => scaled_any xs n k A cap w hn (by omega) hk1 (by omega) hf (fun j hj => negL_no hno.1 (by rw [hn]; exact hj)) h)
    have hnk : n * k ≤ 20 * 10000 := Nat.mul_le_mul hm hk
    rw [hc0] at HCK
    have HC0 := Lib.hid hc0
    clear hn hf hno hc0
    by_cases ht0 : t < 0
    · have d1 : decide (t < 0) = true := decide_eq_true ht0
      go_enter Try.func12, Try.ntmps12
      go_wp2_with (go_at_call 24; (with_reducible refine (HCK.out _ hx).mono ?_); rintro e w1 ⟨rfl, c1⟩; have hx1 := hx.keep0 c1; replace hch := hch.then c1; clear c1)
      go_ret2
      exact ⟨fun h => absurd HC0.out h, fun _ _ => rfl, fun _ h => absurd h (by omega), hch⟩
    · obtain ⟨tn, HTN⟩ : ∃ tn : Nat, Hid (t = (tn : Int)) := ⟨t.toNat, Lib.hid (by omega)⟩
      obtain rfl := HTN.out
      have d1 : decide ((tn : Int) < 0) = false := decide_eq_false ht0
      have htm := ht.2
      clear ht0 ht HTN
      go_enter Try.func12, Try.ntmps12
      go_wp2_with (go_at_call 24; (with_reducible refine (HCK.out _ hx).mono ?_); rintro e w1 ⟨rfl, c1⟩; have hx1 := hx.keep0 c1; replace hch := hch.then c1; clear c1)
      refine (HSC.out _ hx1).mono ?_
      rintro e w2 ⟨g, s, N, D, ds, rfl, hfb, hsc, hds, hg, c1⟩
      have HS := Lib.hid hsc
      have hgw : w.heap.size ≤ g := Nat.le_trans hch.size hg
      replace hch := hch.then c1
      clear c1 hsc hds hx hx1 HSC HCK hg
      have hlN := HS.out.lN
      go_wp2_with fail
      refine (asum_any s N n (n * k + 1 + k) g n _ (by omega) HS.out.num hlN (by omega) hfb).mono ?_
      rintro e w3 ⟨u, rfl, hu, c1⟩
      have HU := Lib.hid hu
      have hbw : apS N n < 256 ^ (n * k + 1 + k + 2) := apS_bound hlN (by omega)
      have HBW := Lib.hid hbw
      have hue : (u.toList == []) = decide (apS N n = 0) := by
        have h := Is_empty hu
        rw [← h]
        cases u.toList <;> rfl
      replace hfb := hfb.keep0 c1
      replace hch := hch.then c1
      clear c1 hu hbw hlN
      by_cases hS0 : apS N n = 0
      · rw [decide_eq_true hS0] at hue
        have HS0 := Lib.hid hS0
        clear hS0
        go_wp2_with fail
        go_ret2
        exact ⟨fun h => absurd HC0.out h, fun _ h => absurd h (by omega), fun _ _ => ⟨N, D, ⟨HS.out.pos, HS.out.eq⟩, fun _ => rfl, fun h => absurd HS0.out h⟩, hch⟩
      · rw [decide_eq_false hS0] at hue
        have HS0 := Lib.hid hS0
        clear hS0
        have e1 : IntKind.u64.wrap (tn : Int) = (tn : Int) := by rw [IntKind.wrap_u64]; omega
        go_wp2_with fail
        refine (fromUint_any tn _ (by omega)).mono ?_
        rintro e w4 ⟨ft, rfl, hft, c1⟩
        have HFT := Lib.hid hft
        have hftz : ft.size ≤ 8 := Is_size hft 8 (Nat.lt_of_lt_of_le (Nat.lt_succ_of_le (show tn ≤ 9223372036854775807 by omega)) (by decide))
        replace hfb := hfb.keep0 c1
        replace hch := hch.then c1
        clear c1 hft
        go_wp2_with fail
        go_loopw [34] (fun iv wr => ∃ (i : Nat) (p : Nat → ByteArray), i ≤ n ∧ iv = .int .i64 i ∧ (∀ j, j < i → Is (p j) (tn * N j)) ∧ (∀ j, i ≤ j → p j = s j) ∧ Fb wr g n (fun j => .string (p j)) ∧ Chg [] w wr) (fun iv _ => n - (intOf iv).toNat)
        case atStart => exact ⟨0, s, Nat.zero_le _, rfl, fun j h => absurd h (by omega), fun _ _ => rfl, hfb, hch⟩
        case round =>
          clear hfb hch
          obtain ⟨i, p, hi, rfl, hp1, hp2, hfb, hch⟩ := hrel
          have HP1 := Lib.hid hp1
          have HP2 := Lib.hid hp2
          clear hp1 hp2
          by_cases hlt : i < n
          · have hpi := HP2.out i (Nat.le_refl _)
            have hc : wr.cell? ⟨g, i, none⟩ = some (.string (s i)) := by have h := hfb.cell i hlt; rw [hpi] at h; exact h
            have HSI := Lib.hid (HS.out.num i hlt)
            have hsz : (s i).size ≤ n * k + 1 + k := Is_size HSI.out _ (HS.out.lN i hlt)
            obtain ⟨x, HX⟩ := name_it (s i)
            rw [HX.out] at hc HSI hsz
            clear hpi
            have i1 : (0 : Int) ≤ (i : Int) := by omega
            have i2 : (i : Int) < (n : Int) := by omega
            go_wp2_with fail
            refine (multiply_any ft x _ (by omega) (by omega)).mono ?_
            rintro e w5 ⟨y, rfl, hy, c5⟩
            have HY : Hid (Is y (tn * N i)) := Lib.hid (by rw [Is_val HFT.out, Is_val HSI.out] at hy; exact hy)
            replace hfb := hfb.keep0 c5
            replace hch := hch.then c5
            clear c5 hy hc
            have hc := hfb.cell i hlt
            have hcf := hfb.frz i hlt
            have sF : Fb (w5.setCell ⟨g, i, none⟩ (.string y)) g n (fun j => .string (upd p i y j)) := hfb.store hlt (.string y) _ (by simp only [upd_at]) (fun t _ e => by simp only [upd_ne _ _ e])
            have sch := hch.setCell (p := ⟨g, i, none⟩) (.inr hgw) (.string y)
            have HN1 : Hid (∀ j, j < i + 1 → Is (upd p i y j) (tn * N j)) := Lib.hid fun j hj => by
              by_cases e : j = i
              · subst e; rw [upd_at]; exact HY.out
              · rw [upd_ne _ _ e]; exact HP1.out j (by omega)
            have HN2 : Hid (∀ j, i + 1 ≤ j → upd p i y j = s j) := Lib.hid fun j hj => by
              rw [upd_ne _ _ (by omega)]; exact HP2.out j (by omega)
            clear hfb hch hsz
            go_wp2_with fail
            go_roundw
            case rel => exact ⟨i + 1, upd p i y, by omega, by go_num, HN1.out, HN2.out, sF, sch⟩
            case measure => simp [intOf]; omega
          · obtain rfl : i = n := by omega
            have hlt2 : ∀ j, j < i → tn * N j < 256 ^ (i * k + 1 + k + 8) := fun j hj => by
              have h1 := HS.out.lN j hj
              have h2 : tn < 256 ^ 8 := Nat.lt_of_lt_of_le (Nat.lt_succ_of_le (show tn ≤ 9223372036854775807 by omega)) (by decide)
              rw [Nat.pow_add, Nat.mul_comm]
              exact Nat.mul_lt_mul'' h1 h2
            have hw9 := hch.size
            go_wp2_with fail
            refine (rounded_any p (fun j => tn * N j) u (apS N i) i (i * k + 1 + k + 8) g i _ hm HP1.out hlt2 (by omega) HU.out (Nat.pos_of_ne_zero HS0.out) (Nat.lt_of_lt_of_le HBW.out (pow_le256 (by omega))) hfb).mono ?_
            intro e w6 hr
            have HR := Lib.hid hr
            clear hr
            have hch6 := hch.then HR.out.ch
            obtain ⟨h, rfl, hh, hfb2⟩ := HR.out.good (split_ok HS0.out (by omega))
            clear hlt2
            go_wp2_with fail
            go_ret2
            exact ⟨fun h => absurd HC0.out h, fun _ h => absurd h (by omega), fun _ _ => ⟨N, D, ⟨HS.out.pos, HS.out.eq⟩, fun h => absurd h HS0.out, fun _ => ⟨h, rfl, by omega, by simpa using hfb2⟩⟩, hch6⟩
  · obtain ⟨c, HC⟩ := name_it (chkA xs)
    rw [HC.out] at HCK hc0
    have d1 : (c == 0) = false := by simp; exact hc0
    have HC1 := Lib.hid hc0
    clear hn hf hc0
    go_enter Try.func12, Try.ntmps12
    go_wp2_with (go_at_call 24; (with_reducible refine (HCK.out _ hx).mono ?_); rintro e w1 ⟨rfl, c1⟩; replace hch := hch.then c1; clear c1)
    go_ret2
    exact ⟨fun _ => by rw [HC.out]; rfl, fun h => absurd (HC.out.symm.trans h) HC1.out, fun h => absurd (HC.out.symm.trans h) HC1.out, hch⟩
end Go.Proofs.Ytdlejpaaoinokaa
