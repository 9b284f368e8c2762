/-
  Interest: checkTerms, the reference's interval.
-/
import Derived.Test.YtcfejphpflafiaaIX3
namespace Go.Proofs.Ytcfejphpflafiaa
open Go.RowKit Nd

/-- The error of the arguments of simple interest, the principal p. -/
def intvE (p : Rat) (L : Stp) (f t b n : Int) : Int := if chk L = 0 then (if isd f = false ∨ isd t = false ∨ (b ≠ 360 ∧ b ≠ 365) ∨ n < 1 then 1 else if t < f then 15 else if sg p < 0 then 7 else 0) else chk L
/-- The error of the arguments of compound interest. -/
def termsE (p : Rat) (L : Stp) (f t b n : Int) : Int := if intvE p L f t b n = 0 then (if 64 < perN (t - f) n then 2 else 0) else intvE p L f t b n
section
variable {p : Rat} {L : Stp} {f t b n : Int}
theorem intv_chk (h : chk L ≠ 0) : intvE p L f t b n = chk L := by unfold intvE; rw [if_neg h]
theorem intv_rng (h : chk L = 0) (h2 : isd f = false ∨ isd t = false ∨ (b ≠ 360 ∧ b ≠ 365) ∨ n < 1) : intvE p L f t b n = 1 := by unfold intvE; rw [if_pos h, if_pos h2]
theorem intv_else (h : chk L = 0) (h1 : isd f = true) (h2 : isd t = true) (h3 : b = 360 ∨ b = 365) (h4 : 1 ≤ n) : intvE p L f t b n = if t < f then 15 else if sg p < 0 then 7 else 0 := by
  unfold intvE; rw [if_pos h, if_neg]
  rw [h1, h2]; rintro (h | h | h | h)
  · cases h
  · cases h
  · omega
  · omega
theorem intv_ok (h : intvE p L f t b n = 0) : chk L = 0 ∧ isd f = true ∧ isd t = true ∧ (b = 360 ∨ b = 365) ∧ 1 ≤ n ∧ f ≤ t ∧ ¬ sg p < 0 := by
  unfold intvE at h
  by_cases h0 : chk L = 0
  · rw [if_pos h0] at h
    by_cases h1 : isd f = false ∨ isd t = false ∨ (b ≠ 360 ∧ b ≠ 365) ∨ n < 1
    · rw [if_pos h1] at h; exact absurd h (by decide)
    · rw [if_neg h1] at h
      by_cases h2 : t < f
      · rw [if_pos h2] at h; exact absurd h (by decide)
      · rw [if_neg h2] at h
        by_cases h3 : sg p < 0
        · rw [if_pos h3] at h; exact absurd h (by decide)
        · refine ⟨h0, ?_, ?_, ?_, ?_, by omega, h3⟩
          · cases hd : isd f with
            | true => rfl
            | false => exact absurd (.inl hd) h1
          · cases hd : isd t with
            | true => rfl
            | false => exact absurd (.inr (.inl hd)) h1
          · by_cases e1 : b = 360
            · exact .inl e1
            · by_cases e2 : b = 365
              · exact .inr e2
              · exact absurd (.inr (.inr (.inl ⟨e1, e2⟩))) h1
          · by_cases e : n < 1
            · exact absurd (.inr (.inr (.inr e))) h1
            · omega
  · rw [if_neg h0] at h; exact absurd h h0
theorem terms_of (h : intvE p L f t b n ≠ 0) : termsE p L f t b n = intvE p L f t b n := by unfold termsE; rw [if_neg h]
theorem terms_at (h : intvE p L f t b n = 0) : termsE p L f t b n = if 64 < perN (t - f) n then 2 else 0 := by unfold termsE; rw [if_pos h]
end

set_option maxRecDepth 20000 in
set_option maxHeartbeats 4000000 in
theorem terms_any (x : Q3) (p : Rat) (kp : Nat) (l : List St) (f t b n : Int) (m k : Nat) (A : Option Addr) (cap : Nat) (w : World) (hp : Num x p kp) (hkp : kp ≤ 34359738367) (hn : l.length = m) (hm : m ≤ 1000000000) (hf : Fits l k) (hn2 : n ≤ 9223372036854775807) (hx : Sds w A l) :
    Calls Try.prog 50 #[.agg #[.bool x.neg, .string x.num, .string x.den], .slice A m cap, .int .i64 f, .int .i64 t, .int .i64 b, .int .i64 n] w fun e w' => e = .returned (.int .i64 (termsE p (slQ l) f t b n)) ∧ Chg [] w w' := by
  have b1 := Blk3.alloc w (.bool x.neg) (.string x.num) (.string x.den) 29
  have hch : Chg [] w (w.alloc (.cells #[.bool x.neg, .string x.num, .string x.den] 29)) := (Chg.refl _ _).alloc _
  have hx1 := hx.keep0 hch
  have HCK := Lib.hid (fun w h => check_any l m k A cap w hn hm hf h)
  have HSN := Lib.hid (fun w => SignN x p kp w hp hkp)
  obtain ⟨r, HR⟩ := name_it (termsE p (slQ l) f t b n)
  rw [HR.out]
  obtain ⟨s, HS⟩ := name_it (sg p)
  rw [HS.out] at HSN
  obtain ⟨c, HC⟩ := name_it (chk (slQ l))
  rw [HC.out] at HCK
  clear hn hf hx hp
  by_cases hc0 : c = 0
  · subst hc0
    cases hdf : isd f with
    | false =>
      have hr : r = 1 := by rw [← HR.out, terms_of (by rw [intv_rng HC.out (.inl hdf)]; decide), intv_rng HC.out (.inl hdf)]
      subst hr
      have HDF := Lib.hid hdf
      clear hdf HR HC HSN
      go_enter Try.func50, Try.ntmps50
      go_wp2_with (first
        | (go_at_call 14; (with_reducible refine (HCK.out _ hx1).mono ?_); rintro e w1 ⟨rfl, c1⟩; replace b1 := b1.keep c1 (by simp); replace hch := hch.then c1; clear c1; have b1c0 := b1.c0; have b1c1 := b1.c1; have b1c2 := b1.c2)
        | (go_at_call 33; (with_reducible refine (isDay_any f _ false HDF.out).mono ?_); rintro e w' ⟨rfl, hw⟩; obtain rfl := hw.symm; clear hw))
      go_ret
      exact ⟨rfl, hch⟩
    | true =>
      have HDF := Lib.hid hdf
      cases hdt : isd t with
      | false =>
        have hr : r = 1 := by rw [← HR.out, terms_of (by rw [intv_rng HC.out (.inr (.inl hdt))]; decide), intv_rng HC.out (.inr (.inl hdt))]
        subst hr
        have HDT := Lib.hid hdt
        clear hdf hdt HR HC HSN
        go_enter Try.func50, Try.ntmps50
        go_wp2_with (first
          | (go_at_call 14; (with_reducible refine (HCK.out _ hx1).mono ?_); rintro e w1 ⟨rfl, c1⟩; replace b1 := b1.keep c1 (by simp); replace hch := hch.then c1; clear c1; have b1c0 := b1.c0; have b1c1 := b1.c1; have b1c2 := b1.c2)
          | (go_at_call 33; (with_reducible refine (isDay_any f _ true HDF.out).mono ?_); rintro e w' ⟨rfl, hw⟩; obtain rfl := hw.symm; clear hw)
          | (go_at_call 33; (with_reducible refine (isDay_any t _ false HDT.out).mono ?_); rintro e w' ⟨rfl, hw⟩; obtain rfl := hw.symm; clear hw))
        go_ret
        exact ⟨rfl, hch⟩
      | true =>
        have HDT := Lib.hid hdt
        by_cases hb : b = 360 ∨ b = 365
        · by_cases hn1 : n < 1
          · have hr : r = 1 := by rw [← HR.out, terms_of (by rw [intv_rng HC.out (.inr (.inr (.inr hn1)))]; decide), intv_rng HC.out (.inr (.inr (.inr hn1)))]
            subst hr
            clear hdf hdt HR HC HSN
            rcases hb with rfl | rfl
            · go_enter Try.func50, Try.ntmps50
              go_wp2_with (first
                | (go_at_call 14; (with_reducible refine (HCK.out _ hx1).mono ?_); rintro e w1 ⟨rfl, c1⟩; replace b1 := b1.keep c1 (by simp); replace hch := hch.then c1; clear c1; have b1c0 := b1.c0; have b1c1 := b1.c1; have b1c2 := b1.c2)
                | (go_at_call 33; (with_reducible refine (isDay_any f _ true HDF.out).mono ?_); rintro e w' ⟨rfl, hw⟩; obtain rfl := hw.symm; clear hw)
                | (go_at_call 33; (with_reducible refine (isDay_any t _ true HDT.out).mono ?_); rintro e w' ⟨rfl, hw⟩; obtain rfl := hw.symm; clear hw))
              go_ret
              exact ⟨rfl, hch⟩
            · go_enter Try.func50, Try.ntmps50
              go_wp2_with (first
                | (go_at_call 14; (with_reducible refine (HCK.out _ hx1).mono ?_); rintro e w1 ⟨rfl, c1⟩; replace b1 := b1.keep c1 (by simp); replace hch := hch.then c1; clear c1; have b1c0 := b1.c0; have b1c1 := b1.c1; have b1c2 := b1.c2)
                | (go_at_call 33; (with_reducible refine (isDay_any f _ true HDF.out).mono ?_); rintro e w' ⟨rfl, hw⟩; obtain rfl := hw.symm; clear hw)
                | (go_at_call 33; (with_reducible refine (isDay_any t _ true HDT.out).mono ?_); rintro e w' ⟨rfl, hw⟩; obtain rfl := hw.symm; clear hw))
              go_ret
              exact ⟨rfl, hch⟩
          · have d3 : 1 ≤ n := by omega
            have HE : Hid (intvE p (slQ l) f t b n = if t < f then 15 else if s < 0 then 7 else 0) := Lib.hid (by rw [intv_else HC.out hdf hdt hb (by omega), HS.out])
            obtain ⟨f1, f2⟩ := isd_yes hdf
            obtain ⟨t1, t2⟩ := isd_yes hdt
            clear hdf hdt HC
            by_cases hlt : t < f
            · have e1 : intvE p (slQ l) f t b n = 15 := by rw [HE.out, if_pos hlt]
              have hr : r = 15 := by rw [← HR.out, terms_of (by rw [e1]; decide), e1]
              subst hr
              have d4 : decide (t < f) = true := decide_eq_true hlt
              clear HE e1 HR HSN hn1 hlt
              rcases hb with rfl | rfl
              · go_enter Try.func50, Try.ntmps50
                go_wp2_with (first
                  | (go_at_call 14; (with_reducible refine (HCK.out _ hx1).mono ?_); rintro e w1 ⟨rfl, c1⟩; replace b1 := b1.keep c1 (by simp); replace hch := hch.then c1; clear c1; have b1c0 := b1.c0; have b1c1 := b1.c1; have b1c2 := b1.c2)
                  | (go_at_call 33; (with_reducible refine (isDay_any f _ true HDF.out).mono ?_); rintro e w' ⟨rfl, hw⟩; obtain rfl := hw.symm; clear hw)
                  | (go_at_call 33; (with_reducible refine (isDay_any t _ true HDT.out).mono ?_); rintro e w' ⟨rfl, hw⟩; obtain rfl := hw.symm; clear hw))
                go_ret
                exact ⟨rfl, hch⟩
              · go_enter Try.func50, Try.ntmps50
                go_wp2_with (first
                  | (go_at_call 14; (with_reducible refine (HCK.out _ hx1).mono ?_); rintro e w1 ⟨rfl, c1⟩; replace b1 := b1.keep c1 (by simp); replace hch := hch.then c1; clear c1; have b1c0 := b1.c0; have b1c1 := b1.c1; have b1c2 := b1.c2)
                  | (go_at_call 33; (with_reducible refine (isDay_any f _ true HDF.out).mono ?_); rintro e w' ⟨rfl, hw⟩; obtain rfl := hw.symm; clear hw)
                  | (go_at_call 33; (with_reducible refine (isDay_any t _ true HDT.out).mono ?_); rintro e w' ⟨rfl, hw⟩; obtain rfl := hw.symm; clear hw))
                go_ret
                exact ⟨rfl, hch⟩
            · have d4 : decide (t < f) = false := decide_eq_false hlt
              by_cases hs : s < 0
              · have e1 : intvE p (slQ l) f t b n = 7 := by rw [HE.out, if_neg hlt, if_pos hs]
                have hr : r = 7 := by rw [← HR.out, terms_of (by rw [e1]; decide), e1]
                subst hr
                have d5 : decide (s < 0) = true := decide_eq_true hs
                clear HE e1 HR hn1 hlt hs HS
                rcases hb with rfl | rfl
                · go_enter Try.func50, Try.ntmps50
                  go_wp2_with (first
                    | (go_at_call 14; (with_reducible refine (HCK.out _ hx1).mono ?_); rintro e w1 ⟨rfl, c1⟩; replace b1 := b1.keep c1 (by simp); replace hch := hch.then c1; clear c1; have b1c0 := b1.c0; have b1c1 := b1.c1; have b1c2 := b1.c2)
                    | (go_at_call 33; (with_reducible refine (isDay_any f _ true HDF.out).mono ?_); rintro e w' ⟨rfl, hw⟩; obtain rfl := hw.symm; clear hw)
                    | (go_at_call 33; (with_reducible refine (isDay_any t _ true HDT.out).mono ?_); rintro e w' ⟨rfl, hw⟩; obtain rfl := hw.symm; clear hw)
                    | (go_at_call 34; (with_reducible refine (HSN.out _).mono ?_); rintro e w2 ⟨rfl, c2⟩; replace hch := hch.then c2; clear c2))
                  go_ret
                  exact ⟨rfl, hch⟩
                · go_enter Try.func50, Try.ntmps50
                  go_wp2_with (first
                    | (go_at_call 14; (with_reducible refine (HCK.out _ hx1).mono ?_); rintro e w1 ⟨rfl, c1⟩; replace b1 := b1.keep c1 (by simp); replace hch := hch.then c1; clear c1; have b1c0 := b1.c0; have b1c1 := b1.c1; have b1c2 := b1.c2)
                    | (go_at_call 33; (with_reducible refine (isDay_any f _ true HDF.out).mono ?_); rintro e w' ⟨rfl, hw⟩; obtain rfl := hw.symm; clear hw)
                    | (go_at_call 33; (with_reducible refine (isDay_any t _ true HDT.out).mono ?_); rintro e w' ⟨rfl, hw⟩; obtain rfl := hw.symm; clear hw)
                    | (go_at_call 34; (with_reducible refine (HSN.out _).mono ?_); rintro e w2 ⟨rfl, c2⟩; replace hch := hch.then c2; clear c2))
                  go_ret
                  exact ⟨rfl, hch⟩
              · have e1 : intvE p (slQ l) f t b n = 0 := by rw [HE.out, if_neg hlt, if_neg hs]
                have d5 : decide (s < 0) = false := decide_eq_false hs
                have HPE := Lib.hid (fun w => periods_any (t - f) n w (by omega) (by omega) (by omega) hn2)
                have hrr : r = if 64 < perN (t - f) n then 2 else 0 := by rw [← HR.out, terms_at e1]
                obtain ⟨N, HNN⟩ := name_it (perN (t - f) n)
                rw [HNN.out] at HPE hrr
                have hw64 : wrap64 (t - f) = t - f := by unfold wrap64; omega
                clear HE e1 HR hn1 hlt hs HS
                by_cases h64 : 64 < N
                · rw [if_pos h64] at hrr
                  subst hrr
                  have d6 : decide (64 < N) = true := decide_eq_true h64
                  clear h64
                  rcases hb with rfl | rfl
                  · go_enter Try.func50, Try.ntmps50
                    go_wp2_with (first
                      | (go_at_call 14; (with_reducible refine (HCK.out _ hx1).mono ?_); rintro e w1 ⟨rfl, c1⟩; replace b1 := b1.keep c1 (by simp); replace hch := hch.then c1; clear c1; have b1c0 := b1.c0; have b1c1 := b1.c1; have b1c2 := b1.c2)
                      | (go_at_call 33; (with_reducible refine (isDay_any f _ true HDF.out).mono ?_); rintro e w' ⟨rfl, hw⟩; obtain rfl := hw.symm; clear hw)
                      | (go_at_call 33; (with_reducible refine (isDay_any t _ true HDT.out).mono ?_); rintro e w' ⟨rfl, hw⟩; obtain rfl := hw.symm; clear hw)
                      | (go_at_call 34; (with_reducible refine (HSN.out _).mono ?_); rintro e w2 ⟨rfl, c2⟩; replace hch := hch.then c2; clear c2)
                      | (go_at_call 75; (with_reducible refine (HPE.out _).mono ?_); rintro e w3 ⟨rfl, c3⟩; replace hch := hch.then c3; clear c3))
                    go_ret
                    exact ⟨rfl, hch⟩
                  · go_enter Try.func50, Try.ntmps50
                    go_wp2_with (first
                      | (go_at_call 14; (with_reducible refine (HCK.out _ hx1).mono ?_); rintro e w1 ⟨rfl, c1⟩; replace b1 := b1.keep c1 (by simp); replace hch := hch.then c1; clear c1; have b1c0 := b1.c0; have b1c1 := b1.c1; have b1c2 := b1.c2)
                      | (go_at_call 33; (with_reducible refine (isDay_any f _ true HDF.out).mono ?_); rintro e w' ⟨rfl, hw⟩; obtain rfl := hw.symm; clear hw)
                      | (go_at_call 33; (with_reducible refine (isDay_any t _ true HDT.out).mono ?_); rintro e w' ⟨rfl, hw⟩; obtain rfl := hw.symm; clear hw)
                      | (go_at_call 34; (with_reducible refine (HSN.out _).mono ?_); rintro e w2 ⟨rfl, c2⟩; replace hch := hch.then c2; clear c2)
                      | (go_at_call 75; (with_reducible refine (HPE.out _).mono ?_); rintro e w3 ⟨rfl, c3⟩; replace hch := hch.then c3; clear c3))
                    go_ret
                    exact ⟨rfl, hch⟩
                · rw [if_neg h64] at hrr
                  subst hrr
                  have d6 : decide (64 < N) = false := decide_eq_false h64
                  clear h64
                  rcases hb with rfl | rfl
                  · go_enter Try.func50, Try.ntmps50
                    go_wp2_with (first
                      | (go_at_call 14; (with_reducible refine (HCK.out _ hx1).mono ?_); rintro e w1 ⟨rfl, c1⟩; replace b1 := b1.keep c1 (by simp); replace hch := hch.then c1; clear c1; have b1c0 := b1.c0; have b1c1 := b1.c1; have b1c2 := b1.c2)
                      | (go_at_call 33; (with_reducible refine (isDay_any f _ true HDF.out).mono ?_); rintro e w' ⟨rfl, hw⟩; obtain rfl := hw.symm; clear hw)
                      | (go_at_call 33; (with_reducible refine (isDay_any t _ true HDT.out).mono ?_); rintro e w' ⟨rfl, hw⟩; obtain rfl := hw.symm; clear hw)
                      | (go_at_call 34; (with_reducible refine (HSN.out _).mono ?_); rintro e w2 ⟨rfl, c2⟩; replace hch := hch.then c2; clear c2)
                      | (go_at_call 75; (with_reducible refine (HPE.out _).mono ?_); rintro e w3 ⟨rfl, c3⟩; replace hch := hch.then c3; clear c3))
                    go_ret
                    exact ⟨rfl, hch⟩
                  · go_enter Try.func50, Try.ntmps50
                    go_wp2_with (first
                      | (go_at_call 14; (with_reducible refine (HCK.out _ hx1).mono ?_); rintro e w1 ⟨rfl, c1⟩; replace b1 := b1.keep c1 (by simp); replace hch := hch.then c1; clear c1; have b1c0 := b1.c0; have b1c1 := b1.c1; have b1c2 := b1.c2)
                      | (go_at_call 33; (with_reducible refine (isDay_any f _ true HDF.out).mono ?_); rintro e w' ⟨rfl, hw⟩; obtain rfl := hw.symm; clear hw)
                      | (go_at_call 33; (with_reducible refine (isDay_any t _ true HDT.out).mono ?_); rintro e w' ⟨rfl, hw⟩; obtain rfl := hw.symm; clear hw)
                      | (go_at_call 34; (with_reducible refine (HSN.out _).mono ?_); rintro e w2 ⟨rfl, c2⟩; replace hch := hch.then c2; clear c2)
                      | (go_at_call 75; (with_reducible refine (HPE.out _).mono ?_); rintro e w3 ⟨rfl, c3⟩; replace hch := hch.then c3; clear c3))
                    go_ret
                    exact ⟨rfl, hch⟩
        · have hr : r = 1 := by rw [← HR.out, terms_of (by rw [intv_rng HC.out (.inr (.inr (.inl (by omega))))]; decide), intv_rng HC.out (.inr (.inr (.inl (by omega))))]
          subst hr
          have d3 : decide (b = 360) = false := decide_eq_false (by omega)
          have d4 : decide (b = 365) = false := decide_eq_false (by omega)
          have d5 : (b == 360) = false := by simp; omega
          have d6 : (b == 365) = false := by simp; omega
          have d7 : ¬ b = 360 := by omega
          have d8 : ¬ b = 365 := by omega
          clear hdf hdt HR HC HSN hb
          go_enter Try.func50, Try.ntmps50
          go_wp2_with (first
            | (go_at_call 14; (with_reducible refine (HCK.out _ hx1).mono ?_); rintro e w1 ⟨rfl, c1⟩; replace b1 := b1.keep c1 (by simp); replace hch := hch.then c1; clear c1; have b1c0 := b1.c0; have b1c1 := b1.c1; have b1c2 := b1.c2)
            | (go_at_call 33; (with_reducible refine (isDay_any f _ true HDF.out).mono ?_); rintro e w' ⟨rfl, hw⟩; obtain rfl := hw.symm; clear hw)
            | (go_at_call 33; (with_reducible refine (isDay_any t _ true HDT.out).mono ?_); rintro e w' ⟨rfl, hw⟩; obtain rfl := hw.symm; clear hw))
          go_ret
          exact ⟨rfl, hch⟩
  · have hr : r = c := by rw [← HR.out, terms_of (by rw [intv_chk (by rw [HC.out]; exact hc0), HC.out]; exact hc0), intv_chk (by rw [HC.out]; exact hc0), HC.out]
    subst hr
    have d1 : (r == 0) = false := by simp; exact hc0
    clear HR HC hc0 HSN
    go_enter Try.func50, Try.ntmps50
    go_wp2_with (first
      | (go_at_call 14; (with_reducible refine (HCK.out _ hx1).mono ?_); rintro e w1 ⟨rfl, c1⟩; replace b1 := b1.keep c1 (by simp); replace hch := hch.then c1; clear c1; have b1c0 := b1.c0; have b1c1 := b1.c1; have b1c2 := b1.c2))
    go_ret
    exact ⟨rfl, hch⟩

set_option maxRecDepth 20000 in
set_option maxHeartbeats 4000000 in
theorem intv_any (x : Q3) (p : Rat) (kp : Nat) (l : List St) (f t b n : Int) (m k : Nat) (A : Option Addr) (cap : Nat) (w : World) (hp : Num x p kp) (hkp : kp ≤ 34359738367) (hn : l.length = m) (hm : m ≤ 1000000000) (hf : Fits l k) (hn2 : n ≤ 9223372036854775807) (hx : Sds w A l) :
    Calls Try.prog 38 #[.agg #[.bool x.neg, .string x.num, .string x.den], .slice A m cap, .int .i64 f, .int .i64 t, .int .i64 b, .int .i64 n] w fun e w' => e = .returned (.int .i64 (intvE p (slQ l) f t b n)) ∧ Chg [] w w' := by
  have b1 := Blk3.alloc w (.bool x.neg) (.string x.num) (.string x.den) 29
  have hch : Chg [] w (w.alloc (.cells #[.bool x.neg, .string x.num, .string x.den] 29)) := (Chg.refl _ _).alloc _
  have hx1 := hx.keep0 hch
  have HCK := Lib.hid (fun w h => rcheck_any l m k A cap w hn hm hf h)
  have HSN := Lib.hid (fun w => rSignN x p kp w hp hkp)
  obtain ⟨r, HR⟩ := name_it (intvE p (slQ l) f t b n)
  rw [HR.out]
  obtain ⟨s, HS⟩ := name_it (sg p)
  rw [HS.out] at HSN
  obtain ⟨c, HC⟩ := name_it (chk (slQ l))
  rw [HC.out] at HCK
  clear hn hf hx hp
  by_cases hc0 : c = 0
  · subst hc0
    cases hdf : isd f with
    | false =>
      have hr : r = 1 := by rw [← HR.out, intv_rng HC.out (.inl hdf)]
      subst hr
      have HDF := Lib.hid hdf
      clear hdf HR HC HSN
      go_enter Try.func38, Try.ntmps38
      go_wp2_with (first
        | (go_at_call 15; (with_reducible refine (HCK.out _ hx1).mono ?_); rintro e w1 ⟨rfl, c1⟩; replace b1 := b1.keep c1 (by simp); replace hch := hch.then c1; clear c1; have b1c0 := b1.c0; have b1c1 := b1.c1; have b1c2 := b1.c2)
        | (go_at_call 27; (with_reducible refine (rIsDay_any f _ false HDF.out).mono ?_); rintro e w' ⟨rfl, hw⟩; obtain rfl := hw.symm; clear hw))
      go_ret
      exact ⟨rfl, hch⟩
    | true =>
      have HDF := Lib.hid hdf
      cases hdt : isd t with
      | false =>
        have hr : r = 1 := by rw [← HR.out, intv_rng HC.out (.inr (.inl hdt))]
        subst hr
        have HDT := Lib.hid hdt
        clear hdf hdt HR HC HSN
        go_enter Try.func38, Try.ntmps38
        go_wp2_with (first
          | (go_at_call 15; (with_reducible refine (HCK.out _ hx1).mono ?_); rintro e w1 ⟨rfl, c1⟩; replace b1 := b1.keep c1 (by simp); replace hch := hch.then c1; clear c1; have b1c0 := b1.c0; have b1c1 := b1.c1; have b1c2 := b1.c2)
          | (go_at_call 27; (with_reducible refine (rIsDay_any f _ true HDF.out).mono ?_); rintro e w' ⟨rfl, hw⟩; obtain rfl := hw.symm; clear hw)
          | (go_at_call 27; (with_reducible refine (rIsDay_any t _ false HDT.out).mono ?_); rintro e w' ⟨rfl, hw⟩; obtain rfl := hw.symm; clear hw))
        go_ret
        exact ⟨rfl, hch⟩
      | true =>
        have HDT := Lib.hid hdt
        by_cases hb : b = 360 ∨ b = 365
        · by_cases hn1 : n < 1
          · have hr : r = 1 := by rw [← HR.out, intv_rng HC.out (.inr (.inr (.inr hn1)))]
            subst hr
            clear hdf hdt HR HC HSN
            rcases hb with rfl | rfl
            · go_enter Try.func38, Try.ntmps38
              go_wp2_with (first
                | (go_at_call 15; (with_reducible refine (HCK.out _ hx1).mono ?_); rintro e w1 ⟨rfl, c1⟩; replace b1 := b1.keep c1 (by simp); replace hch := hch.then c1; clear c1; have b1c0 := b1.c0; have b1c1 := b1.c1; have b1c2 := b1.c2)
                | (go_at_call 27; (with_reducible refine (rIsDay_any f _ true HDF.out).mono ?_); rintro e w' ⟨rfl, hw⟩; obtain rfl := hw.symm; clear hw)
                | (go_at_call 27; (with_reducible refine (rIsDay_any t _ true HDT.out).mono ?_); rintro e w' ⟨rfl, hw⟩; obtain rfl := hw.symm; clear hw))
              go_ret
              exact ⟨rfl, hch⟩
            · go_enter Try.func38, Try.ntmps38
              go_wp2_with (first
                | (go_at_call 15; (with_reducible refine (HCK.out _ hx1).mono ?_); rintro e w1 ⟨rfl, c1⟩; replace b1 := b1.keep c1 (by simp); replace hch := hch.then c1; clear c1; have b1c0 := b1.c0; have b1c1 := b1.c1; have b1c2 := b1.c2)
                | (go_at_call 27; (with_reducible refine (rIsDay_any f _ true HDF.out).mono ?_); rintro e w' ⟨rfl, hw⟩; obtain rfl := hw.symm; clear hw)
                | (go_at_call 27; (with_reducible refine (rIsDay_any t _ true HDT.out).mono ?_); rintro e w' ⟨rfl, hw⟩; obtain rfl := hw.symm; clear hw))
              go_ret
              exact ⟨rfl, hch⟩
          · have d3 : 1 ≤ n := by omega
            have HE : Hid (intvE p (slQ l) f t b n = if t < f then 15 else if s < 0 then 7 else 0) := Lib.hid (by rw [intv_else HC.out hdf hdt hb (by omega), HS.out])
            obtain ⟨f1, f2⟩ := isd_yes hdf
            obtain ⟨t1, t2⟩ := isd_yes hdt
            clear hdf hdt HC
            by_cases hlt : t < f
            · have e1 : intvE p (slQ l) f t b n = 15 := by rw [HE.out, if_pos hlt]
              have hr : r = 15 := by rw [← HR.out, e1]
              subst hr
              have d4 : decide (t < f) = true := decide_eq_true hlt
              clear HE e1 HR HSN hn1 hlt
              rcases hb with rfl | rfl
              · go_enter Try.func38, Try.ntmps38
                go_wp2_with (first
                  | (go_at_call 15; (with_reducible refine (HCK.out _ hx1).mono ?_); rintro e w1 ⟨rfl, c1⟩; replace b1 := b1.keep c1 (by simp); replace hch := hch.then c1; clear c1; have b1c0 := b1.c0; have b1c1 := b1.c1; have b1c2 := b1.c2)
                  | (go_at_call 27; (with_reducible refine (rIsDay_any f _ true HDF.out).mono ?_); rintro e w' ⟨rfl, hw⟩; obtain rfl := hw.symm; clear hw)
                  | (go_at_call 27; (with_reducible refine (rIsDay_any t _ true HDT.out).mono ?_); rintro e w' ⟨rfl, hw⟩; obtain rfl := hw.symm; clear hw))
                go_ret
                exact ⟨rfl, hch⟩
              · go_enter Try.func38, Try.ntmps38
                go_wp2_with (first
                  | (go_at_call 15; (with_reducible refine (HCK.out _ hx1).mono ?_); rintro e w1 ⟨rfl, c1⟩; replace b1 := b1.keep c1 (by simp); replace hch := hch.then c1; clear c1; have b1c0 := b1.c0; have b1c1 := b1.c1; have b1c2 := b1.c2)
                  | (go_at_call 27; (with_reducible refine (rIsDay_any f _ true HDF.out).mono ?_); rintro e w' ⟨rfl, hw⟩; obtain rfl := hw.symm; clear hw)
                  | (go_at_call 27; (with_reducible refine (rIsDay_any t _ true HDT.out).mono ?_); rintro e w' ⟨rfl, hw⟩; obtain rfl := hw.symm; clear hw))
                go_ret
                exact ⟨rfl, hch⟩
            · have d4 : decide (t < f) = false := decide_eq_false hlt
              by_cases hs : s < 0
              · have e1 : intvE p (slQ l) f t b n = 7 := by rw [HE.out, if_neg hlt, if_pos hs]
                have hr : r = 7 := by rw [← HR.out, e1]
                subst hr
                have d5 : decide (s < 0) = true := decide_eq_true hs
                clear HE e1 HR hn1 hlt hs HS
                rcases hb with rfl | rfl
                · go_enter Try.func38, Try.ntmps38
                  go_wp2_with (first
                    | (go_at_call 15; (with_reducible refine (HCK.out _ hx1).mono ?_); rintro e w1 ⟨rfl, c1⟩; replace b1 := b1.keep c1 (by simp); replace hch := hch.then c1; clear c1; have b1c0 := b1.c0; have b1c1 := b1.c1; have b1c2 := b1.c2)
                    | (go_at_call 27; (with_reducible refine (rIsDay_any f _ true HDF.out).mono ?_); rintro e w' ⟨rfl, hw⟩; obtain rfl := hw.symm; clear hw)
                    | (go_at_call 27; (with_reducible refine (rIsDay_any t _ true HDT.out).mono ?_); rintro e w' ⟨rfl, hw⟩; obtain rfl := hw.symm; clear hw)
                    | (go_at_call 35; (with_reducible refine (HSN.out _).mono ?_); rintro e w2 ⟨rfl, c2⟩; replace hch := hch.then c2; clear c2))
                  go_ret
                  exact ⟨rfl, hch⟩
                · go_enter Try.func38, Try.ntmps38
                  go_wp2_with (first
                    | (go_at_call 15; (with_reducible refine (HCK.out _ hx1).mono ?_); rintro e w1 ⟨rfl, c1⟩; replace b1 := b1.keep c1 (by simp); replace hch := hch.then c1; clear c1; have b1c0 := b1.c0; have b1c1 := b1.c1; have b1c2 := b1.c2)
                    | (go_at_call 27; (with_reducible refine (rIsDay_any f _ true HDF.out).mono ?_); rintro e w' ⟨rfl, hw⟩; obtain rfl := hw.symm; clear hw)
                    | (go_at_call 27; (with_reducible refine (rIsDay_any t _ true HDT.out).mono ?_); rintro e w' ⟨rfl, hw⟩; obtain rfl := hw.symm; clear hw)
                    | (go_at_call 35; (with_reducible refine (HSN.out _).mono ?_); rintro e w2 ⟨rfl, c2⟩; replace hch := hch.then c2; clear c2))
                  go_ret
                  exact ⟨rfl, hch⟩
              · have e1 : intvE p (slQ l) f t b n = 0 := by rw [HE.out, if_neg hlt, if_neg hs]
                have d5 : decide (s < 0) = false := decide_eq_false hs
                have hr : r = 0 := by rw [← HR.out, e1]
                subst hr
                clear HE e1 HR hn1 hlt hs HS
                rcases hb with rfl | rfl
                · go_enter Try.func38, Try.ntmps38
                  go_wp2_with (first
                    | (go_at_call 15; (with_reducible refine (HCK.out _ hx1).mono ?_); rintro e w1 ⟨rfl, c1⟩; replace b1 := b1.keep c1 (by simp); replace hch := hch.then c1; clear c1; have b1c0 := b1.c0; have b1c1 := b1.c1; have b1c2 := b1.c2)
                    | (go_at_call 27; (with_reducible refine (rIsDay_any f _ true HDF.out).mono ?_); rintro e w' ⟨rfl, hw⟩; obtain rfl := hw.symm; clear hw)
                    | (go_at_call 27; (with_reducible refine (rIsDay_any t _ true HDT.out).mono ?_); rintro e w' ⟨rfl, hw⟩; obtain rfl := hw.symm; clear hw)
                    | (go_at_call 35; (with_reducible refine (HSN.out _).mono ?_); rintro e w2 ⟨rfl, c2⟩; replace hch := hch.then c2; clear c2))
                  go_ret
                  exact ⟨rfl, hch⟩
                · go_enter Try.func38, Try.ntmps38
                  go_wp2_with (first
                    | (go_at_call 15; (with_reducible refine (HCK.out _ hx1).mono ?_); rintro e w1 ⟨rfl, c1⟩; replace b1 := b1.keep c1 (by simp); replace hch := hch.then c1; clear c1; have b1c0 := b1.c0; have b1c1 := b1.c1; have b1c2 := b1.c2)
                    | (go_at_call 27; (with_reducible refine (rIsDay_any f _ true HDF.out).mono ?_); rintro e w' ⟨rfl, hw⟩; obtain rfl := hw.symm; clear hw)
                    | (go_at_call 27; (with_reducible refine (rIsDay_any t _ true HDT.out).mono ?_); rintro e w' ⟨rfl, hw⟩; obtain rfl := hw.symm; clear hw)
                    | (go_at_call 35; (with_reducible refine (HSN.out _).mono ?_); rintro e w2 ⟨rfl, c2⟩; replace hch := hch.then c2; clear c2))
                  go_ret
                  exact ⟨rfl, hch⟩
        · have hr : r = 1 := by rw [← HR.out, intv_rng HC.out (.inr (.inr (.inl (by omega))))]
          subst hr
          have d3 : decide (b = 360) = false := decide_eq_false (by omega)
          have d4 : decide (b = 365) = false := decide_eq_false (by omega)
          have d5 : (b == 360) = false := by simp; omega
          have d6 : (b == 365) = false := by simp; omega
          have d7 : ¬ b = 360 := by omega
          have d8 : ¬ b = 365 := by omega
          clear hdf hdt HR HC HSN hb
          go_enter Try.func38, Try.ntmps38
          go_wp2_with (first
            | (go_at_call 15; (with_reducible refine (HCK.out _ hx1).mono ?_); rintro e w1 ⟨rfl, c1⟩; replace b1 := b1.keep c1 (by simp); replace hch := hch.then c1; clear c1; have b1c0 := b1.c0; have b1c1 := b1.c1; have b1c2 := b1.c2)
            | (go_at_call 27; (with_reducible refine (rIsDay_any f _ true HDF.out).mono ?_); rintro e w' ⟨rfl, hw⟩; obtain rfl := hw.symm; clear hw)
            | (go_at_call 27; (with_reducible refine (rIsDay_any t _ true HDT.out).mono ?_); rintro e w' ⟨rfl, hw⟩; obtain rfl := hw.symm; clear hw))
          go_ret
          exact ⟨rfl, hch⟩
  · have hr : r = c := by rw [← HR.out, intv_chk (by rw [HC.out]; exact hc0), HC.out]
    subst hr
    have d1 : (r == 0) = false := by simp; exact hc0
    clear HR HC hc0 HSN
    go_enter Try.func38, Try.ntmps38
    go_wp2_with (first
      | (go_at_call 15; (with_reducible refine (HCK.out _ hx1).mono ?_); rintro e w1 ⟨rfl, c1⟩; replace b1 := b1.keep c1 (by simp); replace hch := hch.then c1; clear c1; have b1c0 := b1.c0; have b1c1 := b1.c1; have b1c2 := b1.c2))
    go_ret
    exact ⟨rfl, hch⟩
end Go.Proofs.Ytcfejphpflafiaa
