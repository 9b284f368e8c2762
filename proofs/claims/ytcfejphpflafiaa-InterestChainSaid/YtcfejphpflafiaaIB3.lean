/-
  Interest: the steps that law 0 builds are valid; arguments without an error.
-/
import Derived.Test.YtcfejphpflafiaaIB2
import Derived.Test.YtcfejphpflafiaaIX9
import Derived.Test.YtcfejphpflafiaaIA0
namespace Go.Proofs.Ytcfejphpflafiaa
open Go.RowKit Nd

theorem fE_none {f : Nat → Int} : ∀ {n : Nat}, (∀ i, i < n → f i = 0) → fE f n = 0
  | 0, _ => rfl
  | n + 1, h => by
    simp only [fE]
    rw [if_pos (fE_none (fun i hi => h i (by omega))), h n (by omega)]
theorem asc_get : ∀ {L : Stp} {i : Nat}, Asc L → 0 < i → i < L.length → (L.getD (i - 1) (0, 0)).1 < (L.getD i (0, 0)).1
  | [], i, _, _, h => absurd h (by simp)
  | s :: ls, 1, ha, _, h => by
    cases ls with
    | nil => simp at h
    | cons x xs => exact ha.1 x (by simp)
  | s :: ls, i + 2, ha, _, h => by
    have := asc_get (L := ls) (i := i + 1) ha.2 (by omega) (by simp at h; omega)
    rw [show i + 2 - 1 = (i + 1 - 1) + 1 by omega, List.getD_cons_succ, show i + 2 = (i + 1) + 1 by omega, List.getD_cons_succ]
    exact this
theorem sg_nn2 {q : Rat} (h : 0 ≤ q) : ¬ sg q < 0 := by
  unfold sg
  rw [if_neg (Rat.not_lt.2 h)]
  split <;> omega
theorem good_chk {L : Stp} (h : Good L) : chk L = 0 := by
  unfold chk
  rw [if_neg (by have := h.len; omega)]
  refine fE_none fun i hi => ?_
  have hm : L.getD i (0, 0) ∈ L := by
    rw [List.getD_eq_getElem?_getD, List.getElem?_eq_getElem hi, Option.getD_some]; exact List.getElem_mem _
  unfold eAt
  have h1 : isd (L.getD i (0, 0)).1 = true := isd_of (h.day _ hm).1 (h.day _ hm).2
  rw [h1, if_neg (by simp), if_neg, if_neg (sg_nn2 (h.nn _ hm))]
  rintro ⟨h2, h3⟩
  have := asc_get h.asc h2 hi
  omega
theorem bld_good {L : List (Int × Int)} (hr : ∀ x ∈ L, (0 ≤ x.1 ∧ x.1 ≤ 65535) ∧ 0 ≤ x.2 ∧ x.2 ≤ 65535) : Good (bldQ r12 0 (L.take 5)) := by
  have h1 : ∀ x ∈ L.take 5, 0 ≤ x.1 := fun x hx => (hr x (List.mem_of_mem_take hx)).1.1
  have h2 : ∀ x ∈ L.take 5, 0 ≤ x.2 := fun x hx => (hr x (List.mem_of_mem_take hx)).2.1
  have h3 : (L.take 5).length ≤ 5 := by rw [List.length_take]; omega
  refine ⟨by rw [bldQ_length]; omega, bldQ_asc h1, fun y hy => ?_, fun y hy => bldQ_rate (P := fun q => 0 ≤ q) (fun k hk _ => r12_nn hk) h2 hy⟩
  have := bldQ_from h1 hy
  omega
theorem amtQ_nn {x : Int} (_ : 0 ≤ x) : 0 ≤ amtQ x := by
  unfold amtQ
  split
  · rw [frac_eq (by omega) (by omega)]
    exact div_nonneg' (by exact_mod_cast (by omega : (0 : Int) ≤ x / 5 % 23)) (by exact_mod_cast (by omega : (0 : Int) < 1 + x / 115 % 6))
  · split
    · exact_mod_cast (by omega : (0 : Int) ≤ 10 * (x / 5 % 4))
    · exact_mod_cast (by omega : (0 : Int) ≤ x / 5 % 13)
section
variable {p : Rat} {L : Stp} {f t b n : Int}
theorem intv_fine (h : Good L) (hf : 0 ≤ f) (hft : f ≤ t) (ht : t ≤ 1048576) (hb : b = 360 ∨ b = 365) (hn : 1 ≤ n) (hp : 0 ≤ p) : intvE p L f t b n = 0 := by
  rw [intv_else (good_chk h) (isd_of hf (by omega)) (isd_of (by omega) ht) hb hn, if_neg (by omega), if_neg (sg_nn2 hp)]
theorem sim_fine (h : Good L) (hf : 0 ≤ f) (hft : f ≤ t) (ht : t ≤ 1048576) (hb : b = 360 ∨ b = 365) (hp : 0 ≤ p) : simE p L f t b = 0 ∧ simV p L f t b = p * (accT L f t / (b : Rat)) := by
  have h0 : simE p L f t b = 0 := intv_fine h hf hft ht hb (by omega) hp
  exact ⟨h0, by unfold simV; rw [if_pos h0]⟩
theorem perN_iff (_ : 0 ≤ t - f) (hn : 1 ≤ n) : 64 < perN (t - f) n ↔ 64 * n < t - f := by
  unfold perN
  obtain ⟨m, hmm⟩ : ∃ m, t - f = m := ⟨_, rfl⟩
  rw [hmm]
  have h1 := Int.emod_add_mul_ediv m n
  have h2 := Int.emod_lt_of_pos m (show 0 < n by omega)
  have h3 := Int.emod_nonneg m (show n ≠ 0 by omega)
  obtain ⟨q, hq⟩ : ∃ q, m / n = q := ⟨_, rfl⟩
  obtain ⟨r, hr⟩ : ∃ r, m % n = r := ⟨_, rfl⟩
  rw [hr] at h2 h3
  rw [hr, hq] at h1
  rw [hr, hq]
  constructor
  · intro h
    by_cases h0 : 0 < r
    · rw [if_pos h0] at h
      have : n * 64 ≤ n * q := Int.mul_le_mul_of_nonneg_left (by omega) (by omega)
      omega
    · rw [if_neg h0] at h
      have : n * 65 ≤ n * q := Int.mul_le_mul_of_nonneg_left (by omega) (by omega)
      omega
  · intro h
    by_cases h4 : q ≤ 63
    · have : n * q ≤ n * 63 := Int.mul_le_mul_of_nonneg_left h4 (by omega)
      omega
    · by_cases h5 : q = 64
      · subst h5
        rw [if_pos (by omega)]; omega
      · split <;> omega
theorem cmp_fine (h : Good L) (hf : 0 ≤ f) (hft : f ≤ t) (ht : t ≤ 1048576) (hb : b = 360 ∨ b = 365) (hn : 1 ≤ n) (hp : 0 ≤ p) (h64 : t - f ≤ 64 * n) : termsE p L f t b n = 0 ∧ cmpV p L f t b n = p * (growth L (b : Rat) f t n - 1) := by
  have h0 : termsE p L f t b n = 0 := by
    rw [terms_at (intv_fine h hf hft ht hb hn hp), if_neg (by rw [perN_iff (by omega) hn]; omega)]
  exact ⟨h0, by unfold cmpV; rw [if_pos h0]⟩
theorem cmp_long (h : Good L) (hf : 0 ≤ f) (hft : f ≤ t) (ht : t ≤ 1048576) (hb : b = 360 ∨ b = 365) (hn : 1 ≤ n) (hp : 0 ≤ p) (h64 : 64 * n < t - f) : termsE p L f t b n = 2 ∧ cmpV p L f t b n = 0 := by
  have h0 : termsE p L f t b n = 2 := by
    rw [terms_at (intv_fine h hf hft ht hb hn hp), if_pos (by rw [perN_iff (by omega) hn]; omega)]
  exact ⟨h0, cmpV_two h0⟩
end
/-- What the steps of law 0 give. -/
structure Bst (xs : List St) (L : Stp) : Prop where
  eq : slQ xs = L
  good : Good L
  fit : Fits xs 1
  len : xs.length ≤ 64
theorem Bst.of {xs : List St} {L : List (Int × Int)} (hr : ∀ x ∈ L, (0 ≤ x.1 ∧ x.1 ≤ 65535) ∧ 0 ≤ x.2 ∧ x.2 ≤ 65535) (h : slQ xs = bldQ r12 0 (L.take 5)) (hf : Fits xs 1) : Bst xs (bldQ r12 0 (L.take 5)) := by
  have g := bld_good hr
  exact ⟨h, g, hf, by have := g.len; rw [← h, slQ_length] at this; exact this⟩
theorem KG1 : KG 1 ≤ 50000 := by decide
section
variable {xs : List St} {L : Stp} (hB : Bst xs L)
include hB
theorem rate_b (d : Int) (B : Option Addr) (cb : Nat) (w : World) (h1 : 0 ≤ d) (h2 : d ≤ 1048576) (hs : Sds w B xs) :
    Calls Try.prog 16 #[.slice B xs.length cb, .int .i64 d] w fun e w' => ∃ z, e = .returned (.tuple #[.agg #[.bool z.neg, .string z.num, .string z.den], .int .i64 0]) ∧ Val z (rq d 0 L) 1 ∧ Chg [] w w' := by
  have h := rate_any xs d xs.length 1 B cb w rfl (by have := hB.len; omega) hB.fit hs
  rw [hB.eq] at h
  obtain ⟨e1, e2⟩ := rate_ok (d := d) (good_chk hB.good) (isd_of h1 h2)
  rw [e1, e2] at h
  exact h
theorem simple_b (x : Q3) (p : Rat) (kp : Nat) (f t b : Int) (B : Option Addr) (cb : Nat) (w : World) (hp : Num x p kp) (hkp : kp ≤ 1000000000) (h0 : 0 ≤ p) (h1 : 0 ≤ f) (h2 : f ≤ t) (h3 : t ≤ 1048576) (hb : b = 360 ∨ b = 365) (hs : Sds w B xs) :
    Calls Try.prog 19 #[.agg #[.bool x.neg, .string x.num, .string x.den], .slice B xs.length cb, .int .i64 f, .int .i64 t, .int .i64 b] w fun e w' => ∃ z, e = .returned (.tuple #[.agg #[.bool z.neg, .string z.num, .string z.den], .int .i64 0]) ∧ Val z (p * (accT L f t / (b : Rat))) (kp + 50000) ∧ Chg [] w w' := by
  have h := simple_any x p kp xs f t b xs.length 1 B cb w hp hkp rfl (by have := hB.len; omega) hB.fit hs
  rw [hB.eq] at h
  obtain ⟨e1, e2⟩ := sim_fine (p := p) hB.good h1 h2 h3 hb h0
  rw [e1, e2] at h
  exact h.mono fun _ _ ⟨z, he, hz, hc⟩ => ⟨z, he, hz.mono (by have := KG1; omega), hc⟩
theorem compound_b (x : Q3) (p : Rat) (kp : Nat) (f t b n : Int) (B : Option Addr) (cb : Nat) (w : World) (hp : Num x p kp) (hkp : kp ≤ 1000000000) (h0 : 0 ≤ p) (h1 : 0 ≤ f) (h2 : f ≤ t) (h3 : t ≤ 1048576) (hb : b = 360 ∨ b = 365) (hn : 1 ≤ n) (hn2 : n ≤ 1000000) (h64 : t - f ≤ 64 * n) (hs : Sds w B xs) :
    Calls Try.prog 28 #[.agg #[.bool x.neg, .string x.num, .string x.den], .slice B xs.length cb, .int .i64 f, .int .i64 t, .int .i64 b, .int .i64 n] w fun e w' => ∃ z, e = .returned (.tuple #[.agg #[.bool z.neg, .string z.num, .string z.den], .int .i64 0]) ∧ Val z (p * (growth L (b : Rat) f t n - 1)) (kp + 50000) ∧ Chg [] w w' := by
  have h := compound_any x p kp xs f t b n xs.length 1 B cb w hp hkp rfl (by have := hB.len; omega) hB.fit (by omega) hs
  rw [hB.eq] at h
  obtain ⟨e1, e2⟩ := cmp_fine (p := p) hB.good h1 h2 h3 hb hn h0 h64
  rw [e1, e2] at h
  exact h.mono fun _ _ ⟨z, he, hz, hc⟩ => ⟨z, he, hz.mono (by have := KG1; omega), hc⟩
theorem compound_l (x : Q3) (p : Rat) (kp : Nat) (f t b n : Int) (B : Option Addr) (cb : Nat) (w : World) (hp : Num x p kp) (hkp : kp ≤ 1000000000) (h0 : 0 ≤ p) (h1 : 0 ≤ f) (h2 : f ≤ t) (h3 : t ≤ 1048576) (hb : b = 360 ∨ b = 365) (hn : 1 ≤ n) (hn2 : n ≤ 1000000) (h64 : 64 * n < t - f) (hs : Sds w B xs) :
    Calls Try.prog 28 #[.agg #[.bool x.neg, .string x.num, .string x.den], .slice B xs.length cb, .int .i64 f, .int .i64 t, .int .i64 b, .int .i64 n] w fun e w' => ∃ z, e = .returned (.tuple #[.agg #[.bool z.neg, .string z.num, .string z.den], .int .i64 2]) ∧ Val z 0 (kp + 50000) ∧ Chg [] w w' := by
  have h := compound_any x p kp xs f t b n xs.length 1 B cb w hp hkp rfl (by have := hB.len; omega) hB.fit (by omega) hs
  rw [hB.eq] at h
  obtain ⟨e1, e2⟩ := cmp_long (p := p) hB.good h1 h2 h3 hb hn h0 h64
  rw [e1, e2] at h
  exact h.mono fun _ _ ⟨z, he, hz, hc⟩ => ⟨z, he, hz.mono (by have := KG1; omega), hc⟩
theorem rcompound_b (x : Q3) (p : Rat) (kp : Nat) (f t b n : Int) (B : Option Addr) (cb : Nat) (w : World) (hp : Num x p kp) (hkp : kp ≤ 1000000000) (h0 : 0 ≤ p) (h1 : 0 ≤ f) (h2 : f ≤ t) (h3 : t ≤ 1048576) (hb : b = 360 ∨ b = 365) (hn : 1 ≤ n) (hn2 : n ≤ 1000000) (h64 : t - f ≤ 64 * n) (hs : Sds w B xs) :
    Calls Try.prog 29 #[.agg #[.bool x.neg, .string x.num, .string x.den], .slice B xs.length cb, .int .i64 f, .int .i64 t, .int .i64 b, .int .i64 n] w fun e w' => ∃ z, e = .returned (.tuple #[.agg #[.bool z.neg, .string z.num, .string z.den], .int .i64 0]) ∧ Val z (p * (growth L (b : Rat) f t n - 1)) (kp + 2059062510) ∧ Chg [] w w' := by
  have h := rcompound_any x p kp xs f t b n xs.length 1 B cb w hp hkp rfl (by have := hB.len; omega) hB.fit (by omega) hs
  rw [hB.eq] at h
  obtain ⟨e1, e2⟩ := cmp_fine (p := p) hB.good h1 h2 h3 hb hn h0 h64
  rw [e1, e2] at h
  exact h
end
end Go.Proofs.Ytcfejphpflafiaa
