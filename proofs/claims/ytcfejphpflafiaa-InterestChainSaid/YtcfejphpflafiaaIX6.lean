/-
  Interest: Simple; the reference's accrued.
-/
import Derived.Test.YtcfejphpflafiaaIX5
namespace Go.Proofs.Ytcfejphpflafiaa
open Go.RowKit Nd

/-- What Simple answers. -/
def simE (p : Rat) (L : Stp) (f t b : Int) : Int := intvE p L f t b 1
def simV (p : Rat) (L : Stp) (f t b : Int) : Rat := if simE p L f t b = 0 then p * (accT L f t / (b : Rat)) else 0
theorem intvE_n {p : Rat} {L : Stp} {f t b n : Int} (hn : 1 ≤ n) : intvE p L f t b n = simE p L f t b := by
  unfold simE intvE
  have h1 : ¬ n < 1 := by omega
  have h2 : ¬ (1 : Int) < 1 := by omega
  simp only [h1, h2, or_false]
theorem perN_max {m : Int} (h : 0 ≤ m) (h2 : m ≤ 1048576) : ¬ 64 < perN m 9223372036854775807 := by
  unfold perN
  have h3 : m / 9223372036854775807 = 0 := Int.ediv_eq_zero_of_lt h (by omega)
  rw [h3]; split <;> omega
theorem termsE_max {p : Rat} {L : Stp} {f t b : Int} : termsE p L f t b 9223372036854775807 = simE p L f t b := by
  have h1 := intvE_n (p := p) (L := L) (f := f) (t := t) (b := b) (n := 9223372036854775807) (by omega)
  by_cases h0 : intvE p L f t b 9223372036854775807 = 0
  · obtain ⟨_, hf, ht, _, _, hft, _⟩ := intv_ok h0
    have h2 := isd_yes hf
    have h3 := isd_yes ht
    rw [terms_at h0, if_neg (perN_max (by omega) (by omega)), ← h1, h0]
  · rw [terms_of h0, h1]
theorem cmpV_max {p : Rat} {L : Stp} {f t b : Int} : cmpV p L f t b 9223372036854775807 = simV p L f t b := by
  unfold cmpV simV
  rw [termsE_max]
  by_cases h0 : simE p L f t b = 0
  · rw [if_pos h0, if_pos h0]
    rw [← intvE_n (n := 9223372036854775807) (by omega)] at h0
    obtain ⟨_, hf, ht, _, _, hft, _⟩ := intv_ok h0
    have h2 := isd_yes hf
    have h3 := isd_yes ht
    rw [growth_one hft (by omega) (by omega)]; grind
  · rw [if_neg h0, if_neg h0]

set_option maxRecDepth 20000 in
set_option maxHeartbeats 2000000 in
theorem simple_any (x : Q3) (p : Rat) (kp : Nat) (l : List St) (f t b : Int) (m k : Nat) (A : Option Addr) (cap : Nat) (w : World) (hp : Num x p kp) (hkp : kp ≤ 1000000000) (hn : l.length = m) (hm : m ≤ 1000000000) (hf : Fits l k) (hx : Sds w A l) :
    Calls Try.prog 19 #[.agg #[.bool x.neg, .string x.num, .string x.den], .slice A m cap, .int .i64 f, .int .i64 t, .int .i64 b] w fun e w' => ∃ z, e = .returned (.tuple #[.agg #[.bool z.neg, .string z.num, .string z.den], .int .i64 (simE p (slQ l) f t b)]) ∧ Val z (simV p (slQ l) f t b) (kp + KG k) ∧ Chg [] w w' := by
  have hch : Chg [] w ((w.alloc (.cells #[.bool x.neg, .string x.num, .string x.den] 29)).alloc (.cells #[.bool false, .string ⟨#[]⟩, .string ⟨#[]⟩] 29)) := ((Chg.refl _ _).alloc _).alloc _
  have b5 := (Blk3.alloc w (.bool x.neg) (.string x.num) (.string x.den) 29).keep ((Chg.refl [] _).alloc (.cells #[.bool false, .string ⟨#[]⟩, .string ⟨#[]⟩] 29)) (by simp)
  have b10 := Blk3.alloc (w.alloc (.cells #[.bool x.neg, .string x.num, .string x.den] 29)) (.bool false) (.string ⟨#[]⟩) (.string ⟨#[]⟩) 29
  rw [World.size_alloc] at b10
  have hx1 := hx.keep0 hch
  have HCP := Lib.hid (fun w h => compound_any x p kp l f t b 9223372036854775807 m k A cap w hp hkp hn hm hf (by omega) h)
  rw [termsE_max, cmpV_max] at HCP
  obtain ⟨r, HR⟩ := name_it (simE p (slQ l) f t b)
  obtain ⟨v, HV⟩ := name_it (simV p (slQ l) f t b)
  rw [HR.out, HV.out] at HCP
  rw [HR.out, HV.out]
  clear hn hf hx hp HR HV
  go_enter Try.func19, Try.ntmps19
  have b5c0 := b5.c0
  have b5c1 := b5.c1
  have b5c2 := b5.c2
  have b5f0 := b5.f0
  have b5f1 := b5.f1
  have b5f2 := b5.f2
  have b5l := b5.lt
  go_wp2_with fail
  refine (HCP.out _ hx1).mono ?_
  rintro e w1 ⟨z, rfl, hz, c1⟩
  have HZ := Lib.hid hz
  clear b5c0 b5c1 b5c2 b5f0 b5f1 b5f2 b5l
  replace b10 := b10.keep c1 (by simp)
  replace hch := hch.then c1
  clear c1 hz
  have b10c0 := b10.c0
  have b10c1 := b10.c1
  have b10c2 := b10.c2
  have b10f0 := b10.f0
  have b10f1 := b10.f1
  have b10f2 := b10.f2
  have b10l := b10.lt
  go_wp2_with fail
  have S := b10.store (.bool z.neg) (.string z.num) (.string z.den)
  exact bodyPost_ret (v := .tuple #[.agg #[.bool z.neg, .string z.num, .string z.den], .int .i64 r]) (by simp [results, Try.results19, go_sem, S.c0, S.c1, S.c2]) rfl ⟨z, rfl, HZ.out, hch.store3 (.inr (by omega)) _ _ _⟩
end Go.Proofs.Ytcfejphpflafiaa
