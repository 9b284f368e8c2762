/-
  Interest: product, periods, checkTerms.
-/
import Derived.Test.YtcfejphpflafiaaIX2
namespace Go.Proofs.Ytcfejphpflafiaa
open Go.RowKit Nd

/-- The product of the numbers of a list. -/
def prodQ : List Q3 → Rat
  | [] => 1
  | x :: xs => ratOf x * prodQ xs
theorem prodQ_append : ∀ xs ys : List Q3, prodQ (xs ++ ys) = prodQ xs * prodQ ys
  | [], ys => by simp only [List.nil_append, prodQ]; grind
  | x :: xs, ys => by simp only [List.cons_append, prodQ, prodQ_append xs ys]; grind
theorem prodQ_split (xs : List Q3) (h : Nat) : prodQ (xs.take h) * prodQ (xs.drop h) = prodQ xs := by rw [← prodQ_append, List.take_append_drop]
theorem prodQ_snoc (xs : List Q3) {k : Nat} (h : k < xs.length) : prodQ (xs.take (k + 1)) = prodQ (xs.take k) * ratOf (xs.getD k q0) := by
  rw [take_snoc xs q0 k h, prodQ_append]; simp only [prodQ]; grind
theorem prodQ_one (zs : List Q3) (z : Q3) : prodQ (zs ++ [z]) = prodQ zs * ratOf z := by rw [prodQ_append]; simp only [prodQ]; grind
theorem one_bd : Bd 1 (1 : Rat) := ⟨by decide, by decide⟩
set_option maxRecDepth 20000 in
set_option maxHeartbeats 1000000 in
theorem product_nil (A : Option Addr) (cap : Nat) (w : World) :
    Calls Try.prog 53 #[.slice A 0 cap] w fun e w' => ∃ z, e = .returned (.agg #[.bool z.neg, .string z.num, .string z.den]) ∧ Val z 1 1 ∧ Chg [] w w' := by
  have hch : Chg [] w (w.alloc (.cells #[.bool false, .string ⟨#[]⟩, .string ⟨#[]⟩] 29)) := (Chg.refl _ _).alloc _
  have b1 := Blk3.alloc w (.bool false) (.string ⟨#[]⟩) (.string ⟨#[]⟩) 29
  go_enter Try.func53, Try.ntmps53
  go_wp2_with fail
  refine (Int_any 1 _ (by omega) (by omega)).mono ?_
  rintro e w1 ⟨z, rfl, hz, c1⟩
  have HZ : Hid (Val z 1 1) := Lib.hid ⟨hz, one_bd⟩
  replace b1 := b1.keep c1 (by simp)
  replace hch := hch.then c1
  clear hz c1
  have b1c0 := b1.c0
  have b1c1 := b1.c1
  have b1c2 := b1.c2
  have b1f0 := b1.f0
  have b1f1 := b1.f1
  have b1f2 := b1.f2
  have b1l := b1.lt
  go_wp2_with fail
  have S := b1.store (.bool z.neg) (.string z.num) (.string z.den)
  exact bodyPost_ret (v := .agg #[.bool z.neg, .string z.num, .string z.den]) (by simp [results, Try.results53, go_sem, S.c0, S.c1, S.c2]) rfl ⟨z, rfl, HZ.out, hch.store3 (.inr (Nat.le_refl _)) _ _ _⟩

set_option maxRecDepth 20000 in
set_option maxHeartbeats 2000000 in
theorem product_upto : ∀ (n m : Nat), 1 ≤ m → m ≤ n → ∀ (xs : List Q3) (A : Option Addr) (cap k : Nat) (w : World), xs.length = m → (∀ x ∈ xs, Val x (ratOf x) k) → 1 ≤ k → m ≤ cap → cap ≤ 9223372036854775807 → m * k ≤ 34359738367 → Rds w A xs →
    Calls Try.prog 53 #[.slice A m cap] w fun e w' => ∃ z, e = .returned (.agg #[.bool z.neg, .string z.num, .string z.den]) ∧ Val z (prodQ xs) (m * k) ∧ Chg [] w w' := by
  intro n
  induction n with
  | zero => intro m h1 h2; omega
  | succ n ih =>
    intro m h1 h2 xs A cap k w hl hf hk hcap hcm hb hx
    obtain ⟨g, o, rfl, hgl⟩ := hx.form (by omega)
    have hch : Chg [] w (w.alloc (.cells #[.bool false, .string ⟨#[]⟩, .string ⟨#[]⟩] 29)) := (Chg.refl _ _).alloc _
    have b1 := Blk3.alloc w (.bool false) (.string ⟨#[]⟩) (.string ⟨#[]⟩) 29
    replace hx := hx.keep0 hch
    have IH := Lib.hid ih
    clear ih
    have HF := Lib.hid hf
    clear hf
    by_cases hm1 : m = 1
    · subst hm1
      obtain ⟨_, c0, c1, c2⟩ := hx.at_ (j := 0) (by omega)
      rw [Nat.zero_mul, Nat.add_zero] at c0 c1 c2
      obtain ⟨s, HS⟩ := name_it (xs.getD 0 q0)
      rw [HS.out] at c0 c1 c2
      have hs : Hid (prodQ xs = ratOf s) := by
        show _ = _
        have := prodQ_snoc xs (k := 0) (by omega)
        rw [List.take_of_length_le (by omega), HS.out, List.take_zero] at this
        rw [this]; simp only [prodQ]; grind
      have vs : Val s (ratOf s) k := HF.out s (by rw [← HS.out]; exact mem_getD (by omega))
      obtain ⟨r, HR⟩ := name_it (ratOf s)
      rw [HR.out] at vs hs
      have VS := Lib.hid vs
      clear hx vs
      have b1c0 := b1.c0
      have b1c1 := b1.c1
      have b1c2 := b1.c2
      have b1f0 := b1.f0
      have b1f1 := b1.f1
      have b1f2 := b1.f2
      have b1l := b1.lt
      go_enter Try.func53, Try.ntmps53
      go_wp2_with fail
      rw [hs.out]
      exact bodyPost_ret (v := .agg #[.bool s.neg, .string s.num, .string s.den]) (by simp [results, Try.results53, go_sem]) rfl ⟨s, rfl, VS.out.mono (by omega), (Chg.refl _ _).alloc _⟩
    · obtain ⟨h, HH⟩ := name_it (m / 2)
      have hh1 : 1 ≤ h := by have := HH.out; omega
      have hhm : h < m := by have := HH.out; omega
      have hhn : h ≤ n := by omega
      have hmn : m - h ≤ n := by omega
      have hmh : 1 ≤ m - h := by omega
      have hdiv : Hid ((m : Int) / 2 = (h : Int)) := by show _ = _; have := HH.out; omega
      have z1 : (0 : Int) ≤ (h : Int) := by omega
      have z2 : (h : Int) ≤ (m : Int) := by omega
      have z3 : (m : Int) ≤ (cap : Int) := by omega
      have z4 : (h : Int) ≤ (cap : Int) := by omega
      have hcph : ¬ cap = h := by omega
      have hm2 : decide ((m : Int) = 1) = false := by simp; omega
      have hm0 : decide ((m : Int) = 0) = false := by simp; omega
      obtain ⟨P, HP⟩ := name_it (m * k)
      obtain ⟨P1, HP1⟩ := name_it (h * k)
      obtain ⟨P2, HP2⟩ := name_it ((m - h) * k)
      have hpp : P1 + P2 = P := by
        rw [← HP.out, ← HP1.out, ← HP2.out, ← Nat.add_mul]; congr 1; omega
      have hp1 : 1 ≤ P1 := by rw [← HP1.out]; exact Nat.mul_pos hh1 (by omega)
      have hp2 : 1 ≤ P2 := by rw [← HP2.out]; exact Nat.mul_pos hmh (by omega)
      rw [HP.out] at hb ⊢
      have T1 := Lib.hid (hx.take h)
      have T2 := Lib.hid (hx.drop h)
      have hsp := Lib.hid (prodQ_split xs h)
      obtain ⟨q1, Q1⟩ := name_it (prodQ (xs.take h))
      obtain ⟨q2, Q2⟩ := name_it (prodQ (xs.drop h))
      obtain ⟨q, Q⟩ := name_it (prodQ xs)
      rw [Q1.out, Q2.out, Q.out] at hsp
      rw [Q.out]
      have C1 : Hid (∀ w, Rds w (some ⟨g, o, none⟩) (xs.take h) → Calls Try.prog 53 #[.slice (some ⟨g, o, none⟩) h cap] w fun e w' => ∃ z, e = .returned (.agg #[.bool z.neg, .string z.num, .string z.den]) ∧ Val z q1 P1 ∧ Chg [] w w') := by
        show ∀ _, _ → _
        intro w hr
        have := IH.out h hh1 hhn (xs.take h) _ cap k w (by rw [List.length_take]; omega) (fun x hx => HF.out x (List.mem_of_mem_take hx)) hk (by omega) hcm (by rw [HP1.out]; omega) hr
        rwa [Q1.out, HP1.out] at this
      have C2 : Hid (∀ w, Rds w (some ⟨g, o + h * 3, none⟩) (xs.drop h) → Calls Try.prog 53 #[.slice (some ⟨g, o + h * 3, none⟩) (m - h) (cap - h)] w fun e w' => ∃ z, e = .returned (.agg #[.bool z.neg, .string z.num, .string z.den]) ∧ Val z q2 P2 ∧ Chg [] w w') := by
        show ∀ _, _ → _
        intro w hr
        have := IH.out (m - h) hmh hmn (xs.drop h) _ (cap - h) k w (by rw [List.length_drop]; omega) (fun x hx => HF.out x (List.mem_of_mem_drop hx)) hk (by omega) (by omega) (by rw [HP2.out]; omega) hr
        rwa [Q2.out, HP2.out] at this
      clear hx IH HF hm1
      go_enter Try.func53, Try.ntmps53
      have b1c0 := b1.c0
      have b1c1 := b1.c1
      have b1c2 := b1.c2
      have b1f0 := b1.f0
      have b1f1 := b1.f1
      have b1f2 := b1.f2
      have b1l := b1.lt
      go_wp2_with fail
      clear b1c0 b1f0 b1c1 b1f1 b1c2 b1f2 b1l
      rw [hdiv.out]
      replace b1 := b1.keep ((Chg.refl [] _).drew) (by simp)
      replace hch := hch.drew
      have T1d := Lib.hid (T1.out.keep0 ((Chg.refl [] _).drew))
      have T2d := Lib.hid (T2.out.keep0 ((Chg.refl [] _).drew))
      clear T1 T2
      go_region_held3 (fun w' => True) (trivial) (first
          | (go_at_call 53
             (with_reducible refine (C1.out _ T1d.out).mono ?_)
             rintro e w1 ⟨y1, rfl, hy1, c1⟩
             replace b1 := b1.keep c1 (by simp)
             try replace T2d := Lib.hid (T2d.out.keep0 c1)
             replace hch := hch.then c1
             clear c1)
          | (go_at_call 53
             (with_reducible refine (C2.out _ T2d.out).mono ?_)
             rintro e w1 ⟨y2, rfl, hy2, c1⟩
             replace b1 := b1.keep c1 (by simp)
             try replace T1d := Lib.hid (T1d.out.keep0 c1)
             replace hch := hch.then c1
             clear c1)
          | (go_at_call 26
             (with_reducible refine (MultiplyN y1 y2 q1 q2 P1 P2 _ hy1.num hy2.num (by omega)).mono ?_)
             rintro e w1 ⟨z, rfl, hz, c1⟩
             replace b1 := b1.keep c1 (by simp)
             replace hch := hch.then c1
             clear c1
             have g0 := b1.c0
             have g1 := b1.c1
             have g2 := b1.c2
             have j0 := b1.f0
             have j1 := b1.f1
             have j2 := b1.f2))
      all_goals
        skip
        rw [hsp.out] at hz
        have HZ : Hid (Val z q P) := Lib.hid (hz.mono (by omega))
        go_wp2_with fail
        have S := b1.store (.bool z.neg) (.string z.num) (.string z.den)
        exact bodyPost_ret (v := .agg #[.bool z.neg, .string z.num, .string z.den]) (by simp [results, Try.results53, go_sem, S.c0, S.c1, S.c2]) rfl ⟨z, rfl, HZ.out, hch.store3 (.inr (Nat.le_refl _)) _ _ _⟩


theorem product_list (zs : List Q3) (A : Option Addr) (cap k : Nat) (w : World) (hf : ∀ x ∈ zs, Val x (ratOf x) k) (hk : 1 ≤ k) (hc : zs.length ≤ cap) (hcm : cap ≤ 9223372036854775807) (hb : zs.length * k ≤ 34359738367) (hx : Rds w A zs) :
    Calls Try.prog 53 #[.slice A zs.length cap] w fun e w' => ∃ z, e = .returned (.agg #[.bool z.neg, .string z.num, .string z.den]) ∧ Val z (prodQ zs) (zs.length * k + 1) ∧ Chg [] w w' := by
  by_cases h0 : zs.length = 0
  · have hz : zs = [] := List.eq_nil_of_length_eq_zero h0
    subst hz
    exact (product_nil A cap w).mono fun _ _ ⟨z, he, hv, hc⟩ => ⟨z, he, hv.mono (by omega), hc⟩
  · exact (product_upto zs.length zs.length (by omega) (Nat.le_refl _) zs A cap k w rfl hf hk hc hcm hb hx).mono fun _ _ ⟨z, he, hv, hc⟩ => ⟨z, he, hv.mono (by omega), hc⟩

/-- The number of periods. -/
def perN (m n : Int) : Int := if 0 < m % n then m / n + 1 else m / n
set_option maxRecDepth 20000 in
theorem periods_any (m n : Int) (w : World) (hm : 0 ≤ m) (hm2 : m ≤ 1048576) (hn : 1 ≤ n) (hn2 : n ≤ 9223372036854775807) :
    Calls Try.prog 75 #[.int .i64 m, .int .i64 n] w fun e w' => e = .returned (.int .i64 (perN m n)) ∧ Chg [] w w' := by
  have h1 : m.tmod n = m % n := Int.tmod_eq_emod_of_nonneg hm
  have h2 : m.tdiv n = m / n := Int.tdiv_eq_ediv_of_nonneg hm
  have h3 : 0 ≤ m / n := Int.ediv_nonneg hm (by omega)
  have h4 : m / n ≤ m := Int.ediv_le_self n hm
  have h5 : 0 ≤ m % n := Int.emod_nonneg _ (by omega)
  obtain ⟨q, HQ⟩ := name_it (m / n)
  obtain ⟨r, HR⟩ := name_it (m % n)
  have HP : Hid (perN m n = if 0 < r then q + 1 else q) := Lib.hid (by unfold perN; rw [HQ.out, HR.out])
  obtain ⟨p, HPP⟩ := name_it (perN m n)
  rw [HPP.out] at HP
  rw [HPP.out]
  rw [HQ.out] at h2 h3 h4
  rw [HR.out] at h1 h5
  have hn0 : (n == 0) = false := by simp; omega
  by_cases hr : 0 < r
  · have d1 : decide (0 < r) = true := decide_eq_true hr
    have hp : p = q + 1 := by rw [HP.out, if_pos hr]
    subst hp
    clear hr
    go_enter Try.func75, Try.ntmps75
    go_wp2_with fail
    go_ret
    exact ⟨rfl, Chg.refl _ _⟩
  · have d1 : decide (0 < r) = false := decide_eq_false hr
    have hp : p = q := by rw [HP.out, if_neg hr]
    subst hp
    clear hr
    go_enter Try.func75, Try.ntmps75
    go_wp2_with fail
    go_ret
    exact ⟨rfl, Chg.refl _ _⟩
end Go.Proofs.Ytcfejphpflafiaa
