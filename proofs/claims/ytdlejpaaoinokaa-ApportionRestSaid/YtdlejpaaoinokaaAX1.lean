/-
  Apportion: check, terms, sum.
-/
import Derived.Test.YtdlejpaaoinokaaAB
namespace Go.Proofs.Ytdlejpaaoinokaa
open Go.RowKit Nd

/-- Whether a number of the list is negative. -/
def negL (xs : List Q3) : Bool := xs.any fun x => decide (ratOf x < 0)
/-- The error of a list. -/
def chkA (xs : List Q3) : Int := if 1024 < xs.length then 2 else if negL xs then 7 else 0
theorem sg_neg (q : Rat) : decide (sg q < 0) = decide (q < 0) := by
  unfold sg
  by_cases h : q < 0
  · rw [if_pos h]; simp [h]
  · rw [if_neg h]; split <;> simp [h]
theorem take_snocA (xs : List Q3) (k : Nat) (h : k < xs.length) : xs.take (k + 1) = xs.take k ++ [xs.getD k q0] := by
  rw [List.take_add_one, List.getD_eq_getElem?_getD, List.getElem?_eq_getElem h]; rfl
theorem negL_step {xs : List Q3} {i : Nat} (h : i < xs.length) : negL (xs.take (i + 1)) = (negL (xs.take i) || decide (ratOf (xs.getD i q0) < 0)) := by
  unfold negL; rw [take_snocA xs i h, List.any_append]; simp
theorem negL_hit {xs : List Q3} {i : Nat} (h : i < xs.length) (h2 : ratOf (xs.getD i q0) < 0) : negL xs = true := by
  unfold negL; rw [List.any_eq_true]
  exact ⟨_, mem_getD h, by simpa using h2⟩
theorem negL_no {xs : List Q3} (h : negL xs = false) {i : Nat} (hi : i < xs.length) : 0 ≤ ratOf (xs.getD i q0) := by
  refine Rat.not_lt.1 fun g => ?_
  rw [negL_hit hi g] at h
  exact Bool.noConfusion h

set_option maxRecDepth 20000 in
set_option maxHeartbeats 2000000 in
theorem acheck_any (xs : List Q3) (n k : Nat) (A : Option Addr) (cap : Nat) (w : World) (hn : xs.length = n) (hm : n ≤ 1000000000) (hk1 : 1 ≤ k) (hk : k ≤ 100000) (hf : ∀ x ∈ xs, fits x k) (hx : Rds w A xs) :
    Calls Try.prog 24 #[.slice A n cap] w fun e w' => e = .returned (.int .i64 (chkA xs)) ∧ Chg [] w w' := by
  have hch : Chg [] w w := Chg.refl _ _
  obtain ⟨r, HR⟩ := name_it (chkA xs)
  rw [HR.out]
  have HN := Lib.hid hn
  have HF := Lib.hid hf
  clear hn hf
  by_cases h64 : 1024 < n
  · have hr : r = 2 := by rw [← HR.out]; unfold chkA; rw [if_pos (by rw [HN.out]; exact h64)]
    subst hr
    have d1 : decide ((1024 : Int) < (n : Int)) = true := decide_eq_true (by omega)
    clear HR
    go_enter Try.func24, Try.ntmps24
    go_wp2_with fail
    go_ret
    exact ⟨rfl, hch⟩
  · have HR2 : Hid ((if negL xs then (7 : Int) else 0) = r) := Lib.hid (by rw [← HR.out]; unfold chkA; rw [if_neg (show ¬ 1024 < xs.length by rw [HN.out]; exact h64)])
    have d1 : decide ((1024 : Int) < (n : Int)) = false := decide_eq_false (by omega)
    clear HR h64
    go_enter Try.func24, Try.ntmps24
    go_wp2_with fail
    clear d1
    go_loopw [10] (fun iv wr => ∃ i : Nat, i ≤ n ∧ iv = .int .i64 i ∧ negL (xs.take i) = false ∧ Rds wr A xs ∧ Chg [] w wr) (fun iv _ => n - (intOf iv).toNat)
    case atStart => exact ⟨0, Nat.zero_le _, rfl, by simp [negL], hx, hch⟩
    case round =>
      clear hx hch
      obtain ⟨i, hi, rfl, hz, hx, hch⟩ := hrel
      have HZ := Lib.hid hz
      clear hz
      by_cases hlt : i < n
      · obtain ⟨g, o, rfl, hgl⟩ := hx.form (by rw [HN.out]; omega)
        have hc := hx.at_ (j := i) (by rw [HN.out]; exact hlt)
        have hnum : Num (xs.getD i q0) (ratOf (xs.getD i q0)) k := ⟨rfl, HF.out _ (mem_getD (by rw [HN.out]; exact hlt)), hk1⟩
        have HST := Lib.hid (negL_step (xs := xs) (i := i) (by rw [HN.out]; exact hlt))
        have HHIT := Lib.hid (negL_hit (xs := xs) (i := i) (by rw [HN.out]; exact hlt))
        obtain ⟨t, HT⟩ := name_it (xs.getD i q0)
        rw [HT.out] at hc hnum HST HHIT
        obtain ⟨p, HP⟩ := name_it (ratOf t)
        rw [HP.out] at hnum HST HHIT
        have HSG := Lib.hid (fun w => SignN t p k w hnum (by omega))
        have HSN : Hid (decide (sg p < 0) = decide (p < 0)) := Lib.hid (sg_neg p)
        obtain ⟨s, HS⟩ := name_it (sg p)
        rw [HS.out] at HSG HSN
        obtain ⟨a0, a1, a2⟩ := hc
        have c4 : Chg [] wr (wr.alloc (.cells #[.bool t.neg, .string t.num, .string t.den] 38)) := (Chg.refl _ _).alloc _
        have b4 := Blk3.alloc wr (.bool t.neg) (.string t.num) (.string t.den) 38
        have HX1 := Lib.hid (hx.keep0 c4)
        replace hch := hch.then c4
        clear hx c4 hnum
        by_cases hp : p < 0
        · have hr : r = 7 := by rw [← HR2.out, HHIT.out hp]; rfl
          subst hr
          have d3 : decide (s < 0) = true := by rw [HSN.out]; simp [hp]
          clear hp
          have b4c0 := b4.c0
          have b4c1 := b4.c1
          have b4c2 := b4.c2
          have b4f0 := b4.f0
          have b4f1 := b4.f1
          have b4f2 := b4.f2
          have b4l := b4.lt
          go_wp2_with fail
          refine (HSG.out _).mono ?_
          rintro e w1 ⟨rfl, c1⟩
          clear b4c0 b4c1 b4c2 b4f0 b4f1 b4f2 b4l
          replace hch := hch.then c1
          clear c1 a0 a1 a2 b4
          go_wp2_with fail
          go_ret
          exact ⟨rfl, hch⟩
        · have HNX : Hid (negL (xs.take (i + 1)) = false) := Lib.hid (by rw [HST.out, HZ.out]; simp [hp])
          have d3 : decide (s < 0) = false := by rw [HSN.out]; simp [hp]
          clear hp
          have b4c0 := b4.c0
          have b4c1 := b4.c1
          have b4c2 := b4.c2
          have b4f0 := b4.f0
          have b4f1 := b4.f1
          have b4f2 := b4.f2
          have b4l := b4.lt
          go_wp2_with fail
          refine (HSG.out _).mono ?_
          rintro e w1 ⟨rfl, c1⟩
          clear b4c0 b4c1 b4c2 b4f0 b4f1 b4f2 b4l
          have HX2 := Lib.hid (HX1.out.keep0 c1)
          replace hch := hch.then c1
          clear c1 a0 a1 a2 b4
          go_wp2_with fail
          go_roundw
          case rel => exact ⟨i + 1, by omega, by go_num, HNX.out, HX2.out, hch⟩
          case measure => simp [intOf]; omega
      · have hin : i = n := by omega
        subst hin
        have hr : r = 0 := by
          rw [← HR2.out]
          have := HZ.out
          rw [List.take_of_length_le (by rw [HN.out]; omega)] at this
          rw [this]; rfl
        subst hr
        go_wp2_with fail
        go_ret
        exact ⟨rfl, hch⟩

theorem Is_oneS : Is ⟨#[1]⟩ 1 := Is_one.2 rfl
theorem Is_nilS : Is ⟨#[]⟩ 0 := Is_zero.2 rfl
theorem nn_num {q : Rat} (h : 0 ≤ q) : decide (q.num < 0) = false := by
  have := Rat.num_nonneg.2 h
  exact decide_eq_false (by omega)
/-- The numerator and the denominator of a number that is not negative. -/
structure Trm (x : Q3) (a b : ByteArray) (N M k : Nat) : Prop where
  a : Is a N
  b : Is b M
  ne : M ≠ 0
  eq : ratOf x = sq false N M
  la : N < 256 ^ k
  lb : M < 256 ^ k
set_option maxRecDepth 20000 in
set_option maxHeartbeats 2000000 in
theorem terms_any (x : Q3) (k : Nat) (w : World) (hk1 : 1 ≤ k) (hk : k ≤ 100000) (hf : fits x k) (h0 : 0 ≤ ratOf x) :
    Calls Try.prog 52 #[.agg #[.bool x.neg, .string x.num, .string x.den]] w fun e w' => ∃ a b N M, e = .returned (.tuple #[.string a, .string b]) ∧ Trm x a b N M k ∧ Chg [] w w' := by
  have b1 := Blk3.alloc w (.bool x.neg) (.string x.num) (.string x.den) 38
  have hch : Chg [] w (w.alloc (.cells #[.bool x.neg, .string x.num, .string x.den] 38)) := (Chg.refl _ _).alloc _
  have hp256 : 1 < 256 ^ k := Nat.one_lt_pow (by omega) (by omega)
  cases hok : okB x with
  | false =>
    have HT : Hid (Trm x ⟨#[]⟩ ⟨#[1]⟩ 0 1 k) := Lib.hid ⟨Is_nilS, Is_oneS, by omega, by rw [bad_rat hok, sq_zero], by omega, hp256⟩
    have HV := Lib.hid (fun w => Valid_any x w (by have := hf.1; omega) (by have := hf.2; omega))
    rw [hok] at HV
    clear hok hp256
    go_enter Try.func52, Try.ntmps52
    have b1c0 := b1.c0
    have b1c1 := b1.c1
    have b1c2 := b1.c2
    have b1f0 := b1.f0
    have b1f1 := b1.f1
    have b1f2 := b1.f2
    have b1l := b1.lt
    go_wp2_with fail
    refine (HV.out _).mono ?_
    rintro e w1 ⟨rfl, c1⟩
    replace hch := hch.then c1
    clear c1
    go_wp2_with fail
    go_ret2
    exact ⟨_, _, 0, 1, rfl, HT.out, hch⟩
  | true =>
    have henc := ok_enc hok
    have hbd := hf.bd hk1
    obtain ⟨q, HQ⟩ := name_it (ratOf x)
    rw [HQ.out] at henc hbd h0
    have hneg := henc.neg
    rw [nn_num h0] at hneg
    have hsq : q = sq false q.num.natAbs q.den := by
      have := sq_self q
      rw [nn_num h0] at this
      exact this.symm
    have HV := Lib.hid (fun w => Valid_any x w (by have := hf.1; omega) (by have := hf.2; omega))
    rw [hok] at HV
    by_cases hd : q.den = 1
    · have hden : x.den = ⟨#[]⟩ := Is_zero.1 (by have := henc.den; rwa [if_pos hd] at this)
      have HT : Hid (Trm x x.num ⟨#[1]⟩ q.num.natAbs 1 k) := Lib.hid ⟨henc.num, Is_oneS, by omega, by rw [HQ.out]; rw [hd] at hsq; exact hsq, hbd.1, hp256⟩
      have d1 : (x.den.toList == []) = true := by rw [hden, Lib.toList_data]; rfl
      clear hok hp256 henc hbd hneg hsq hden hd
      go_enter Try.func52, Try.ntmps52
      have b1c0 := b1.c0
      have b1c1 := b1.c1
      have b1c2 := b1.c2
      have b1f0 := b1.f0
      have b1f1 := b1.f1
      have b1f2 := b1.f2
      have b1l := b1.lt
      go_wp2_with fail
      refine (HV.out _).mono ?_
      rintro e w1 ⟨rfl, c1⟩
      clear b1c0 b1c1 b1c2 b1f0 b1f1 b1f2 b1l
      replace b1 := b1.keep0 c1
      replace hch := hch.then c1
      clear c1
      have b1c0 := b1.c0
      have b1c1 := b1.c1
      have b1c2 := b1.c2
      have b1f0 := b1.f0
      have b1f1 := b1.f1
      have b1f2 := b1.f2
      have b1l := b1.lt
      go_wp2_with fail
      go_ret2
      exact ⟨_, _, _, 1, rfl, HT.out, hch⟩
    · have hden : Is x.den q.den := by have := henc.den; rwa [if_neg hd] at this
      have HT : Hid (Trm x x.num x.den q.num.natAbs q.den k) := Lib.hid ⟨henc.num, hden, q.den_nz, by rw [HQ.out]; exact hsq, hbd.1, hbd.2⟩
      have d0 : x.den.toList.isEmpty = false := by rw [Is_empty hden]; exact decide_eq_false q.den_nz
      have d1 : (x.den.toList == []) = false := by
        cases h : x.den.toList with
        | nil => rw [h] at d0; cases d0
        | cons a b => rfl
      clear hok hp256 henc hbd hneg hsq hden hd
      go_enter Try.func52, Try.ntmps52
      have b1c0 := b1.c0
      have b1c1 := b1.c1
      have b1c2 := b1.c2
      have b1f0 := b1.f0
      have b1f1 := b1.f1
      have b1f2 := b1.f2
      have b1l := b1.lt
      go_wp2_with fail
      refine (HV.out _).mono ?_
      rintro e w1 ⟨rfl, c1⟩
      clear b1c0 b1c1 b1c2 b1f0 b1f1 b1f2 b1l
      replace b1 := b1.keep0 c1
      replace hch := hch.then c1
      clear c1
      have k0 := b1.c0
      have k1 := b1.c1
      have k2 := b1.c2
      go_wp2_with fail
      go_quiet (fail)
      go_wp2_with fail
      go_ret2
      exact ⟨_, _, _, _, rfl, HT.out, hch.drewN _⟩

/-- The strings of block g are the numbers N. -/
def NStr (s : Nat → ByteArray) (N : Nat → Nat) (n : Nat) : Prop := ∀ j, j < n → Is (s j) (N j)
theorem apS_bound {N : Nat → Nat} {k : Nat} : ∀ {n : Nat}, (∀ j, j < n → N j < 256 ^ k) → n ≤ 65535 → apS N n < 256 ^ (k + 2) := by
  have h : ∀ n, (∀ j, j < n → N j < 256 ^ k) → apS N n ≤ n * 256 ^ k := fun n => by
    induction n with
    | zero => intro _; simp [apS]
    | succ n ih =>
      intro h
      have h1 := ih (fun j hj => h j (by omega))
      have h2 := h n (by omega)
      simp only [apS]; rw [Nat.add_mul, Nat.one_mul]; omega
  intro n h1 h2
  have h3 := h n h1
  have h4 : 0 < 256 ^ k := Nat.pow_pos (by omega)
  have h5 : n * 256 ^ k < 65536 * 256 ^ k := Nat.mul_lt_mul_of_pos_right (by omega) h4
  rw [Nat.pow_add, Nat.mul_comm (256 ^ k)]
  have : (256 : Nat) ^ 2 = 65536 := by decide
  rw [this]; omega
set_option maxRecDepth 20000 in
set_option maxHeartbeats 2000000 in
theorem asum_any (s : Nat → ByteArray) (N : Nat → Nat) (n k g : Nat) (cap : Nat) (w : World) (hm : n ≤ 1024) (hs : NStr s N n) (hb : ∀ j, j < n → N j < 256 ^ k) (hk : k ≤ 1000000000) (hf : Fb w g n (fun j => .string (s j))) :
    Calls Try.prog 34 #[.slice (some ⟨g, 0, none⟩) n cap] w fun e w' => ∃ t, e = .returned (.string t) ∧ Is t (apS N n) ∧ Chg [] w w' := by
  have hch : Chg [] w w := Chg.refl _ _
  have HS := Lib.hid hs
  have HB := Lib.hid hb
  clear hs hb
  go_enter Try.func34, Try.ntmps34
  go_wp2_with fail
  go_loopw [3, 8] (fun tv iv wr => ∃ (i : Nat) (t : ByteArray), i ≤ n ∧ iv = .int .i64 i ∧ tv = .string t ∧ Is t (apS N i) ∧ Fb wr g n (fun j => .string (s j)) ∧ Chg [] w wr) (fun _ iv _ => n - (intOf iv).toNat)
  case atStart => exact ⟨0, ⟨#[]⟩, Nat.zero_le _, rfl, rfl, Is_nilS, hf, hch⟩
  case round =>
    clear hf hch
    obtain ⟨i, t, hi, rfl, rfl, ht, hf, hch⟩ := hrel
    have HT := Lib.hid ht
    clear ht
    by_cases hlt : i < n
    · have hc := hf.cell i hlt
      have HI := Lib.hid (HS.out i hlt)
      have hst : t.size ≤ k + 2 := Is_size HT.out _ (apS_bound (fun j hj => HB.out j (by omega)) (by omega))
      have hsi : (s i).size ≤ k := Is_size HI.out _ (HB.out i hlt)
      have HF := Lib.hid hf
      obtain ⟨u, HU⟩ := name_it (s i)
      rw [HU.out] at hc HI hsi
      clear hf
      go_wp2_with fail
      refine (add_any t u _ (by omega) (by omega)).mono ?_
      rintro e w1 ⟨v, rfl, hv, c1⟩
      have HV : Hid (Is v (apS N (i + 1))) := Lib.hid (by rw [Is_val HT.out, Is_val HI.out] at hv; exact hv)
      have HF1 := Lib.hid (HF.out.keep0 c1)
      replace hch := hch.then c1
      clear hc c1 hv hst hsi
      go_wp2_with fail
      go_roundw
      case rel => exact ⟨i + 1, v, by omega, by go_num, rfl, HV.out, HF1.out, hch⟩
      case measure => simp [intOf]; omega
    · obtain rfl : i = n := by omega
      go_wp2_with fail
      go_ret
      exact ⟨t, rfl, HT.out, hch⟩
end Go.Proofs.Ytdlejpaaoinokaa
