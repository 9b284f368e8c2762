/-
  Of law 4: Rest: its mathematics; weights that are not great.
-/
import Derived.Test.YtdlejpaaoinokaaAL4
namespace Go.Proofs.Ytdlejpaaoinokaa
open Go.RowKit Nd

theorem sq_le30 {a b : Nat} (hb : 0 < b) (h : a ≤ 30 * b) : sq false a b ≤ 30 := by
  have h1 := nat_sq (f := 30) hb
  have h2 : (((30 : Nat) : Int) : Rat) = 30 := rfl
  rw [h2] at h1
  rw [h1]
  exact Rat.not_lt.1 fun g => by
    rw [ap_less (by omega)] at g
    omega
theorem amtQ_le {x : Int} (_ : 0 ≤ x) : amtQ x ≤ 30 := by
  unfold amtQ
  split
  · rw [fsg_pos (by omega) (by omega)]
    exact sq_le30 (by omega) (by omega)
  · split
    · exact_mod_cast (show (10 * (x / 5 % 4) : Int) ≤ 30 by omega)
    · exact_mod_cast (show (x / 5 % 13 : Int) ≤ 30 by omega)
/-- Weights that have been built, none of them greater than 30. -/
structure Wtb (xs : List Q3) (n : Nat) : Prop where
  len : xs.length = n
  ok : ∀ x ∈ xs, fits x 8
  nn : ∀ x ∈ xs, 0 ≤ ratOf x
  le : ∀ x ∈ xs, ratOf x ≤ 30
theorem Wtb.snoc {xs : List Q3} {n : Nat} (h : Wtb xs n) {z : Q3} (h1 : fits z 8) (h2 : 0 ≤ ratOf z) (h3 : ratOf z ≤ 30) : Wtb (xs ++ [z]) (n + 1) :=
  ⟨by rw [List.length_append, h.len]; rfl, fun x hx => by
    rcases List.mem_append.1 hx with hx | hx
    · exact h.ok x hx
    · rw [List.mem_singleton.1 hx]; exact h1, fun x hx => by
    rcases List.mem_append.1 hx with hx | hx
    · exact h.nn x hx
    · rw [List.mem_singleton.1 hx]; exact h2, fun x hx => by
    rcases List.mem_append.1 hx with hx | hx
    · exact h.le x hx
    · rw [List.mem_singleton.1 hx]; exact h3⟩

set_option maxRecDepth 20000 in
set_option maxHeartbeats 4000000 in
theorem amountsB_any (L : List Int) (l : Nat) (A : Option Addr) (cap : Nat) (w : World) (hl : L.length = l) (hl2 : l ≤ 9223372036854775807) (hL : ∀ x, x ∈ L → 0 ≤ x ∧ x ≤ 65535) (hx : RdW w A L) :
    Calls Try.prog 15 #[.slice A l cap, .int .i64 12] w fun e w' => ∃ v xs, e = .returned v ∧ Own3 w' v xs ∧ Wtb xs (min 12 l) ∧ (∀ x, x ∈ v.ownBlock.toList → w.heap.size ≤ x) ∧ Chg [] w w' := by
  have hch : Chg [] w w := Chg.refl _ _
  have HX := Lib.hid hx
  have HL := Lib.hid hl
  have HLL := Lib.hid hL
  clear hx hl hL
  go_enter Try.func15, Try.ntmps15
  go_wp2_with fail
  go_loopw [5, 6] (fun rv iv wx => ∃ (j : Nat) (zs : List Q3), j ≤ 12 ∧ j ≤ l ∧ iv = .int .i64 j ∧ Own3 wx rv zs ∧ Wtb zs j ∧ (∀ x, x ∈ rv.ownBlock.toList → w.heap.size ≤ x) ∧ Chg [] w wx) (fun _ iv _ => l - (intOf iv).toNat)
  case atStart => exact ⟨0, [], by omega, Nat.zero_le _, rfl, Own3.nil _, ⟨rfl, fun x hx => (by cases hx), fun x hx => (by cases hx), fun x hx => (by cases hx)⟩, by simp [Value.ownBlock], Chg.refl _ _⟩
  case round =>
    clear hch
    obtain ⟨j, zs, hj, hjl, rfl, hzo, hw, hzb, hch⟩ := hrel
    have HW := Lib.hid hw
    have HZB := Lib.hid hzb
    have hzl := hw.len
    have hsz1 := hch.size
    clear hw hzb
    by_cases hfin : j < l ∧ j < 12
    · obtain ⟨hlt, hlt12⟩ := hfin
      have d1 : decide ((j : Int) < (l : Int)) = true := decide_eq_true (by omega)
      have d2 : decide ((j : Int) < (12 : Int)) = true := decide_eq_true (by omega)
      have hx2 := HX.out.keep0 hch
      obtain ⟨gl, ol, rfl, hgl, a0⟩ := hx2 (by rw [HL.out]; omega)
      have a1 := a0 j (by rw [HL.out]; exact hlt)
      have hxin := HLL.out (L.getD j 0) (by
        have hk9 : j < L.length := by rw [HL.out]; exact hlt
        rw [List.getD_eq_getElem?_getD, List.getElem?_eq_getElem hk9]; exact List.getElem_mem hk9)
      obtain ⟨x, HXV⟩ := name_it (L.getD j 0)
      rw [HXV.out] at a1 hxin
      obtain ⟨x1, x2⟩ := hxin
      have k1 : (0 : Int) ≤ (j : Int) := by omega
      have k2 : (j : Int) < (l : Int) := by omega
      clear a0 hx2
      go_wp2_with fail
      refine (amount8_any x _ x1 x2).mono ?_
      rintro e w5 ⟨z, rfl, hz, c5⟩
      have hzf := hz.num.fit
      have hzn : 0 ≤ ratOf z := by rw [hz.num.rat]; exact amtQ_nn x1
      have hzu : ratOf z ≤ 30 := by rw [hz.num.rat]; exact amtQ_le x1
      have HW5 := Lib.hid (HW.out.snoc hzf hzn hzu)
      have O2 := (hzo.keep0 c5).keep0 ((Chg.refl [] _).alloc (.cells #[.bool z.neg, .string z.num, .string z.den] 38))
      have HCH := Lib.hid ((hch.then c5).alloc (.cells #[.bool z.neg, .string z.num, .string z.den] 38))
      have src := rds_one w5 z
      clear hz hzf hzn hzu c5 hzo hch
      go_wp2_with (at_builtin; refine wpList_append3 _ rfl (.tmp 18) (.tmp 24) rfl _ zs rfl O2 _ 1 1 [z] rfl rfl src (by rw [hzl]; simp; omega) ?_)
      intro v5 w6 own5 cv5 hv5
      have HZB5 : Hid (∀ x, x ∈ v5.ownBlock.toList → w.heap.size ≤ x) := Lib.hid fun x hx => by
        rcases hv5 with h5 | h5
        · rw [h5] at hx; exact HZB.out x hx
        · rw [h5] at hx; have h7 := HCH.out.size; simp at hx h7; omega
      have hc5 := Lib.hid (HCH.out.trans cv5 (fun x hx => .inr (HZB.out x hx)))
      clear hv5 cv5
      go_wp2_with fail
      go_roundw
      case rel => exact ⟨j + 1, _, by omega, by omega, by go_num, own5, HW5.out, HZB5.out, hc5.out⟩
      case measure => simp [intOf]; omega
    · have hend : j = min 12 l := by omega
      have HW5 : Hid (Wtb zs (min 12 l)) := Lib.hid (by rw [← hend]; exact HW.out)
      clear hend
      by_cases hlt : j < l
      · have d1 : decide ((j : Int) < (l : Int)) = true := decide_eq_true (by omega)
        have d2 : decide ((j : Int) < (12 : Int)) = false := decide_eq_false (by omega)
        go_wp2_with fail
        go_ret
        exact ⟨_, zs, rfl, hzo, HW5.out, HZB.out, hch⟩
      · have d1 : decide ((j : Int) < (l : Int)) = false := decide_eq_false (by omega)
        go_wp2_with fail
        go_ret
        exact ⟨_, zs, rfl, hzo, HW5.out, HZB.out, hch⟩

/-- Who is rounded up is ahead of who is rounded down. -/
structure Rst (N f : Nat → Nat) (D m : Nat) : Prop where
  sum : apS f m * D = apS N m
  max : apS f m ≤ 9223372036854775807
  ahead : ∀ i k, i < m → k < m → N i < f i * D → f k * D < N k → N k % D < N i % D ∨ (N i % D = N k % D ∧ i < k)
theorem rst_of {N : Nat → Nat} {D m : Nat} (hD : 0 < D) (h : okS (apS N m) D = true) : Rst N (resA N D m) D m := by
  have hF := Fin1.of hD h
  have hz : apS N m % D = 0 := by
    unfold okS at h
    simp only [Bool.and_eq_true, decide_eq_true_eq] at h
    exact h.1
  have h0 := Nat.div_add_mod (apS N m) D
  rw [Nat.mul_comm] at h0
  refine ⟨by rw [resA_sum hF]; omega, by rw [resA_sum hF]; exact hF.max, fun i k hi hk h1 h2 => ?_⟩
  have g1 : apR (fun i => N i % D) m i < lftA N D m := by
    by_cases e : apR (fun i => N i % D) m i < lftA N D m
    · exact e
    · exfalso
      unfold resA at h1
      rw [if_neg e, Nat.add_zero] at h1
      have := Nat.div_mul_le_self (N i) D
      omega
  have g2 : ¬ apR (fun i => N i % D) m k < lftA N D m := fun e => by
    unfold resA at h2
    rw [if_pos e] at h2
    have h3 := Nat.lt_mul_div_succ (N k) hD
    rw [Nat.mul_comm D] at h3
    omega
  have g3 := (apR_iff (r := fun i => N i % D) hi hk).1 (by omega)
  rw [apB_iff] at g3
  rcases g3 with g3 | g3
  · exact Or.inl g3
  · exact Or.inr g3
theorem flo_sub (p : Rat) : 0 ≤ p - flo p ∧ p - flo p < 1 := by
  unfold Nd.flo
  have h1 := Rat.floor_le p
  have h2 := Rat.lt_floor_add_one p
  constructor <;> grind
/-- The rest that makes the sum whole. -/
theorem rest_num (Q : Rat) : 0 ≤ -flo (-Q) - Q ∧ -flo (-Q) - Q < 1 := by
  have h := flo_sub (-Q)
  constructor
  · have := h.1; grind
  · have := h.2; grind
theorem flo_nflo (p : Rat) : flo (-flo p) = -flo p := by
  unfold flo
  rw [← Rat.intCast_neg, Rat.floor_intCast]
/-- The list with the rest behind it. -/
structure Wtr (xs : List Q3) (m : Nat) (up : Rat) : Prop where
  len : xs.length = m
  ok : ∀ x ∈ xs, fits x 250
  chk : chkA xs = 0
  com : ∀ N D, Com xs m N D → okS (apS N m) D = true ∧ up = (((apS N m / D : Nat) : Int) : Rat)
theorem Wtb.rest {xs : List Q3} {n : Nat} (h : Wtb xs n) (hn : n ≤ 12) {z : Q3} (h1 : fits z 250) (h2 : ratOf z = -flo (-sumQ xs) - sumQ xs) : Wtr (xs ++ [z]) (n + 1) (-flo (-sumQ xs)) := by
  have hr := rest_num (sumQ xs)
  rw [← h2] at hr
  have hall : ∀ x ∈ xs ++ [z], 0 ≤ ratOf x ∧ ratOf x ≤ 30 := fun x hx => by
    rcases List.mem_append.1 hx with hx | hx
    · exact ⟨h.nn x hx, h.le x hx⟩
    · rw [List.mem_singleton.1 hx]; exact ⟨hr.1, by have := hr.2; grind⟩
  have hlen : (xs ++ [z]).length = n + 1 := by rw [List.length_append, h.len]; rfl
  refine ⟨hlen, fun x hx => ?_, chkA_pos (by omega) fun x hx => (hall x hx).1, fun N D hc => ?_⟩
  · rcases List.mem_append.1 hx with hx | hx
    · exact (h.ok x hx).mono (by omega)
    · rw [List.mem_singleton.1 hx]; exact h1
  · have hD := hc.pos
    have hs := hc.sum hlen
    have hs2 : sumQ (xs ++ [z]) = -flo (-sumQ xs) := by
      rw [sumQ_append]
      show sumQ xs + (ratOf z + 0) = _
      rw [h2]; grind
    rw [hs2] at hs
    have hw : apS N (n + 1) % D = 0 := (ap_whole (by omega)).1 (by rw [← hs, flo_nflo])
    have hN : ∀ j, j < n + 1 → N j ≤ 30 * D := fun j hj => by
      have e1 := (hall _ (mem_getD (show j < (xs ++ [z]).length by omega))).2
      rw [hc.eq j hj] at e1
      have e2 := nat_sq (f := 30) hD
      have e3 : (((30 : Nat) : Int) : Rat) = 30 := rfl
      rw [e3] at e2
      rw [e2] at e1
      have e4 := Rat.not_lt.2 e1
      rw [ap_less (by omega)] at e4
      omega
    have hB : ∀ k, k ≤ n + 1 → apS N k ≤ D * (30 * k) := fun k => by
      induction k with
      | zero => intro _; exact Nat.zero_le _
      | succ k ih =>
        intro hk
        have i1 := ih (by omega)
        have i2 := hN k (by omega)
        have i3 : D * (30 * (k + 1)) = D * (30 * k) + 30 * D := by rw [Nat.mul_add, Nat.mul_add]; omega
        simp only [apS]
        omega
    have hdiv : apS N (n + 1) / D ≤ 30 * (n + 1) := Nat.div_le_of_le_mul (hB (n + 1) (Nat.le_refl _))
    refine ⟨?_, ?_⟩
    · unfold okS
      rw [decide_eq_true hw, decide_eq_true (by omega)]; rfl
    · have e5 : flo (sq false (apS N (n + 1)) D) = sq false (apS N (n + 1) / D) 1 := ap_flo (by omega)
      rw [← hs, flo_nflo] at e5
      rw [e5]
      have e6 := nat_sq (f := apS N (n + 1) / D) (S := 1) (by omega)
      rw [Nat.mul_one] at e6
      exact e6.symm
theorem nat_qo {f n D : Nat} (hD : 0 < D) : qo (((f : Nat) : Int) : Rat) (sq false n D) = ord (f * D) n := by
  rw [nat_sq hD, qo_same (by omega)]
/-- What the test of a pair asks: where the first is raised and the second is lowered, the first has the greater part, or the same part and the smaller index. -/
theorem rest_pair {ys : List Q3} {N f : Nat → Nat} {D m i k : Nat} (h : Rst N f D m) (hc : Com ys m N D) (hi : i < m) (hk : k < m)
    (h1 : 0 < qo (((f i : Nat) : Int) : Rat) (ratOf (ys.getD i q0))) (h2 : qo (((f k : Nat) : Int) : Rat) (ratOf (ys.getD k q0)) < 0) :
    qo (sq false (N i % D) D) (sq false (N k % D) D) = 1 ∨ (sq false (N i % D) D = sq false (N k % D) D ∧ i < k) := by
  have hD := hc.pos
  rw [hc.eq i hi, nat_qo hD] at h1
  rw [hc.eq k hk, nat_qo hD] at h2
  have g1 : N i < f i * D := by
    unfold ord at h1
    split at h1
    · exact absurd h1 (by decide)
    · split at h1
      · assumption
      · exact absurd h1 (by decide)
  have g2 : f k * D < N k := by
    unfold ord at h2
    split at h2
    · assumption
    · split at h2
      · exact absurd h2 (by decide)
      · exact absurd h2 (by decide)
  rcases h.ahead i k hi hk g1 g2 with g | ⟨g, g3⟩
  · refine Or.inl ?_
    rw [qo_same (by omega)]
    exact ord_gt g
  · exact Or.inr ⟨by rw [g], g3⟩
end Go.Proofs.Ytdlejpaaoinokaa
