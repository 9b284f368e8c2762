/-
  Of law 4: Order.
-/
import Derived.Test.YtdlejpaaoinokaaAL0
import Derived.Test.YtdlejpaaoinokaaALS
import Derived.Test.YtdlejpaaoinokaaAL1
namespace Go.Proofs.Ytdlejpaaoinokaa
open Go.RowKit Nd

theorem Sum_list (zs : List Q3) (A : Option Addr) (cap k n : Nat) (w : World) (hn : zs.length = n) (hf : ∀ x ∈ zs, fits x k) (hk : 1 ≤ k) (hc : n ≤ cap) (hcm : cap ≤ 9223372036854775807) (hb : n * (k + 2) ≤ 34359738367) (hx : Rds w A zs) :
    Calls Try.prog 18 #[.slice A n cap] w fun e w' => ∃ z, e = .returned (.agg #[.bool z.neg, .string z.num, .string z.den]) ∧ Val z (sumQ zs) (n * (k + 2) + 1) ∧ Chg [] w w' := by
  subst hn
  by_cases h0 : zs.length = 0
  · have hz : zs = [] := List.eq_nil_of_length_eq_zero h0
    subst hz
    exact (Sum_nil A cap w).mono fun _ _ ⟨z, he, hv, hc⟩ => ⟨z, he, hv.mono (by omega), hc⟩
  · exact (Sum_upto zs.length zs.length (by omega) (Nat.le_refl _) zs A cap k w rfl hf hk hc hcm hb hx).mono fun _ _ ⟨z, he, hv, hc⟩ => ⟨z, he, hv.mono (by omega), hc⟩
theorem Com.take {xs : List Q3} {n : Nat} {N : Nat → Nat} {D : Nat} (h : Com xs n N D) (hn : xs.length = n) : ∀ k, k ≤ n → sumQ (xs.take k) = sq false (apS N k) D
  | 0, _ => by rw [List.take_zero]; exact (sq_zero false D).symm
  | k + 1, hk => by
    have hp := h.pos
    rw [sumQ_snoc xs (by omega), h.take hn k (by omega), h.eq k (by omega), sum_same false (by omega)]
    rfl
theorem Com.sum {xs : List Q3} {n : Nat} {N : Nat → Nat} {D : Nat} (h : Com xs n N D) (hn : xs.length = n) : sumQ xs = sq false (apS N n) D := by
  have := h.take hn n (Nat.le_refl n)
  rwa [List.take_of_length_le (by omega)] at this
/-- What the parts of a total keep. -/
structure Prt (t n : Nat) (N f : Nat → Nat) : Prop where
  le : ∀ i, i < n → f i ≤ t
  sum : apS f n = t
  gt : ∀ i k, i < n → k < n → N k < N i → f k ≤ f i
  eq : ∀ i k, i < n → k < n → N k = N i → i < k → f k ≤ f i ∧ f i ≤ f k + 1
theorem prt_of {N : Nat → Nat} {t n : Nat} (h0 : apS N n ≠ 0) (ht : t ≤ 9223372036854775807) : Prt t n N (resA (fun i => t * N i) (apS N n) n) := by
  have hF := Fin1.of (by omega) (split_ok h0 ht)
  have hs : apS (resA (fun i => t * N i) (apS N n) n) n = t := by
    rw [resA_sum hF, apS_mul, Nat.mul_div_cancel _ (Nat.pos_of_ne_zero h0)]
  have hl : ∀ i, i < n → resA (fun i => t * N i) (apS N n) n i ≤ t := fun i hi => by
    have := apS_get (N := resA (fun i => t * N i) (apS N n) n) hi
    omega
  refine ⟨hl, hs, fun i k hi hk h => ?_, fun i k hi hk h hik => resA_eq hi hk (by simp only [h]) hik⟩
  by_cases e : t = 0
  · have := hl k hk
    omega
  · exact resA_mono hi hk ((Nat.mul_lt_mul_left (by omega)).2 h)
theorem com_qo {xs : List Q3} {n : Nat} {N : Nat → Nat} {D : Nat} (h : Com xs n N D) {i k : Nat} (hi : i < n) (hk : k < n) :
    (0 < qo (ratOf (xs.getD i q0)) (ratOf (xs.getD k q0)) → N k < N i) ∧ (qo (ratOf (xs.getD i q0)) (ratOf (xs.getD k q0)) = 0 → N k = N i) := by
  have hp := h.pos
  rw [h.eq i hi, h.eq k hk, qo_same (by omega)]
  unfold ord
  refine ⟨fun h => ?_, fun h => ?_⟩
  · split at h
    · exact absurd h (by decide)
    · split at h
      · omega
      · exact absurd h (by decide)
  · split at h
    · exact absurd h (by decide)
    · split at h
      · exact absurd h (by decide)
      · omega

end Go.Proofs.Ytdlejpaaoinokaa
