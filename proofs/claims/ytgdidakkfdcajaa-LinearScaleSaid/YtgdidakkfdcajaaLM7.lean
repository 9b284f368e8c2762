/-
  A solution is one; it is the only one exactly if the determinant is not 0.
-/
import Derived.Test.YtgdidakkfdcajaaLM6
import Derived.Test.YtgdidakkfdcajaaGY
namespace Go.Proofs.Ytgdidakkfdcajaa
open Nd

theorem gau_ech (f : Nat → Nat → Rat) (n : Nat) : ∀ c, c ≤ n → Full f n c → (ech f n c).2.length = c ∧ ∀ i, c ≤ i → i < n → ∀ j, (ech f n c).1 i j = gau f n c i j
  | 0, _, _ => ⟨rfl, fun _ _ _ _ => rfl⟩
  | c + 1, hc, hF => by
    obtain ⟨h1, h2⟩ := gau_ech f n c (by omega) (fun d hd => hF d (by omega))
    have hp := hF c (by omega)
    have hb := gp_le (f := f) (n := n) (c := c) (by omega)
    have hpe : pivR (ech f n c).1 n c c = gp f n c := pivR_congr (by omega) fun i h3 h4 => by rw [h2 i h3 h4]
    rw [ech, h1, hpe, if_pos hp]
    refine ⟨by simp [h1], fun i h3 h4 j => ?_⟩
    have hs := sw_in (i := i) hb.1 hp h4
    show stp (ech f n c).1 c c (gp f n c) i j = _
    rw [stp_ne _ j (by omega), swp_sw, gau_row hp (by omega), h2 _ (hs.2 (by omega)) hs.1, h2 _ (hs.2 (by omega)) hs.1, h2 _ hb.1 hp, h2 _ hb.1 hp, Rat.div_def, Rat.div_def]
    grind
theorem ech_grow (f : Nat → Nat → Rat) (n c : Nat) : ∀ k, (ech f n (c + k)).2.length ≤ (ech f n c).2.length + k
  | 0 => Nat.le_refl _
  | k + 1 => by
    have h := ech_grow f n c k
    rw [← Nat.add_assoc, ech]
    split
    · simp only [List.length_append, List.length_singleton]; omega
    · omega
theorem full_rank (f : Nat → Nat → Rat) (n : Nat) : Full f n n ↔ (ech f n n).2.length = n := by
  constructor
  · intro h; exact (gau_ech f n n (Nat.le_refl _) h).1
  · intro h
    have key : ∀ c, c ≤ n → Full f n c := by
      intro c
      induction c with
      | zero => intro _ d hd; omega
      | succ c ih =>
        intro hc
        have hF := ih (by omega)
        refine hF.succ ?_
        rcases Nat.lt_or_ge (gp f n c) n with h1 | h1
        · exact h1
        · obtain ⟨h2, h3⟩ := gau_ech f n c (by omega) hF
          have hpe : pivR (ech f n c).1 n c c = gp f n c := pivR_congr (by omega) fun i h4 h5 => by rw [h3 i h4 h5]
          have e1 : ech f n (c + 1) = ech f n c := by
            have := hpe
            rw [ech, h2, hpe, if_neg (by omega)]
          have h6 := ech_grow f n (c + 1) (n - (c + 1))
          rw [show c + 1 + (n - (c + 1)) = n by omega, e1, h2, h] at h6
          omega
    exact key n (Nat.le_refl _)
theorem detF_ne {f : Nat → Nat → Rat} {n : Nat} : detF f n ≠ 0 ↔ Full f n n := by
  unfold detF
  by_cases h : Full f n n
  · rw [if_pos h]
    have hne := gP_ne n (Nat.le_refl n) h
    refine ⟨fun _ => h, fun _ => ?_⟩
    unfold detV
    split
    · intro h0; exact hne (by grind)
    · exact hne
  · rw [if_neg h]; exact ⟨fun h0 => absurd rfl h0, fun h0 => absurd h0 h⟩
/-- Solve finds a solution exactly if the determinant is not 0. -/
theorem aug_rank (M : List (List Q3)) (xs : List Q3) (n : Nat) : (ech (augQ M xs n) n n).2.length = n ↔ detF (matQ M) n ≠ 0 := by
  rw [← full_rank, detF_ne]
  obtain ⟨_, _, _, _, _, h⟩ := gau_scale (E := augQ M xs n) (Q := matQ M) (φ := fun _ => 1) (n := n) (fun i _ => ⟨by show (1 : Rat) ≠ 0; decide, fun j hj => by unfold augQ; rw [if_pos hj]; grind⟩) n (Nat.le_refl _)
  exact h
/-- What Solve finds is a solution. -/
theorem aug_sol (M : List (List Q3)) (xs : List Q3) {n : Nat} (h : (ech (augQ M xs n) n n).2.length = n) (i : Nat) (hi : i < n) : sumF (fun j => matQ M i j * (ech (augQ M xs n) n n).1 j n) n = ratOf (xs.getD i q0) := by
  have hE := ech_holds (augQ M xs n) n n
  have hpv := fun t ht => asc_full h (ech_asc (augQ M xs n) n n) hE.lt t ht
  have hN : Null (ech (augQ M xs n) n n).1 n (n + 1) (fun j => if j < n then (ech (augQ M xs n) n n).1 j n else -1) := by
    intro r hr
    unfold dotF
    rw [sumF_two (a := r) (b := n) (by omega) (by omega) (by omega)]
    · dsimp only
      rw [if_pos hr, if_neg (Nat.lt_irrefl n)]
      have := hE.one r (by rw [h]; exact hr)
      rw [hpv r hr] at this
      rw [this]; grind
    · intro j hj h1 h2
      have hjn : j < n := by omega
      have := hE.other j (by rw [h]; exact hjn) r hr (fun h3 => h1 h3.symm)
      rw [hpv j hjn] at this
      rw [this]; grind
  have h2 := (ech_null (augQ M xs n) n (n + 1) _ n).1 hN i hi
  unfold dotF at h2
  rw [sumF] at h2
  dsimp only at h2
  rw [if_neg (Nat.lt_irrefl n)] at h2
  have e1 : augQ M xs n i n = ratOf (xs.getD i q0) := by unfold augQ; rw [if_neg (Nat.lt_irrefl n)]
  have e2 : sumF (fun j => augQ M xs n i j * (if j < n then (ech (augQ M xs n) n n).1 j n else -1)) n = sumF (fun j => matQ M i j * (ech (augQ M xs n) n n).1 j n) n := sumF_congr fun j hj => by
    rw [if_pos hj]
    have : augQ M xs n i j = matQ M i j := by unfold augQ; rw [if_pos hj]
    rw [this]
  rw [e2, e1] at h2
  grind
end Go.Proofs.Ytgdidakkfdcajaa
