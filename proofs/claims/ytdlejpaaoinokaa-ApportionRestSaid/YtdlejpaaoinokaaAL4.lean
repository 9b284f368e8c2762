/-
  Of law 4: sum; the distance from the exact shares.
-/
import Derived.Test.YtdlejpaaoinokaaAL3
namespace Go.Proofs.Ytdlejpaaoinokaa
open Go.RowKit Nd

/-- How far the parts are from the exact shares. -/
structure Exa (t n : Nat) (N f : Nat → Nat) (S : Nat) : Prop where
  lo : ∀ i, i < n → t * N i < (f i + 1) * S
  hi : ∀ i, i < n → f i * S < t * N i + S
  ex : ∀ i, i < n → t * N i % S = 0 → f i * S = t * N i
theorem exa_of {N : Nat → Nat} {t n : Nat} (h0 : apS N n ≠ 0) (ht : t ≤ 9223372036854775807) : Exa t n N (resA (fun i => t * N i) (apS N n) n) (apS N n) := by
  have hF := Fin1.of (by omega) (split_ok h0 ht)
  obtain ⟨S, HS⟩ := name_it (apS N n)
  rw [HS.out] at hF h0 ⊢
  have hS : 0 < S := by omega
  refine ⟨fun i hi => ?_, fun i hi => ?_, fun i hi h => ?_⟩
  · have h1 := Nat.lt_mul_div_succ (t * N i) hS
    rw [Nat.mul_comm S] at h1
    refine Nat.lt_of_lt_of_le h1 (Nat.mul_le_mul_right _ ?_)
    unfold resA
    dsimp only
    omega
  · have h1 := Nat.div_add_mod (t * N i) S
    rw [Nat.mul_comm S] at h1
    unfold resA
    dsimp only
    split
    · rename_i hr
      have h2 : t * N i % S ≠ 0 := resA_up hF hi hr
      rw [Nat.add_mul]
      omega
    · rw [Nat.add_zero]
      omega
  · have h1 := Nat.div_add_mod (t * N i) S
    rw [Nat.mul_comm S] at h1
    unfold resA
    dsimp only
    split
    · rename_i hr
      exact absurd h (resA_up hF hi hr)
    · rw [Nat.add_zero]
      omega
theorem nat_sq {f S : Nat} (hS : 0 < S) : (((f : Nat) : Int) : Rat) = sq false (f * S) S := by
  have h1 := sq_expand false f 1 (k := S) (by omega)
  rw [Nat.one_mul] at h1
  rw [h1]
  unfold sq
  rw [if_neg (by simp), Rat.mkRat_one]
theorem one_sq {S : Nat} (hS : 0 < S) : (1 : Rat) = sq false S S := by
  have h1 := nat_sq (f := 1) hS
  rw [Nat.one_mul] at h1
  rw [← h1]; rfl
theorem ex_rat {f M S : Nat} (hS : 0 < S) (lo : M < (f + 1) * S) (hi : f * S < M + S) :
    qo (((f : Nat) : Int) - sq false M S) ((1 : Int) : Rat) = -1 ∧ qo (((f : Nat) : Int) - sq false M S) ((-1 : Int) : Rat) = 1 := by
  have h0 : S ≠ 0 := by omega
  have e1 : (((f : Nat) : Int) : Rat) < sq false M S + 1 := by
    rw [nat_sq hS, one_sq hS, sum_same false h0, ap_less h0]
    exact hi
  have e2 : sq false M S < (((f : Nat) : Int) : Rat) + 1 := by
    rw [nat_sq hS, one_sq hS, sum_same false h0, ap_less h0]
    rw [Nat.add_mul] at lo
    omega
  obtain ⟨q, HQ⟩ := name_it (sq false M S)
  obtain ⟨r, HR⟩ := name_it (((f : Nat) : Int) : Rat)
  rw [HQ.out, HR.out] at e1 e2 ⊢
  have o1 : ((1 : Int) : Rat) = 1 := rfl
  have o2 : ((-1 : Int) : Rat) = -1 := rfl
  rw [o1, o2]
  exact ⟨qo_lt (by grind), qo_gt (by grind)⟩
theorem ex_zero {f M S : Nat} (hS : 0 < S) (h : f * S = M) : sg ((((f : Nat) : Int) : Rat) - sq false M S) = 0 := by
  rw [nat_sq hS, h]
  unfold sg
  rw [if_neg (by grind), if_pos (by grind)]
theorem ex_den {M S : Nat} {b : Bool} (hS : 0 < S) {z : Q3} {k : Nat} (hz : Val z (sq b M S) k) (h : (sq b M S).den = 1) : M % S = 0 := by
  have h1 := hz.enc.sq'
  rw [h] at h1
  have h2 := (sq_eq_iff (by omega) (by omega)).1 h1
  have h3 : (S : Int) ∣ (M : Int) := by
    cases b with
    | false => exact ⟨_, by simp at h2; rw [Int.mul_comm, h2]⟩
    | true => exact Int.dvd_neg.1 ⟨_, by simp at h2; rw [Int.mul_comm, h2]⟩
  exact Nat.mod_eq_zero_of_dvd (Int.natCast_dvd_natCast.1 h3)

set_option maxRecDepth 20000 in
set_option maxHeartbeats 2000000 in
theorem lsum_any (f : Nat → Nat) (g n ca : Nat) (w : World) (hn : n ≤ 1000000000) (hb : apS f n ≤ 9223372036854775807) (hg : Fb w g n (fun j => .int .i64 ((f j : Nat) : Int))) :
    Calls Try.prog 20 #[.slice (some ⟨g, 0, none⟩) n ca] w fun e w' => e = .returned (.int .i64 ((apS f n : Nat) : Int)) ∧ Chg [] w w' := by
  have hch : Chg [] w w := Chg.refl _ _
  have HB := Lib.hid hb
  go_enter Try.func20, Try.ntmps20
  go_wp2_with fail
  go_loopw [3, 8] (fun sv iv wr => ∃ i : Nat, i ≤ n ∧ iv = .int .i64 i ∧ sv = .int .i64 ((apS f i : Nat) : Int) ∧ Fb wr g n (fun j => .int .i64 ((f j : Nat) : Int)) ∧ Chg [] w wr) (fun _ iv _ => n - (intOf iv).toNat)
  case atStart => exact ⟨0, Nat.zero_le _, rfl, rfl, hg, hch⟩
  case round =>
    clear hg hch hb
    obtain ⟨i, hi, rfl, rfl, hg, hch⟩ := hrel
    by_cases hlt : i < n
    · have p1 := hg.cell i hlt
      have i1 : (0 : Int) ≤ (i : Int) := by omega
      have i2 : (i : Int) < (n : Int) := by omega
      have hm := apS_mono f (show i + 1 ≤ n by omega)
      have hm2 := HB.out
      have hs : ((apS f (i + 1) : Nat) : Int) = ((apS f i : Nat) : Int) + ((f i : Nat) : Int) := by simp only [apS]; omega
      obtain ⟨x, HX⟩ := name_it ((f i : Nat) : Int)
      obtain ⟨y, HY⟩ := name_it ((apS f i : Nat) : Int)
      rw [HX.out] at p1 hs
      rw [HY.out] at hs ⊢
      have q1 : IntKind.i64.wrap (y + x) = y + x := by rw [IntKind.wrap_i64]; omega
      have HS := Lib.hid hs
      clear hs
      go_wp2_with fail
      go_roundw
      case rel => exact ⟨i + 1, by omega, by go_num, by rw [HS.out], hg, hch⟩
      case measure => simp [intOf]; omega
    · obtain rfl : i = n := by omega
      go_wp2_with fail
      go_ret
      exact ⟨rfl, hch⟩
end Go.Proofs.Ytdlejpaaoinokaa
