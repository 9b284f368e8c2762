/-
  Walks of the reference: shifted.
-/
import Derived.Test.YtjmonodjnljhdaaDoorR10
namespace Go.Proofs.YtjmonodjnljhdaaDoor
open Go.RowKit Nd

/-- A shifted left by s bits: i digits are done, the digit i holds the carry. -/
structure ShfI (A : List Nat) (s n i : Nat) (O : List Nat) : Prop where
  len : O.length = n + 1
  digs : dig 4294967296 O
  carry : O.getD i 0 < 2 ^ s
  rest : ∀ j, i < j → O.getD j 0 = 0
  value : win 4294967296 O 0 (i + 1) = lv 4294967296 (A.take i) * 2 ^ s

theorem shf_nat {B a p o hi lo V L P : Nat} (hv : V + P * o = L * p) (hx : hi * B + lo = a * p) : V + P * (lo + o) + P * B * hi = (L + P * a) * p := by
  grind

theorem ShfI.step {A O : List Nat} {s n i a x lo hi : Nat} (h : ShfI A s n i O) (hi' : i < n) (ha : A.getD i 0 = a) (hx : x = a * 2 ^ s) (hlo : lo = x % 4294967296) (hhi : hi = x / 4294967296)
    (hsum : lo + O.getD i 0 < 4294967296) (hh : hi < 2 ^ s) (hs : s ≤ 32) :
    ShfI A s n (i + 1) ((O.set i (lo + O.getD i 0)).set (i + 1) hi) := by
  have hl := h.len
  have hp : 2 ^ s ≤ 2 ^ 32 := Nat.pow_le_pow_right (by omega) hs
  refine ⟨by simp [hl], dig_set (dig_set h.digs _ _ hsum) _ _ (by omega), by rw [Nd.getD_set_eq (by simp [hl]; omega)]; exact hh, fun j hj => ?_, ?_⟩
  · rw [Nd.getD_set_ne (by omega), Nd.getD_set_ne (by omega)]; exact h.rest j (by omega)
  · have hv := h.value
    rw [win, Nat.zero_add] at hv
    rw [win, win, Nat.zero_add, Nat.zero_add, win_set_out _ _ _ _ _ _ (by omega), win_set_out _ _ _ _ _ _ (by omega), Nd.getD_set_eq (by simp [hl]; omega), Nd.getD_set_ne (by omega), Nd.getD_set_eq (by omega), lv_take_step, ha, Nat.pow_succ]
    exact shf_nat hv (by rw [hhi, hlo, ← hx]; omega)
theorem ShfI.done {A O : List Nat} {s n : Nat} (h : ShfI A s n n O) (hA : A.length = n) : lv 4294967296 O = lv 4294967296 A * 2 ^ s := by
  have := h.value
  rw [List.take_of_length_le (by omega), ← h.len, win_all] at this
  exact this
theorem ShfI.start (A : List Nat) (s n : Nat) : ShfI A s n 0 (List.replicate (n + 1) 0) := by
  refine ⟨by simp, dig_replicate (by omega) _, by simp [List.getD]; exact Nat.two_pow_pos s, fun j _ => ?_, by simp [win, List.getD]⟩
  simp [List.getD, List.getElem?_replicate]
  split <;> rfl

theorem shf_bits {a o s : Nat} (ha : a < 4294967296) (hs : s ≤ 31) (ho : o < 2 ^ s) :
    a * 2 ^ s ≤ 18446744073709551615 ∧ a * 2 ^ s / 4294967296 < 2 ^ s ∧ a * 2 ^ s % 4294967296 + o < 4294967296 ∧ bits BinOp.or IntKind.u32 (o : Int) ((a * 2 ^ s % 4294967296 : Nat) : Int) = ((a * 2 ^ s % 4294967296 + o : Nat) : Int) := by
  have h1 : 2 ^ s ≤ 2 ^ 31 := Nat.pow_le_pow_right (by omega) hs
  have h0 : 0 < 2 ^ s := Nat.two_pow_pos s
  have h2 : a * 2 ^ s ≤ 4294967295 * 2 ^ s := Nat.mul_le_mul_right _ (by omega)
  have h3 : 4294967296 = 2 ^ (32 - s) * 2 ^ s := by rw [← Nat.pow_add, show 32 - s + s = 32 by omega]
  have h4 : a * 2 ^ s % 4294967296 = (a % 2 ^ (32 - s)) * 2 ^ s := by
    rw [h3, Nat.mul_mod_mul_right]
  have h5 : a % 2 ^ (32 - s) < 2 ^ (32 - s) := Nat.mod_lt _ (Nat.two_pow_pos _)
  have h6 : (a % 2 ^ (32 - s) + 1) * 2 ^ s ≤ 2 ^ (32 - s) * 2 ^ s := Nat.mul_le_mul_right _ h5
  rw [Nat.succ_mul, ← h3] at h6
  rw [h4]
  refine ⟨by omega, by omega, by omega, ?_⟩
  have := or_u32' (a % 2 ^ (32 - s)) o s (by omega) (by omega) ho
  exact this

set_option maxRecDepth 20000 in
set_option maxHeartbeats 1000000 in
theorem shifted_row (g cap s : Nat) (A : List Nat) (w : World) (hA : Row 77 .u32 w g cap A) (dA : dig 4294967296 A) (la : A.length ≤ 1099511627775) (hs : s ≤ 31) :
    Calls Tryd.prog 96 #[.slice (some ⟨g, 0, none⟩) A.length cap, .int .u64 s] w fun e w' => ∃ (g' : Nat) (L : List Nat), e = .returned (.slice (some ⟨g', 0, none⟩) (A.length + 1) (A.length + 1)) ∧
      Row 77 .u32 w' g' (A.length + 1) L ∧ w.heap.size ≤ g' ∧ L.length = A.length + 1 ∧ dig 4294967296 L ∧ lv 4294967296 L = lv 4294967296 A * 2 ^ s ∧ Chg [] w w' := by
  obtain ⟨i0, hi, hz0, hz1, hz2⟩ := info_parts Tryd.info32
  obtain ⟨n, HN⟩ := name_it A.length
  have HS0 := Lib.hid (ShfI.start A s n)
  rw [HN.out] at la ⊢
  go_enter Tryd.func96, Tryd.ntmps96
  go_wp2_with (at_make; refine wpList_make_cap _ rfl (.tmp 10) (.tmp 10) 50 rfl 77 i0 .u32 Tryd.underlying50 hi hz0 hz1 .i64 .i64 _ _ (n + 1) (n + 1) rfl rfl (by simp) (by simp) (Nat.le_refl _) (by rw [hz2]; omega) (by omega) ?_)
  intro w1 hrow hch
  have hA1 := hA.keep hch (by simp)
  have hne : g ≠ w.heap.size := by have := hA.lt; omega
  obtain ⟨b, HB⟩ := name_it w.heap.size
  rw [HB.out] at hrow hne ⊢
  clear hi hz0 hz1 hz2 hA
  go_wp2_with fail
  go_loopw [6] (fun iv wr => ∃ (i : Nat) (O : List Nat), i ≤ n ∧ iv = .int .i64 i ∧ ShfI A s n i O ∧ Row 77 .u32 wr b (n + 1) O ∧ Row 77 .u32 wr g cap A ∧ Chg [] w wr)
    (fun iv _ => n - (intOf iv).toNat)
  case atStart => exact ⟨0, _, Nat.zero_le _, rfl, HS0.out, hrow, hA1, hch⟩
  case round =>
    clear hrow hA1 hch HS0
    obtain ⟨i, O, hin, rfl, hP, hr, hA, hch⟩ := hrel
    have hlen : Hid (O.length = n + 1) := hP.len
    by_cases hlt : i < n
    · have hca := hA.cell i (by rw [HN.out]; exact hlt)
      obtain ⟨a, HA⟩ := name_it (A.getD i 0)
      rw [HA.out] at hca
      have ha : a < 4294967296 := by rw [← HA.out]; exact dig_getD (by omega) dA i
      have hco := hr.cell i (by rw [hlen.out]; omega)
      have hfo := hr.frozen i
      have hst := fun x lo hi (h1 : x = a * 2 ^ s) (h2 : lo = x % 4294967296) (h3 : hi = x / 4294967296) => hP.step hlt HA.out h1 h2 h3
      have hcarry := hP.carry
      obtain ⟨o, HO⟩ := name_it (O.getD i 0)
      rw [HO.out] at hco hcarry
      obtain ⟨z1, z2, z3, z4⟩ := shf_bits (o := o) ha hs hcarry
      have e1 : ((a : Int) * 2 ^ s) = ((a * 2 ^ s : Nat) : Int) := by simp
      obtain ⟨x, HX⟩ := name_it (a * 2 ^ s)
      rw [HX.out] at z1 z2 z3 z4 e1
      have e2 : IntKind.u64.wrap ((a : Int) * 2 ^ s) = (x : Int) := by
        rw [e1]; simp [IntKind.wrap, IntKind.signed, IntKind.bits]; omega
      have hst2 := hst x _ _ HX.out.symm rfl rfl (by rw [HO.out]; exact z3) z2 (by omega)
      rw [HO.out] at hst2
      have e3 : ((x : Int) % 4294967296) = ((x % 4294967296 : Nat) : Int) := by simp
      obtain ⟨y, HY⟩ := name_it (x % 4294967296 + o)
      have hor : bits BinOp.or IntKind.u32 (o : Int) ((x : Int) % 4294967296) = (y : Int) := by rw [e3, z4, HY.out]
      rw [HY.out] at hst2
      obtain ⟨z, HZ⟩ := name_it (x / 4294967296)
      rw [HZ.out] at hst2
      have e4 : ((x : Int) / 4294967296) = (z : Int) := by rw [← HZ.out]; simp
      have hz32 : z < 4294967296 := by rw [← HZ.out]; omega
      have HST := Lib.hid hst2
      have hf2 := (hr.store i y).frozen (i + 1)
      have hco2 := (hr.store i y).cell (i + 1) (by simp [hlen.out]; omega)
      obtain ⟨old, HOLD⟩ := name_it ((O.set i y).getD (i + 1) 0)
      rw [HOLD.out] at hco2
      clear hst2 hst z2 z3 z4 e3 hP
      go_wp2_with fail
      go_roundw
      case rel => exact ⟨i + 1, _, by omega, by go_num, HST.out, (hr.store _ _).store _ _, (hA.other hne _).other hne _, (hch.setCell (.inr (by rw [← HB.out]; exact Nat.le_refl _)) _).setCell (.inr (by rw [← HB.out]; exact Nat.le_refl _)) _⟩
      case measure => simp [intOf]; omega
    · have hin' : n = i := by omega
      subst hin'
      have hv : Hid (lv 4294967296 O = lv 4294967296 A * 2 ^ s) := hP.done HN.out
      have dO := hP.digs
      clear hP
      go_wp2_with fail
      go_ret
      exact ⟨b, O, rfl, hr, by rw [← HB.out]; exact Nat.le_refl _, hlen.out, dO, hv.out, hch⟩

end Go.Proofs.YtjmonodjnljhdaaDoor
