/-
  Several parts put together: R6, R7, R8, R9.
-/
import Derived.Test.YtkdcffcgedhllaaGG
/- Part R6. -/

namespace Go.Proofs.Ytkdcffcgedhllaa
open Go.RowKit Nd

/-- A + B into a new slice: i digits are done, c is carried. -/
structure PlI (A B : List Nat) (i c : Nat) (O : List Nat) : Prop where
  len : O.length = i
  digs : dig 4294967296 O
  carry : c ≤ 1
  value : lv 4294967296 O + 4294967296 ^ i * c = lv 4294967296 (A.take i) + lv 4294967296 (B.take i)
theorem PlI.step {A B O : List Nat} {i c x y : Nat} (h : PlI A B i c O) (dA : dig 4294967296 A) (dB : dig 4294967296 B) (hx : A.getD i 0 = x) (hy : B.getD i 0 = y) :
    PlI A B (i + 1) ((c + x + y) / 4294967296) (O ++ [(c + x + y) % 4294967296]) := by
  have hx2 : x < 4294967296 := by rw [← hx]; exact dig_getD (by omega) dA i
  have hy2 : y < 4294967296 := by rw [← hy]; exact dig_getD (by omega) dB i
  have hc := h.carry
  refine ⟨by simp [h.len], dig_append h.digs (dig_cons (Nat.mod_lt _ (by omega)) (dig_nil _)), by omega, ?_⟩
  rw [lv_snoc, h.len, lv_take_step, lv_take_step, hx, hy]
  have := add_step 4294967296 i _ c x y ((c + x + y) % 4294967296) ((c + x + y) / 4294967296) _ h.value (by omega)
  omega
theorem PlI.end_ {A B O : List Nat} {i c n : Nat} (h : PlI A B i c O) (dA : dig 4294967296 A) (dB : dig 4294967296 B) (hA : A.length ≤ n) (hB : B.length ≤ n) (hi : n + 1 ≤ i) : c = 0 := by
  have h1 := h.value
  have h2 := lv_lt (B := 4294967296) (by omega) _ (dig_take dA i)
  have h3 := lv_lt (B := 4294967296) (by omega) _ (dig_take dB i)
  have h4 : 4294967296 ^ (A.take i).length ≤ 4294967296 ^ n := Nat.pow_le_pow_right (by omega) (by rw [List.length_take]; omega)
  have h5 : 4294967296 ^ (B.take i).length ≤ 4294967296 ^ n := Nat.pow_le_pow_right (by omega) (by rw [List.length_take]; omega)
  have h6 : 4294967296 ^ (n + 1) ≤ 4294967296 ^ i := Nat.pow_le_pow_right (by omega) hi
  rw [Nat.pow_succ] at h6
  apply Classical.byContradiction
  intro hc
  have : 4294967296 ^ i * 1 ≤ 4294967296 ^ i * c := Nat.mul_le_mul_left _ (by omega)
  omega

/-- The slice that plus fills: nil, or a row of its own. -/
inductive Own (w0 w : World) : Value → List Nat → Prop
  | nil : Own w0 w (.slice none 0 0) []
  | row (g cap : Nat) (xs : List Nat) (h : Row 79 .u32 w g cap xs) (hg : w0.heap.size ≤ g) : Own w0 w (.slice (some ⟨g, 0, none⟩) xs.length cap) xs
theorem Own.sl {w0 w : World} {v : Value} {xs : List Nat} (h : Own w0 w v xs) : Sl w v xs := by
  cases h with
  | nil => exact Sl.nil
  | row g cap _ h _ => exact Sl.row g cap xs h

end Go.Proofs.Ytkdcffcgedhllaa

/- Part R7. -/

namespace Go.Proofs.Ytkdcffcgedhllaa
open Go.RowKit Nd

end Go.Proofs.Ytkdcffcgedhllaa

/- Part R8. -/

namespace Go.Proofs.Ytkdcffcgedhllaa
open Go.RowKit Nd

end Go.Proofs.Ytkdcffcgedhllaa

/- Part R9. -/

namespace Go.Proofs.Ytkdcffcgedhllaa
open Go.RowKit Nd

set_option maxRecDepth 20000 in
set_option maxHeartbeats 1000000 in
theorem short_row (g cap d : Nat) (X : List Nat) (w : World) (hX : Row 79 .u32 w g cap X) (dX : dig 4294967296 X) (lx : X.length ≤ 1099511627776) (hd0 : 0 < d) (hd : d < 4294967296) :
    Calls Try.prog 77 #[.slice (some ⟨g, 0, none⟩) X.length cap, .int .u32 d] w fun e w' => ∃ (g' c' r : Nat) (L : List Nat), e = .returned (.tuple #[.slice (some ⟨g', 0, none⟩) L.length c', .int .u32 r]) ∧
      Row 79 .u32 w' g' c' L ∧ w.heap.size ≤ g' ∧ L.length ≤ X.length ∧ dig 4294967296 L ∧ noz L ∧ lv 4294967296 L = lv 4294967296 X / d ∧ r = lv 4294967296 X % d ∧ Chg [] w w' := by
  obtain ⟨i0, hi, hz0, hz1, hz2⟩ := info_parts Try.info32
  obtain ⟨n, HN⟩ := name_it X.length
  have hs0 := ShI.start (d := d) (X := X) (L := List.replicate X.length 0) hd0 (by simp) (dig_replicate (by omega) _)
  rw [HN.out] at hs0 ⊢
  rw [HN.out] at lx
  have HS0 := Lib.hid hs0
  clear hs0
  go_enter Try.func77, Try.ntmps77
  go_wp2_with (at_make; refine wpList_make_cap _ rfl (.tmp 10) (.tmp 10) 71 rfl 79 i0 .u32 Try.underlying71 hi hz0 hz1 .i64 .i64 _ _ n n rfl rfl rfl rfl (Nat.le_refl _) (by rw [hz2]; omega) (by omega) ?_)
  intro w1 hrow hch
  have hX1 := hX.keep hch (by simp)
  have hne : g ≠ w.heap.size := by have := hX.lt; omega
  obtain ⟨b, HG⟩ := name_it w.heap.size
  rw [HG.out] at hrow hne ⊢
  clear hi hz0 hz1 hz2 hX
  go_wp2_with fail
  go_loopw [7, 8] (fun rv iv wr => ∃ (t r : Nat) (L : List Nat), t ≤ n ∧ iv = .int .i64 ((t : Int) - 1) ∧ rv = .int .u64 r ∧ ShI d X t r L ∧ Row 79 .u32 wr b n L ∧ Row 79 .u32 wr g cap X ∧ Chg [] w wr)
    (fun _ iv _ => (intOf iv + 1).toNat)
  case atStart => exact ⟨n, 0, _, Nat.le_refl _, rfl, rfl, HS0.out, hrow, hX1, hch⟩
  case round =>
    obtain ⟨t, r, L, ht, rfl, rfl, hP, hr, hx, hch⟩ := hrel
    clear hX1 hrow HS0
    by_cases ht0 : 1 ≤ t
    · obtain ⟨i, rfl⟩ : ∃ i, t = i + 1 := ⟨t - 1, by omega⟩
      have hii : ((i + 1 : Nat) : Int) - 1 = (i : Int) := by omega
      rw [hii]
      clear hii ht0
      have hcx := hx.cell i (by rw [HN.out]; omega)
      obtain ⟨x, HX⟩ := name_it (X.getD i 0)
      rw [HX.out] at hcx
      have hx1 : x < 4294967296 := by rw [← HX.out]; exact dig_getD (by omega) dX i
      have hcl := hr.cell i (by rw [hP.len, HN.out]; omega)
      have hfr := hr.frozen i
      obtain ⟨old, HO⟩ := name_it (L.getD i 0)
      rw [HO.out] at hcl
      have hst := hP.step (by rw [HN.out]; omega) HX.out dX
      have hr1 := hP.rest
      have hor : bits BinOp.or IntKind.u64 ((r : Int) * 4294967296) (x : Int) = ((r * 4294967296 + x : Nat) : Int) := by
        have := or_u64 r x 32 (by omega) (by omega) (by omega)
        simpa using this
      obtain ⟨T, HT⟩ := name_it (r * 4294967296 + x)
      rw [HT.out] at hor hst
      have hT : T ≤ 18446744073709551615 := by have := HT.out; omega
      obtain ⟨q, HQ⟩ := name_it (T / d)
      obtain ⟨s, HS⟩ := name_it (T % d)
      rw [HQ.out, HS.out] at hst
      have hq : (T : Int) / (d : Int) = (q : Int) := by rw [← HQ.out]; simp
      have hs : (T : Int) % (d : Int) = (s : Int) := by rw [← HS.out]; simp
      have hqb := hst.1
      have HST := Lib.hid hst.2
      have hsb : s < 4294967296 := by rw [← HS.out]; exact Nat.lt_trans (Nat.mod_lt _ hd0) hd
      clear hst hP
      go_wp2_with fail
      go_roundw
      case rel => exact ⟨i, s, L.set i q, by omega, rfl, by rw [hs], HST.out, hr.store _ _, hx.other hne _, hch.setCell (.inr (by rw [← HG.out]; exact Nat.le_refl _)) _⟩
      case measure => simp [intOf]
    · have ht1 : t = 0 := by omega
      subst ht1
      have hd2 := Lib.hid hP.done
      have hll : Hid (L.length = n) := by show L.length = n; rw [hP.len]; exact HN.out
      have dL := hP.digs
      have hr1 := hP.rest
      clear hP
      go_wp2_with fail
      rw [← hll.out]
      rw [← hll.out] at hr
      refine (strip_row b L.length L _ hr).mono ?_
      rintro e w3 ⟨rfl, rfl⟩
      have hrt : Row _ _ _ _ _ (trim L) := hr.take (tl L) (tl_le L)
      have hle := tl_le L
      have hrm : ((r : Int) % 4294967296) = (r : Int) := by omega
      go_wp2_with fail
      go_ret2
      exact ⟨b, L.length, r, trim L, by rw [trim_length]; rfl, hrt, by rw [← HG.out]; exact Nat.le_refl _, by rw [trim_length]; have := hll.out; omega, trim_dig dL, trim_noz L, by rw [lv_trim]; exact hd2.out.1, hd2.out.2, hch⟩

end Go.Proofs.Ytkdcffcgedhllaa
