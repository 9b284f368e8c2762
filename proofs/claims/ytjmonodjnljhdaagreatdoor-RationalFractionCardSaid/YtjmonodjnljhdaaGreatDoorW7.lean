/-
  Walks: LeadingZeros32, estimate.
-/
import Derived.Test.YtjmonodjnljhdaaGreatDoorW6
namespace Go.Proofs.YtjmonodjnljhdaaGreatDoor
open Go.RowKit Nd

theorem lt_bitLenAux : ∀ (f x : Nat), x < 2 ^ f → x < 2 ^ (Lib.bitLenAux f x)
  | 0, x, h => by simpa [Lib.bitLenAux] using h
  | f + 1, x, h => by
    rw [Lib.bitLenAux]
    split
    · rename_i h0; rw [h0]; decide
    · have := lt_bitLenAux f (x / 2) (by rw [Nat.pow_succ] at h; omega)
      rw [Nat.pow_add]
      omega

set_option maxRecDepth 20000 in
theorem lz_any (x : Nat) (w : World) (h0 : 0 < x) (h1 : x < 4294967296) :
    Calls Tryz.prog 168 #[.int .u32 x] w fun e w' => ∃ s : Nat, e = .returned (.int .i64 s) ∧ s ≤ 31 ∧ (x + 1) * 2 ^ s ≤ 4294967296 ∧ w = w' := by
  have hb1 : Lib.bitLen x ≤ 32 := Lib.bitLen_le x 32 (by omega) (by simpa using h1)
  have hb2 : x < 2 ^ Lib.bitLen x := lt_bitLenAux 64 x (by omega)
  have hb3 : 1 ≤ Lib.bitLen x := by
    apply Classical.byContradiction
    intro h
    rw [show Lib.bitLen x = 0 by omega] at hb2
    simp at hb2; omega
  obtain ⟨l, HL⟩ := name_it (Lib.bitLen x)
  rw [HL.out] at hb1 hb2 hb3
  have HB := Lib.hid hb2; clear hb2
  go_enter Tryz.func168, Tryz.ntmps168
  go_wp2_with fail
  refine (Tryz.bits_Len32 (x : Int) _ (by omega) (by omega)).mono ?_
  rintro e w' ⟨rfl, rfl⟩
  rw [Int.toNat_natCast, HL.out]
  go_wp2_with fail
  go_ret
  refine ⟨32 - l, ret_eq ?_, by omega, ?_, rfl⟩
  · show Value.int IntKind.i64 (32 - (l : Int)) = Value.int IntKind.i64 ((32 - l : Nat) : Int)
    congr 1; omega
  · have : (x + 1) * 2 ^ (32 - l) ≤ 2 ^ l * 2 ^ (32 - l) := Nat.mul_le_mul_right _ HB.out
    rw [← Nat.pow_add, show l + (32 - l) = 32 by omega] at this
    simpa using this

set_option maxRecDepth 20000 in
set_option maxHeartbeats 1600000 in
theorem estimate_long (gu o cu gv cv m a b c d f : Nat) (w : World) (hm : 2 ≤ m) (hmb : m ≤ 1099511627776) (hu0 : w.cell? ⟨gu, o + m, none⟩ = some (.int .u32 a)) (hu1 : w.cell? ⟨gu, o + (m - 1), none⟩ = some (.int .u32 b)) (hu2 : w.cell? ⟨gu, o + (m - 2), none⟩ = some (.int .u32 c))
    (hv1 : w.cell? ⟨gv, m - 1, none⟩ = some (.int .u32 d)) (hv2 : w.cell? ⟨gv, m - 2, none⟩ = some (.int .u32 f)) (ha : a ≤ d) (hb : b < 4294967296) (hc : c < 4294967296) (hd : d < 4294967296) (hd0 : 0 < d) (hf : f < 4294967296) :
    Calls Tryz.prog 155 #[.slice (some ⟨gu, o, none⟩) (m + 1) cu, .slice (some ⟨gv, 0, none⟩) m cv] w fun e w' => ∃ s n : Nat, e = .returned (.int .u32 (min (((a * 4294967296 + b) * 2 ^ s + c / 2 ^ (32 - s)) / (d * 2 ^ s + f / 2 ^ (32 - s))) 4294967295 : Nat)) ∧
      s ≤ 31 ∧ (d + 1) * 2 ^ s ≤ 4294967296 ∧ w' = w.drewN n := by
  go_enter Tryz.func155, Tryz.ntmps155
  go_wp2_with fail
  refine (lz_any d _ hd0 hd).mono ?_
  rintro e w' ⟨s, rfl, hs, hsd, rfl⟩
  go_wp2_with fail
  obtain ⟨t1, HT1⟩ := name_it (a * 4294967296 + b)
  have hor1 : bits BinOp.or IntKind.u64 ((a : Int) * 4294967296) (b : Int) = ((t1 : Nat) : Int) := by
    have := or_u64 a b 32 (by omega) (by omega) (by simpa using hb)
    rw [show (2 : Nat) ^ 32 = 4294967296 from rfl, HT1.out] at this
    simpa using this
  obtain ⟨h1, h2, h3, h4, h5⟩ := est_bounds a b c d f s ha hb hc hf hd0 hs hsd
  have low := fun x (hx : x < 4294967296) => shr_lt s x (by omega) hx
  obtain ⟨T, HT⟩ := name_it ((a * 4294967296 + b) * 2 ^ s + c / 2 ^ (32 - s))
  obtain ⟨D, HD⟩ := name_it (d * 2 ^ s + f / 2 ^ (32 - s))
  rw [HT.out] at h3
  rw [HD.out] at h4 h5
  rw [HT1.out] at h1
  have HT2 := HT.out
  rw [HT1.out] at HT2
  have hor2 : bits BinOp.or IntKind.u64 (IntKind.u64.wrap ((t1 : Int) * 2 ^ s)) ((c : Int) / 2 ^ (32 - s)) = ((T : Nat) : Int) := by
    have e1 := or_u64 t1 (c / 2 ^ (32 - s)) s (by omega) h1 (low c hc)
    rw [HT2] at e1
    have e2 : IntKind.u64.wrap ((t1 : Int) * 2 ^ s) = ((t1 * 2 ^ s : Nat) : Int) := by
      have : ((t1 : Int) * 2 ^ s) = ((t1 * 2 ^ s : Nat) : Int) := by simp
      rw [this]; exact IntWalk.u64_in _ ⟨by omega, by omega⟩
    have e3 : ((c : Int) / 2 ^ (32 - s)) = ((c / 2 ^ (32 - s) : Nat) : Int) := by simp
    rw [e2, e3, e1]
  have hor3 : bits BinOp.or IntKind.u32 ((d : Int) * 2 ^ s % 4294967296) ((f : Int) / 2 ^ (32 - s)) = ((D : Nat) : Int) := by
    have e1 := or_u32 d (f / 2 ^ (32 - s)) s (by omega) (by omega) (low f hf)
    rw [HD.out] at e1
    have e2 : ((d : Int) * 2 ^ s % 4294967296) = ((d * 2 ^ s : Nat) : Int) := by
      have e4 : ((d : Int) * 2 ^ s) = ((d * 2 ^ s : Nat) : Int) := by simp
      rw [e4]; omega
    have e3 : ((f : Int) / 2 ^ (32 - s)) = ((f / 2 ^ (32 - s) : Nat) : Int) := by simp
    rw [e2, e3, e1]
  obtain ⟨Q, HQ⟩ := name_it (T / D)
  have hq : (T : Int) / (D : Int) = (Q : Int) := by rw [← HQ.out]; simp
  have hQ : Q ≤ 18446744073709551615 := by rw [← HQ.out]; exact Nat.le_trans (Nat.div_le_self _ _) h3
  have HSD := Lib.hid hsd
  have HLOW := Lib.hid low
  clear low h1 h2 HT2 hsd
  go_region
  all_goals go_wp2_with fail
  clear hu2 hv2
  go_region
  all_goals go_wp2_with fail
  clear hor1 hor2
  go_region
  all_goals go_wp2_with fail
  go_ret
  refine ⟨s, 3, ret_eq ?_, hs, HSD.out, rfl⟩
  show Value.int IntKind.u32 _ = Value.int IntKind.u32 _
  rw [HT.out, HD.out, HQ.out]
  congr 1
  omega

set_option maxRecDepth 20000 in
set_option maxHeartbeats 1600000 in
theorem estimate_one (gu o cu gv cv a b d : Nat) (w : World) (hu0 : w.cell? ⟨gu, o + 1, none⟩ = some (.int .u32 a)) (hu1 : w.cell? ⟨gu, o, none⟩ = some (.int .u32 b))
    (hv1 : w.cell? ⟨gv, 0, none⟩ = some (.int .u32 d)) (ha : a ≤ d) (hb : b < 4294967296) (hd : d < 4294967296) (hd0 : 0 < d) :
    Calls Tryz.prog 155 #[.slice (some ⟨gu, o, none⟩) 2 cu, .slice (some ⟨gv, 0, none⟩) 1 cv] w fun e w' => ∃ s n : Nat, e = .returned (.int .u32 (min (((a * 4294967296 + b) * 2 ^ s + 0 / 2 ^ (32 - s)) / (d * 2 ^ s + 0 / 2 ^ (32 - s))) 4294967295 : Nat)) ∧
      s ≤ 31 ∧ (d + 1) * 2 ^ s ≤ 4294967296 ∧ w' = w.drewN n := by
  go_enter Tryz.func155, Tryz.ntmps155
  go_wp2_with fail
  refine (lz_any d _ hd0 hd).mono ?_
  rintro e w' ⟨s, rfl, hs, hsd, rfl⟩
  go_wp2_with fail
  obtain ⟨t1, HT1⟩ := name_it (a * 4294967296 + b)
  have hor1 : bits BinOp.or IntKind.u64 ((a : Int) * 4294967296) (b : Int) = ((t1 : Nat) : Int) := by
    have := or_u64 a b 32 (by omega) (by omega) (by simpa using hb)
    rw [show (2 : Nat) ^ 32 = 4294967296 from rfl, HT1.out] at this
    simpa using this
  obtain ⟨h1, h2, h3, h4, h5⟩ := est_bounds a b 0 d 0 s ha hb (by omega) (by omega) hd0 hs hsd
  have low := fun x (hx : x < 4294967296) => shr_lt s x (by omega) hx
  obtain ⟨T, HT⟩ := name_it ((a * 4294967296 + b) * 2 ^ s + 0 / 2 ^ (32 - s))
  obtain ⟨D, HD⟩ := name_it (d * 2 ^ s + 0 / 2 ^ (32 - s))
  rw [HT.out] at h3
  rw [HD.out] at h4 h5
  rw [HT1.out] at h1
  have HT2 := HT.out
  rw [HT1.out] at HT2
  have e0 : (0 : Nat) / 2 ^ (32 - s) = 0 := Nat.zero_div _
  have hor2 : bits BinOp.or IntKind.u64 (IntKind.u64.wrap ((t1 : Int) * 2 ^ s)) 0 = ((T : Nat) : Int) := by
    have e1 := or_u64 t1 (0 / 2 ^ (32 - s)) s (by omega) h1 (low 0 (by omega))
    rw [HT2] at e1
    have e2 : IntKind.u64.wrap ((t1 : Int) * 2 ^ s) = ((t1 * 2 ^ s : Nat) : Int) := by
      have : ((t1 : Int) * 2 ^ s) = ((t1 * 2 ^ s : Nat) : Int) := by simp
      rw [this]; exact IntWalk.u64_in _ ⟨by omega, by omega⟩
    rw [e2, ← e1, e0]; rfl
  have hor3 : bits BinOp.or IntKind.u32 ((d : Int) * 2 ^ s % 4294967296) 0 = ((D : Nat) : Int) := by
    have e1 := or_u32 d (0 / 2 ^ (32 - s)) s (by omega) (by omega) (low 0 (by omega))
    rw [HD.out] at e1
    have e2 : ((d : Int) * 2 ^ s % 4294967296) = ((d * 2 ^ s : Nat) : Int) := by
      have e4 : ((d : Int) * 2 ^ s) = ((d * 2 ^ s : Nat) : Int) := by simp
      rw [e4]; omega
    rw [e2, ← e1, e0]; rfl
  obtain ⟨Q, HQ⟩ := name_it (T / D)
  have hq : (T : Int) / (D : Int) = (Q : Int) := by rw [← HQ.out]; simp
  have hQ : Q ≤ 18446744073709551615 := by rw [← HQ.out]; exact Nat.le_trans (Nat.div_le_self _ _) h3
  have HSD := Lib.hid hsd
  clear low h1 h2 HT2 hsd e0
  go_region
  all_goals go_wp2_with fail
  clear hor1 hor2
  go_region
  all_goals go_wp2_with fail
  go_ret
  refine ⟨s, 2, ret_eq ?_, hs, HSD.out, rfl⟩
  show Value.int IntKind.u32 _ = Value.int IntKind.u32 _
  rw [HT.out, HD.out, HQ.out]
  congr 1
  omega

end Go.Proofs.YtjmonodjnljhdaaGreatDoor
