/-
  The laws NaturalNormalize and NaturalUint: their walks.
-/
import Derived.Test.YtnemodboceenfaaDoorR3
namespace Go.Proofs.YtnemodboceenfaaDoor
open Go.RowKit Nd

theorem lnormalize_any (s : ByteArray) (w : World) (hs : s.size ≤ maxLen) :
    Calls Tryd.prog 3 #[.string s] w fun e w' => e = .returned (.bool true) ∧ Chg [] w w' := by
  unfold maxLen at hs
  obtain ⟨p, HP⟩ := name_it (nrmB s)
  by_cases h : 300 < s.size
  · go_enter Tryd.func3, Tryd.ntmps3
    go_wp2_with fail
    refine (awake_any _).mono ?_
    rintro e w2 ⟨rfl, c2⟩
    go_wp2_with fail
    go_ret
    exact ⟨rfl, c2⟩
  · go_enter Tryd.func3, Tryd.ntmps3
    go_wp2_with fail
    refine (awake_any _).mono ?_
    rintro e w2 ⟨rfl, c2⟩
    go_wp2_with fail
    refine (normalize_any s _ (by omega)).mono ?_
    rintro e w3 ⟨rfl, rfl⟩
    rw [HP.out]
    go_wp2_with fail
    refine (rnormalize_any s _ (by omega)).mono ?_
    rintro e w3 ⟨rfl, rfl⟩
    rw [HP.out]
    go_wp2_with fail
    go_ret
    exact ⟨rfl, c2⟩

def uval (s : ByteArray) : Nat := if val s < 18446744073709551616 then val s else 0
def ubool (s : ByteArray) : Bool := decide (val s < 18446744073709551616)
theorem uint_all (s : ByteArray) (w : World) (hs : s.size ≤ 9223372036854775807) :
    Calls Tryd.prog 20 #[.string s] w fun e w' => e = .returned (.tuple #[.int .u64 (uval s : Nat), .bool (ubool s)]) ∧ w = w' := by
  unfold uval ubool
  by_cases h : val s < 18446744073709551616
  · rw [if_pos h, decide_eq_true h]; exact uint_any s w hs h
  · rw [if_neg h, decide_eq_false h]; exact uint_great s w hs (Nat.le_of_not_lt h)
theorem ruint_all (s : ByteArray) (w : World) (hs : s.size ≤ 9223372036854775807) :
    Calls Tryd.prog 22 #[.string s] w fun e w' => e = .returned (.tuple #[.int .u64 (uval s : Nat), .bool (ubool s)]) ∧ w = w' := by
  unfold uval ubool
  by_cases h : val s < 18446744073709551616
  · rw [if_pos h, decide_eq_true h]; exact ruint_any s w hs h
  · rw [if_neg h, decide_eq_false h]; exact ruint_great s w hs (Nat.le_of_not_lt h)

theorem luint_nat (u : Nat) (s : ByteArray) (w : World) (hu : u < 18446744073709551616) (hs : s.size ≤ 9223372036854775807) :
    Calls Tryd.prog 4 #[.int .u64 u, .string s] w fun e w' => e = .returned (.bool true) ∧ Chg [] w w' := by
  have HU := Lib.hid hu
  obtain ⟨x, HX⟩ := name_it (uval s)
  obtain ⟨b, HB⟩ := name_it (ubool s)
  clear hu
  by_cases h : 300 < s.size
  all_goals
    go_enter Tryd.func4, Tryd.ntmps4
    go_wp2_with fail
    refine (fromUint_any u _ HU.out).mono ?_
    rintro e w1 ⟨t, rfl, ht, c1⟩
    have HT := Lib.hid ht
    have ht8 : t.size ≤ 8 := Is_size ht 8 (by have := HU.out; omega)
    clear ht
    go_wp2_with fail
    refine (uint_any t _ (by omega) (by rw [Is_val HT.out]; exact HU.out)).mono ?_
    rintro e w2 ⟨rfl, rfl⟩
    rw [Is_val HT.out]
    go_wp2_with fail
    refine (uint_all s _ hs).mono ?_
    rintro e w2 ⟨rfl, rfl⟩
    rw [HX.out, HB.out]
    go_wp2_with fail
    refine (ruint_all s _ hs).mono ?_
    rintro e w2 ⟨rfl, rfl⟩
    rw [HX.out, HB.out]
    go_wp2_with fail
    refine (awake_any _).mono ?_
    rintro e w3 ⟨rfl, c3⟩
    have c4 := c1.then c3
    clear c1 c3
    go_wp2_with fail
    refine (fromUint_any u _ HU.out).mono ?_
    rintro e w5 ⟨p, rfl, hp, c5⟩
    obtain rfl : p = t := Is_unique hp HT.out
    have c6 := c4.then c5
    clear c4 c5 hp
    go_wp2_with fail
    refine (rfromUint_any u _ HU.out).mono ?_
    rintro e w7 ⟨q, rfl, hq, c7⟩
    obtain rfl : q = p := Is_unique hq HT.out
    have c8 := c6.then c7
    clear c6 c7 hq
    go_wp2_with fail
    go_ret
    exact ⟨rfl, c8⟩

theorem luint_any (u : Int) (s : ByteArray) (w : World) (hu : (Lit.int .u64 u).wf = true) (hs : s.size ≤ maxLen) :
    Calls Tryd.prog 4 #[.int .u64 u, .string s] w fun e w' => e = .returned (.bool true) ∧ Chg [] w w' := by
  have hb : 0 ≤ u ∧ u ≤ 18446744073709551615 := by simpa [Lit.wf, IntKind.min, IntKind.max, IntKind.signed, IntKind.bits] using hu
  obtain ⟨n, rfl⟩ := Int.eq_ofNat_of_zero_le hb.1
  exact luint_nat n s w (by omega) (by simpa [maxLen] using hs)

end Go.Proofs.YtnemodboceenfaaDoor
