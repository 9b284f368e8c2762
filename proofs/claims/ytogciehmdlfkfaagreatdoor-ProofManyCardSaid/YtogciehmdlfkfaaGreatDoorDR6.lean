/-
  The reference: SameProofs of equal lists.
-/
import Derived.Test.YtogciehmdlfkfaaGreatDoorDR5
namespace Go.Proofs.YtogciehmdlfkfaaGreatDoor
open Go.RowKit Nd

set_option maxRecDepth 20000 in
set_option maxHeartbeats 2000000 in
theorem rSame_same (xs : List Pf) (A B : Option Addr) (n c d : Nat) (w : World) (hn : xs.length = n) (hn2 : n ≤ 1000000) (hA : SPf w A xs) (hB : SPf w B xs) :
    Calls Tryz.prog 19 #[.slice A n c, .slice B n d] w fun e w' => e = .returned (.bool true) ∧ Chg [] w w' := by
  have HN := Lib.hid hn
  clear hn
  have d0 : ((n : Int) != (n : Int)) = false := by simp
  go_enter Tryz.func19, Tryz.ntmps19
  go_wp2
  go_loopw [5] (fun iv wr => ∃ i : Nat, i ≤ n ∧ iv = .int .i64 i ∧ SPf wr A xs ∧ SPf wr B xs ∧ Chg [] w wr) (fun iv _ => n - (intOf iv).toNat)
  case atStart => exact ⟨0, by omega, rfl, hA, hB, Chg.refl _ _⟩
  case round =>
    obtain ⟨i, hi, rfl, hxr, hyr, hch⟩ := hrel
    clear hA hB
    by_cases hlt : i < n
    · obtain ⟨p, HP⟩ := name_it (xs.getD i pf0)
      have HX1 := Lib.hid hxr
      have HY1 := Lib.hid hyr
      obtain ⟨g, o, rfl, l1, k1⟩ := hxr (by rw [HN.out]; omega)
      have hcc := k1 i (by rw [HN.out]; omega)
      rw [HP.out] at hcc
      obtain ⟨y0, y1, y2, y3, y4, y5, y6, y7, y8, y9, y10, y11, y12, y13, _⟩ := hcc
      obtain ⟨g2, o2, rfl, l2, k2⟩ := hyr (by rw [HN.out]; omega)
      have hdd := k2 i (by rw [HN.out]; omega)
      rw [HP.out] at hdd
      obtain ⟨z0, z1, z2, z3, z4, z5, z6, z7, z8, z9, z10, z11, z12, z13, _⟩ := hdd
      clear k1 k2
      have e5 : (0 : Int) ≤ (i : Int) := by omega
      go_wp2
      go_quiet (fail)
      have c9 := Chg.drewN (Chg.refl [] wr) nq
      go_wp2
      go_roundw
      case rel => exact ⟨i + 1, by omega, by go_num, HX1.out.keep0 c9, HY1.out.keep0 c9, hch.drewN _⟩
      case measure => simp [intOf]; omega
    · have hin : i = n := by omega
      subst hin
      go_wp2
      go_ret
      exact ⟨rfl, hch⟩
end Go.Proofs.YtogciehmdlfkfaaGreatDoor
