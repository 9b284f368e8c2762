/-
  The reference's shape.
-/
import Derived.Test.YtnbajendnknejaaLX11
namespace Go.Proofs.Ytnbajendnknejaa
open Go.RowKit Nd
set_option maxRecDepth 20000 in
set_option maxHeartbeats 2000000 in
theorem rshape_any (M : List (List Q3)) (A : Option Addr) (cap : Nat) (w : World) (hn : M.length ≤ 1000000) (hx : Mtx w A M) :
    Calls Try.prog 60 #[.slice A M.length cap] w fun e w' => e = .returned (.int .i64 (shapeE M : Nat)) ∧ Chg [] w w' := by
  have hch : Chg [] w w := Chg.refl _ _
  obtain ⟨n, HN⟩ := name_it M.length
  obtain ⟨r, HR⟩ := name_it (shapeE M)
  rw [HR.out]
  rw [HN.out] at hn ⊢
  by_cases h0 : n = 0
  · have hr : r = 4 := by rw [← HR.out]; exact shapeE_none (HN.out.trans h0)
    subst hr h0
    clear HR
    go_enter Try.func60, Try.ntmps60
    go_wp2_with fail
    go_ret
    exact ⟨rfl, hch⟩
  · obtain ⟨g, o, rfl, hgl⟩ := hx.form (by rw [HN.out]; omega)
    obtain ⟨B, c, c0, hBc, _, hB⟩ := hx.at_ (i := 0) (by rw [HN.out]; omega)
    rw [Nat.add_zero] at c0
    obtain ⟨l, HL⟩ := name_it (M.getD 0 []).length
    rw [HL.out] at c0 hBc
    have hn0 : ((n : Int) == 0) = false := by simp; omega
    have hn1 : 0 < n := by omega
    have hn2 : (0 : Int) < (n : Int) := by omega
    have hb0 : Hid (0 < n → w.cell? ⟨g, o, none⟩ = some (.slice B l c)) := Lib.hid fun _ => c0
    clear hB
    go_enter Try.func60, Try.ntmps60
    go_wp2_with fail
    go_loopw [3] (fun iv wr => ∃ k : Nat, k ≤ n ∧ iv = .int .i64 k ∧ (∀ i, i < k → (M.getD i []).length = l) ∧ (0 < k → l ≠ 0) ∧ Mtx wr (some ⟨g, o, none⟩) M ∧ Chg [] w wr) (fun iv _ => n - (intOf iv).toNat)
    case atStart => exact ⟨0, Nat.zero_le _, rfl, fun i h => absurd h (by omega), fun h => absurd h (by omega), hx, hch⟩
    case round =>
      clear hx hch c0
      obtain ⟨k, hk, rfl, hall, hlz, hx, hch⟩ := hrel
      have ALL := Lib.hid hall
      have HLZ := Lib.hid hlz
      clear hall hlz
      have c0 : wr.cell? ⟨g, o, none⟩ = some (.slice B l c) := (hch.cell (p := ⟨g, o, none⟩) hgl (by simp)).trans (hb0.out hn1)
      by_cases hlt : k < n
      · obtain ⟨B2, c2, d0, _, _, _⟩ := hx.at_ (i := k) (by rw [HN.out]; exact hlt)
        obtain ⟨l2, HL2⟩ := name_it (M.getD k []).length
        rw [HL2.out] at d0
        have i1 : (0 : Int) ≤ (k : Int) := by omega
        have i2 : (k : Int) < (n : Int) := by omega
        by_cases hz : l2 = 0
        · have hr : r = 4 := by
            rw [← HR.out]
            by_cases hl0 : l = 0
            · exact shapeE_zero (HL.out.trans hl0)
            · exact shapeE_ne (i := k) (by rw [HN.out]; exact hlt) (by rw [HL2.out, HL.out]; omega)
          subst hr
          clear HR
          have hz1 : ((l2 : Int) == 0) = true := by simp; omega
          clear hz HL2
          go_wp2_with fail
          go_quiet (fail)
          go_wp2_with fail
          go_ret
          first | exact ⟨rfl, hch⟩ | exact ⟨rfl, hch.drewN _⟩
        · have hz1 : ((l2 : Int) == 0) = false := by simp; omega
          by_cases he : l2 = l
          · have HLN := Lib.hid hz
            subst he
            go_wp2_with fail
            go_quiet (fail)
            go_wp2_with fail
            go_roundw
            case rel => exact ⟨k + 1, by omega, by go_num, all_succ ALL.out HL2.out, fun _ => HLN.out, hx.keep0 ((Chg.refl [] _).drewN _), hch.drewN _⟩
            case measure => simp [intOf]; omega
          · have hr : r = 4 := by rw [← HR.out]; exact shapeE_ne (i := k) (by rw [HN.out]; exact hlt) (by rw [HL2.out, HL.out]; exact he)
            subst hr
            clear HR
            have he1 : ((l2 : Int) != (l : Int)) = true := by simp; omega
            have he2 : decide ((l2 : Int) = (l : Int)) = false := by simp; omega
            have he3 : decide (l2 = l) = false := by simp; omega
            go_wp2_with fail
            go_quiet (fail)
            go_wp2_with fail
            go_ret
            first | exact ⟨rfl, hch⟩ | exact ⟨rfl, hch.drewN _⟩
      · obtain rfl : k = n := by omega
        have hl0 : l ≠ 0 := HLZ.out hn1
        have hall : ∀ i, i < M.length → (M.getD i []).length = (M.getD 0 []).length := fun i hi => by rw [ALL.out i (by rw [← HN.out]; exact hi), HL.out]
        have HALL := Lib.hid hall
        clear hall
        by_cases h16 : 16 < k
        · have hr : r = 2 := by rw [← HR.out]; exact shapeE_long (by rw [HN.out]; exact h0) (by rw [HL.out]; exact hl0) HALL.out (.inl (by rw [HN.out]; exact h16))
          subst hr
          clear HR
          go_wp2_with fail
          go_ret
          exact ⟨rfl, hch⟩
        · by_cases hl16 : 16 < l
          · have hr : r = 2 := by rw [← HR.out]; exact shapeE_long (by rw [HN.out]; exact h0) (by rw [HL.out]; exact hl0) HALL.out (.inr (by rw [HL.out]; exact hl16))
            subst hr
            clear HR
            have t1 : decide ((16 : Int) < (k : Int)) = false := by simp; omega
            go_wp2_with fail
            go_ret
            exact ⟨rfl, hch⟩
          · have hr : r = 0 := by rw [← HR.out]; exact shapeE_good (by rw [HN.out]; exact h0) (by rw [HL.out]; exact hl0) HALL.out (by rw [HN.out]; omega) (by rw [HL.out]; omega)
            subst hr
            clear HR
            have t1 : decide ((16 : Int) < (k : Int)) = false := by simp; omega
            go_wp2_with fail
            go_ret
            exact ⟨rfl, hch⟩

end Go.Proofs.Ytnbajendnknejaa
