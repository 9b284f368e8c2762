/-
  Walks: Normalize, trim.
-/
import Derived.Test.YtjmonodjnljhdaaGreatDoorBase
namespace Go.Proofs.YtjmonodjnljhdaaGreatDoor
open Go.RowKit Nd

set_option maxRecDepth 20000 in
set_option maxHeartbeats 400000 in
theorem trim_row (g o cap : Nat) (xs : List Nat) (w : World) (hx : xs.length ≤ cap) (hm : cap ≤ 9223372036854775807)
    (hc : ∀ j, j < xs.length → w.cell? ⟨g, o + j, none⟩ = some (.int .u32 (xs.getD j 0 : Nat))) :
    Calls Tryz.prog 122 #[.slice (some ⟨g, o, none⟩) xs.length cap] w fun e w' => e = .returned (.slice (some ⟨g, o, none⟩) (tl xs) cap) ∧ w = w' := by
  go_enter Tryz.func122, Tryz.ntmps122
  go_wp2
  go_loop [0] (fun v => ∃ k : Nat, k ≤ xs.length ∧ v = .slice (some ⟨g, o, none⟩) k cap ∧ (∀ j, k ≤ j → xs.getD j 0 = 0)) (fun v => lenOf v)
  case atStart => exact ⟨xs.length, Nat.le_refl _, rfl, fun j hj => getD_ge _ _ hj⟩
  case round =>
    obtain ⟨k, hk, rfl, hz⟩ := hrel
    have HZ := Lib.hid hz; clear hz
    have HC := Lib.hid hc; clear hc
    by_cases h0 : 0 < k
    · have hcell := HC.out (k - 1) (by omega)
      obtain ⟨x, HX⟩ := name_it (xs.getD (k - 1) 0)
      rw [HX.out] at hcell
      by_cases hv : x = 0
      · subst hv
        go_wp2
        go_round
        case rel =>
          refine ⟨k - 1, by omega, rfl, fun j hj => ?_⟩
          by_cases hj' : j = k - 1
          · rw [hj']; exact HX.out
          · exact HZ.out j (by omega)
        case measure => simp [lenOf]; omega
      · have hb : ((x : Int) == 0) = false := by rw [beq_eq_false_iff_ne]; omega
        have he : Hid (tl xs = k) := tl_of xs k HZ.out (fun _ => by rw [HX.out]; exact hv)
        go_wp2
        go_ret
        exact ⟨ret_eq (by rw [he.out]; rfl), rfl⟩
    · have he : Hid (tl xs = k) := tl_of xs k HZ.out (fun h => absurd h h0)
      go_wp2
      go_ret
      exact ⟨ret_eq (by rw [he.out]; rfl), rfl⟩

set_option maxRecDepth 20000 in
theorem trim_nil (w : World) :
    Calls Tryz.prog 122 #[.slice none 0 0] w fun e w' => e = .returned (.slice none 0 0) ∧ w = w' := by
  go_enter Tryz.func122, Tryz.ntmps122
  go_wp2
  go_loop [0] (fun v => v = .slice none 0 0) (fun _ => 0)
  case atStart => rfl
  case round =>
    obtain rfl := hrel
    go_wp2
    go_ret
    exact ⟨rfl, rfl⟩

/-- The bytes without the leading zeros. -/
def nrmB (s : ByteArray) : ByteArray := ⟨(nrm s.data.toList).toArray⟩

theorem nrmB_drop (s : ByteArray) (k : Nat) (_hk : k ≤ s.size) (hz : ∀ j, j < k → s.data.toList[j]? = some 0) (hn : s.data.toList[k]? ≠ some 0) : s.extract k s.size = nrmB s := by
  unfold nrmB
  rw [nrm_drop _ k hz hn]
  apply ByteArray.ext
  apply Array.toList_inj.1
  simp
  exact List.take_of_length_le (by simp)

set_option maxRecDepth 20000 in
set_option maxHeartbeats 400000 in
theorem normalize_any (s : ByteArray) (w : World) (hs : s.size ≤ 9223372036854775807) :
    Calls Tryz.prog 97 #[.string s] w fun e w' => e = .returned (.string (nrmB s)) ∧ w = w' := by
  go_enter Tryz.func97, Tryz.ntmps97
  go_wp2
  go_loop [3] (fun v => ∃ k : Nat, k ≤ s.size ∧ v = .int .i64 k ∧ (∀ j, j < k → s.data.toList[j]? = some 0)) (fun v => s.size - (intOf v).toNat)
  case atStart => exact ⟨0, Nat.zero_le _, rfl, fun j hj => absurd hj (by omega)⟩
  case round =>
    obtain ⟨k, hk, rfl, hz⟩ := hrel
    have HZ := Lib.hid hz; clear hz
    by_cases h0 : k < s.size
    · by_cases h1 : ((s[k].toNat : Int) == 0) = true
      · have H1 := Lib.hid h1
        go_wp2
        go_round
        case rel =>
          refine ⟨k + 1, by omega, by go_num, fun j hj => ?_⟩
          by_cases hj' : j = k
          · subst hj'
            rw [byte_get s j h0, byte_zero.1 H1.out]
          · exact HZ.out j (by omega)
        case measure => simp [intOf]; omega
      · have h2 : ((s[k].toNat : Int) == 0) = false := by simpa using h1
        have HE : Hid (s.extract k s.size = nrmB s) := nrmB_drop s k hk HZ.out (by rw [byte_get s k h0]; intro he; exact h1 (byte_zero.2 (Option.some.inj he)))
        clear h1
        go_wp2
        go_ret
        exact ⟨ret_eq (by rw [← HE.out]; rfl), rfl⟩
    · have HE : Hid (s.extract k s.size = nrmB s) := nrmB_drop s k hk HZ.out (by rw [byte_none s k (by omega)]; simp)
      go_wp2
      go_ret
      exact ⟨ret_eq (by rw [← HE.out]; rfl), rfl⟩
end Go.Proofs.YtjmonodjnljhdaaGreatDoor
