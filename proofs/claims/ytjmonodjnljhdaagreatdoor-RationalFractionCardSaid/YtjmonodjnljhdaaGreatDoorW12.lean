/-
  Walks: isDecimal, chunk, scaleAndAdd.
-/
import Derived.Test.YtjmonodjnljhdaaGreatDoorW11
namespace Go.Proofs.YtjmonodjnljhdaaGreatDoor
open Go.RowKit Nd

theorem take_step (s : ByteArray) (k : Nat) (h : k < s.size) : s.data.toList.take (k + 1) = s.data.toList.take k ++ [s[k]] := by
  rw [List.take_succ_eq_append_getElem (by simpa using h)]; rfl
theorem all_take_false (s : ByteArray) (k : Nat) (h : k < s.size) (hf : isD s[k] = false) : s.data.toList.all isD = false := by
  rw [List.all_eq_false]
  refine ⟨s[k], ?_, by simp [hf]⟩
  exact List.mem_of_getElem? (byte_get s k h)

set_option maxRecDepth 20000 in
set_option maxHeartbeats 1000000 in
theorem isDecimal_loop (s : ByteArray) (w : World) (hs : s.size ≤ 1099511627776) (h0 : s.toList.isEmpty = false) (h1 : (1 ≤ s.size ∧ s.size ≤ 1) ∨ ∃ h : 1 < s.size, ((s[0].toNat : Int) == 48) = false) :
    Calls Tryz.prog 140 #[.string s] w fun e w' => e = .returned (.bool (s.data.toList.all isD)) ∧ w = w' := by
  obtain ⟨r, HR⟩ := name_it (s.data.toList.all isD)
  rw [HR.out]
  rcases h1 with ⟨h1, h2⟩ | ⟨h1, h2⟩
  all_goals
    go_enter Tryz.func140, Tryz.ntmps140
    go_wp2_with fail
    go_loop [18] (fun iv => ∃ k : Nat, k ≤ s.size ∧ iv = .int .i64 k ∧ (s.data.toList.take k).all isD = true) (fun iv => s.size - (intOf iv).toNat)
    case atStart => exact ⟨0, Nat.zero_le _, rfl, by simp⟩
    case round =>
      obtain ⟨k, hk, rfl, hall⟩ := hrel
      have HA := Lib.hid hall
      clear hall
      by_cases hlt : k < s.size
      · by_cases c1 : s[k].toNat < 48
        · have hr : r = false := by rw [← HR.out]; exact all_take_false s k hlt (by simp [isD]; omega)
          have c1' : (s[k].toNat : Int) < 48 := by omega
          subst hr
          go_wp2_with fail
          go_ret
          exact ⟨rfl, rfl⟩
        · by_cases c2 : 57 < s[k].toNat
          · have hr : r = false := by rw [← HR.out]; exact all_take_false s k hlt (by simp [isD]; omega)
            have c1' : ¬ (s[k].toNat : Int) < 48 := by omega
            have c2' : 57 < (s[k].toNat : Int) := by omega
            subst hr
            go_wp2_with fail
            go_ret
            exact ⟨rfl, rfl⟩
          · have hst : Hid ((s.data.toList.take (k + 1)).all isD = true) := by
              show _ = _
              rw [take_step s k hlt, List.all_append, HA.out]
              simp [isD]; omega
            have c1' : ¬ (s[k].toNat : Int) < 48 := by omega
            have c2' : ¬ 57 < (s[k].toNat : Int) := by omega
            go_wp2_with fail
            go_round
            case rel => exact ⟨k + 1, by omega, by go_num, hst.out⟩
            case measure => simp [intOf]; omega
      · have hr : r = true := by rw [← HR.out]; have := HA.out; rwa [List.take_of_length_le (by simp; omega)] at this
        subst hr
        go_wp2_with fail
        go_ret
        exact ⟨rfl, rfl⟩

set_option maxRecDepth 20000 in
theorem isDecimal_empty (s : ByteArray) (w : World) (h0 : s.toList.isEmpty = true) :
    Calls Tryz.prog 140 #[.string s] w fun e w' => e = .returned (.bool false) ∧ w = w' := by
  go_enter Tryz.func140, Tryz.ntmps140
  go_wp2_with fail
  go_ret
  exact ⟨rfl, rfl⟩
set_option maxRecDepth 20000 in
theorem isDecimal_zero (s : ByteArray) (w : World) (hs : s.size ≤ 1099511627776) (h0 : s.toList.isEmpty = false) (h : 1 < s.size) (h2 : ((s[0].toNat : Int) == 48) = true) :
    Calls Tryz.prog 140 #[.string s] w fun e w' => e = .returned (.bool false) ∧ w = w' := by
  go_enter Tryz.func140, Tryz.ntmps140
  go_wp2_with fail
  go_ret
  exact ⟨rfl, rfl⟩

theorem toList_data (s : ByteArray) : s.toList = s.data.toList := by rw [ByteArray.toList_eq]

theorem isDecimal_any (s : ByteArray) (w : World) (hs : s.size ≤ 1099511627776) :
    Calls Tryz.prog 140 #[.string s] w fun e w' => e = .returned (.bool (canD s.data.toList)) ∧ w = w' := by
  have hsz : s.size = s.data.toList.length := by simp
  by_cases he : s.toList.isEmpty = true
  · have : canD s.data.toList = false := by rw [toList_data] at he; simp [canD, he]
    rw [this]
    exact isDecimal_empty s w he
  · have he' : s.toList.isEmpty = false := by simpa using he
    have hpos : 1 ≤ s.size := by
      rw [toList_data] at he'
      rw [hsz]
      cases hl : s.data.toList with
      | nil => rw [hl] at he'; simp at he'
      | cons => simp
    have hne : s.data.toList.isEmpty = false := by rw [← toList_data]; exact he'
    by_cases h1 : 1 < s.size
    · have hg := byte_get s 0 (by omega)
      have hh : s.data.toList.head? = some s[0] := by rw [← hg, List.head?_eq_getElem?]
      by_cases h2 : ((s[0].toNat : Int) == 48) = true
      · have : canD s.data.toList = false := by
          have : s[0] = 48 := UInt8.toNat_inj.1 (by rw [beq_iff_eq] at h2; exact Int.ofNat_inj.1 h2)
          rw [this] at hh
          simp [canD, hh]
          intro _ _; omega
        rw [this]
        exact isDecimal_zero s w hs he' h1 h2
      · have h2' : ((s[0].toNat : Int) == 48) = false := by simpa using h2
        have : canD s.data.toList = s.data.toList.all isD := by
          have h3 : s[0] ≠ 48 := by intro h; rw [h] at h2; exact h2 rfl
          simp [canD, hne, hh, h3]
        rw [this]
        exact isDecimal_loop s w hs he' (.inr ⟨h1, h2'⟩)
    · have : canD s.data.toList = s.data.toList.all isD := by
        have h3 : s.data.toList.length = 1 := by omega
        simp only [canD, hne, h3]
        simp
      rw [this]
      exact isDecimal_loop s w hs he' (.inl ⟨hpos, by omega⟩)

end Go.Proofs.YtjmonodjnljhdaaGreatDoor
