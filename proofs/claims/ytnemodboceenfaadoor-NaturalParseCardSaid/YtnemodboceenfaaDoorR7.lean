/-
  Walks of the reference: Digits, value, NatParse.
-/
import Derived.Test.YtnemodboceenfaaDoorR6
namespace Go.Proofs.YtnemodboceenfaaDoor
open Go.RowKit Nd

set_option maxHeartbeats 1000000 in
theorem digits_loop (s : ByteArray) (w : World) (hs : s.size ≤ 1099511627776) (r : Bool) (hr : r = canD s.data.toList)
    (hend : s.data.toList.all isD = true → (s.toList.isEmpty = true ∧ r = false) ∨ (s.toList.isEmpty = false ∧ ∃ h : 0 < s.size, (((s[0].toNat : Int) != 48) = true ∧ r = true) ∨ (((s[0].toNat : Int) != 48) = false ∧ ((s.size : Int) == 1) = r))) :
    Calls Tryd.prog 61 #[.string s] w fun e w' => e = .returned (.bool r) ∧ w = w' := by
  have HEND := Lib.hid hend
  have HR := Lib.hid hr
  clear hend hr
  go_enter Tryd.func61, Tryd.ntmps61
  go_wp2_with fail
  go_loop [3] (fun iv => ∃ k : Nat, k ≤ s.size ∧ iv = .int .i64 k ∧ (s.data.toList.take k).all isD = true) (fun iv => s.size - (intOf iv).toNat)
  case atStart => exact ⟨0, Nat.zero_le _, rfl, by simp⟩
  case round =>
    obtain ⟨k, hk, rfl, hall⟩ := hrel
    have HA := Lib.hid hall
    clear hall
    by_cases hlt : k < s.size
    · have hbad : isD s[k] = false → r = false := by
        intro h
        rw [HR.out]
        have := all_take_false s k hlt h
        simp [canD, this]
      have HBAD := Lib.hid hbad
      clear hbad
      by_cases c1 : s[k].toNat < 48
      · have hr : r = false := HBAD.out (by simp [isD]; omega)
        have c1' : (s[k].toNat : Int) < 48 := by omega
        subst hr
        go_wp2_with fail
        go_ret
        exact ⟨rfl, rfl⟩
      · by_cases c2 : 57 < s[k].toNat
        · have hr : r = false := HBAD.out (by simp [isD]; omega)
          have c1' : ¬ (s[k].toNat : Int) < 48 := by omega
          have c2' : 57 < (s[k].toNat : Int) := by omega
          subst hr
          go_wp2_with fail
          go_ret
          exact ⟨rfl, rfl⟩
        · have hst : Hid ((s.data.toList.take (k + 1)).all isD = true) := by
            show _ = _
            rw [take_step s k hlt, List.all_append, HA.out]
            simp [isD]; omega
          have c1' : ¬ (s[k].toNat : Int) < 48 := by omega
          have c2' : ¬ 57 < (s[k].toNat : Int) := by omega
          go_wp2_with fail
          go_round
          case rel => exact ⟨k + 1, by omega, by go_num, hst.out⟩
          case measure => simp [intOf]; omega
    · have hall : s.data.toList.all isD = true := by have := HA.out; rwa [List.take_of_length_le (by simp; omega)] at this
      rcases HEND.out hall with ⟨he, hr⟩ | ⟨he, h0, ⟨h1, hr⟩ | ⟨h1, hr⟩⟩
      · subst hr
        have he2 : (!s.toList.isEmpty) = false := by simp [he]
        clear hall
        go_wp2_with fail
        go_ret
        exact ⟨rfl, rfl⟩
      · subst hr
        have he2 : (!s.toList.isEmpty) = true := by simp [he]
        clear hall
        go_wp2_with fail
        go_ret
        exact ⟨rfl, rfl⟩
      · have he2 : (!s.toList.isEmpty) = true := by simp [he]
        clear hall
        cases r with
        | true =>
          go_wp2_with fail
          go_ret
          exact ⟨rfl, rfl⟩
        | false =>
          go_wp2_with fail
          go_ret
          exact ⟨rfl, rfl⟩

theorem digits_any (s : ByteArray) (w : World) (hs : s.size ≤ 1099511627776) :
    Calls Tryd.prog 61 #[.string s] w fun e w' => e = .returned (.bool (canD s.data.toList)) ∧ w = w' := by
  refine digits_loop s w hs _ rfl (fun hall => ?_)
  have hsz : s.size = s.data.toList.length := by simp
  by_cases he : s.toList.isEmpty = true
  · refine .inl ⟨he, ?_⟩
    rw [toList_data] at he
    simp [canD, he]
  · have he' : s.toList.isEmpty = false := by simpa using he
    have hne : s.data.toList.isEmpty = false := by rw [← toList_data]; exact he'
    have hpos : 0 < s.size := by
      rw [hsz]
      cases hl : s.data.toList with
      | nil => rw [hl] at hne; simp at hne
      | cons => simp
    have hg := byte_get s 0 hpos
    have hh : s.data.toList.head? = some s[0] := by rw [← hg, List.head?_eq_getElem?]
    refine .inr ⟨he', hpos, ?_⟩
    by_cases h2 : ((s[0].toNat : Int) == 48) = true
    · have h48 : s[0] = 48 := UInt8.toNat_inj.1 (by rw [beq_iff_eq] at h2; exact Int.ofNat_inj.1 h2)
      refine .inr ⟨by simp [bne, h2], ?_⟩
      rw [h48] at hh
      simp only [canD, hne, hall, hh]
      rw [← hsz]
      by_cases h1 : s.size = 1
      · simp [h1]
      · have : ((s.size : Int) == 1) = false := by rw [beq_eq_false_iff_ne]; omega
        simp [h1, this]
    · have h2' : ((s[0].toNat : Int) == 48) = false := by simpa using h2
      refine .inl ⟨by simp [bne, h2'], ?_⟩
      have h3 : s[0] ≠ 48 := by intro h; rw [h] at h2; exact h2 rfl
      simp [canD, hne, hall, hh, h3]

end Go.Proofs.YtnemodboceenfaaDoor
