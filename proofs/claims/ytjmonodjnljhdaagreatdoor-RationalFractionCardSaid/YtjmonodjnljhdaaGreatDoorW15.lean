/-
  Walks: divideByBillion, strings.TrimLeft at the cutset 0.
-/
import Derived.Test.YtjmonodjnljhdaaGreatDoorW14
import Derived.Test.YtjmonodjnljhdaaGreatDoorMath2
namespace Go.Proofs.YtjmonodjnljhdaaGreatDoor
open Go.RowKit Nd

set_option maxRecDepth 20000 in
set_option maxHeartbeats 1000000 in
theorem billion_any (g cap : Nat) (X : List Nat) (w : World) (hX : Row 45 .u32 w g cap X) (dX : dig 4294967296 X) (lx : X.length ≤ 1099511627776) :
    Calls Tryz.prog 121 #[.slice (some ⟨g, 0, none⟩) X.length cap] w fun e w' => ∃ (r : Nat) (L : List Nat), e = .returned (.int .u32 r) ∧
      Row 45 .u32 w' g cap L ∧ L.length = X.length ∧ dig 4294967296 L ∧ lv 4294967296 L = lv 4294967296 X / 1000000000 ∧ r = lv 4294967296 X % 1000000000 ∧ Chg [g] w w' := by
  obtain ⟨n, HN⟩ := name_it X.length
  have hs0 := ShI.start (d := 1000000000) (X := X) (L := X) (by omega) rfl dX
  rw [HN.out] at hs0 ⊢
  rw [HN.out] at lx
  go_enter Tryz.func121, Tryz.ntmps121
  go_wp2_with fail
  go_loopw [3, 4] (fun rv iv wr => ∃ (t r : Nat) (L : List Nat), t ≤ n ∧ iv = .int .i64 ((t : Int) - 1) ∧ rv = .int .u64 r ∧ ShI 1000000000 X t r L ∧ (∀ j, j < t → L.getD j 0 = X.getD j 0) ∧ Row 45 .u32 wr g cap L ∧ Chg [g] w wr)
    (fun _ iv _ => (intOf iv + 1).toNat)
  case atStart => exact ⟨n, 0, X, Nat.le_refl _, rfl, rfl, hs0, fun _ _ => rfl, hX, Chg.refl _ _⟩
  case round =>
    obtain ⟨t, r, L, ht, rfl, rfl, hP, ho, hr, hch⟩ := hrel
    clear hX hs0
    by_cases ht0 : 1 ≤ t
    · obtain ⟨i, rfl⟩ : ∃ i, t = i + 1 := ⟨t - 1, by omega⟩
      have hii : ((i + 1 : Nat) : Int) - 1 = (i : Int) := by omega
      rw [hii]
      clear hii ht0
      have hcl := hr.cell i (by rw [hP.len, HN.out]; omega)
      have hfr := hr.frozen i
      have hLX := ho i (by omega)
      obtain ⟨x, HX⟩ := name_it (L.getD i 0)
      rw [HX.out] at hcl hLX
      have hx : x < 4294967296 := by rw [← HX.out]; exact dig_getD (by omega) hP.digs _
      have hst := hP.step (by rw [HN.out]; omega) hLX.symm dX
      have hr1 := hP.rest
      have hor : bits BinOp.or IntKind.u64 ((r : Int) * 4294967296) (x : Int) = ((r * 4294967296 + x : Nat) : Int) := by
        have := or_u64 r x 32 (by omega) (by omega) (by omega)
        simpa using this
      obtain ⟨T, HT⟩ := name_it (r * 4294967296 + x)
      rw [HT.out] at hor hst
      have hT : T < 4294967296000000000 := by rw [← HT.out]; omega
      have HST := Lib.hid hst.2
      have hb := hst.1
      have HO := Lib.hid ho
      have e1 : Hid ((T : Int) / 1000000000 = ((T / 1000000000 : Nat) : Int)) := by show _ = _; omega
      have e2 : Hid ((T : Int) % 1000000000 = ((T % 1000000000 : Nat) : Int)) := by show _ = _; omega
      clear hst ho hLX hP
      go_wp2_with fail
      go_roundw
      case rel =>
        rw [e1.out, e2.out]
        exact ⟨i, _, _, by omega, rfl, rfl, HST.out, fun j hj => by rw [Nd.getD_set_ne (by omega)]; exact HO.out j (by omega), hr.store _ _, hch.setCell (.inl (by simp)) _⟩
      case measure => simp [intOf]
    · have ht1 : t = 0 := by omega
      subst ht1
      have hd := Lib.hid hP.done
      have hll : Hid (L.length = n) := by show L.length = n; rw [hP.len]; exact HN.out
      have dL := hP.digs
      have hr1 := hP.rest
      clear hP ho
      go_wp2_with fail
      go_ret
      exact ⟨r, L, ret_eq (by rfl), hr, hll.out, dL, hd.out.1, hd.out.2, hch⟩

set_option maxRecDepth 20000 in
set_option maxHeartbeats 400000 in
theorem trimLeftByte_any (s : ByteArray) (w : World) (hs : s.size ≤ 1099511627776) :
    Calls Tryz.prog 143 #[.string s, .int .u8 48] w fun e w' => ∃ t : ByteArray, e = .returned (.string t) ∧ t.data.toList = cut0 s.data.toList ∧ w = w' := by
  go_enter Tryz.func143, Tryz.ntmps143
  go_wp2_with fail
  go_loop [0] (fun sv => ∃ r : ByteArray, sv = .string r ∧ r.size ≤ 1099511627776 ∧ cut0 r.data.toList = cut0 s.data.toList) (fun sv => strLen sv)
  case atStart => exact ⟨s, rfl, hs, rfl⟩
  case round =>
    obtain ⟨r, rfl, hrs, hcut⟩ := hrel
    have HC := Lib.hid hcut
    clear hcut
    by_cases h0 : 0 < r.size
    · have hl : r.data.toList = r[0] :: r.data.toList.drop 1 := by
        have h1 := byte_get r 0 h0
        cases hc : r.data.toList with
        | nil => rw [hc] at h1; simp at h1
        | cons c l => rw [hc] at h1; simp at h1; rw [h1]; simp
      have HLL := Lib.hid hl
      clear hl
      by_cases h1 : ((r[0].toNat : Int) == 48) = true
      · have h48 : r[0] = 48 := UInt8.toNat_inj.1 (by rw [beq_iff_eq] at h1; exact Int.ofNat_inj.1 h1)
        obtain ⟨q, HQ⟩ := name_it (r.extract 1 r.size)
        have hq : q.data.toList = r.data.toList.drop 1 := by rw [← HQ.out, ext_list]; exact List.take_of_length_le (by simp)
        have hqs : q.size + 1 = r.size := by
          have h2 : q.size = q.data.toList.length := by simp
          have h3 : r.size = r.data.toList.length := by simp
          rw [h2, hq, List.length_drop]
          omega
        have hc : cut0 q.data.toList = cut0 s.data.toList := by
          rw [← HC.out, HLL.out, h48, hq]; simp [cut0]
        have HC2 := Lib.hid hc
        have HQS := Lib.hid hqs
        clear hc hq hqs h48
        go_wp2_with fail
        go_round
        case rel =>
          rw [HQ.out]
          exact ⟨q, rfl, by have := HQS.out; omega, HC2.out⟩
        case measure =>
          rw [HQ.out]
          have := HQS.out
          simp only [strLen]
          omega
      · have h1' : ((r[0].toNat : Int) == 48) = false := by simpa using h1
        have h48 : r[0] ≠ 48 := by intro h; rw [h] at h1; exact h1 rfl
        have hE : Hid (r.data.toList = cut0 s.data.toList) := by
          rw [← HC.out]
          show r.data.toList = cut0 r.data.toList
          rw [HLL.out]; simp [cut0, h48]
        clear h1 h48
        go_wp2_with fail
        go_ret
        exact ⟨r, rfl, hE.out, rfl⟩
    · have hE : Hid (r.data.toList = cut0 s.data.toList) := by
        rw [← HC.out]
        show r.data.toList = cut0 r.data.toList
        have : r.data.toList = [] := by
          apply List.eq_nil_of_length_eq_zero
          have : r.data.toList.length = r.size := by simp
          omega
        rw [this]; rfl
      go_wp2_with fail
      go_ret
      exact ⟨r, rfl, hE.out, rfl⟩

set_option maxRecDepth 100000 in
theorem trimLeft_any (s : ByteArray) (w : World) (hs : s.size ≤ 1099511627776) :
    Calls Tryz.prog 123 #[.string s, .string ⟨#[48]⟩] w fun e w' => ∃ t : ByteArray, e = .returned (.string t) ∧ t.data.toList = cut0 s.data.toList ∧ w = w' := by
  by_cases h0 : s.toList.isEmpty = true
  · have hE : Hid (s.data.toList = cut0 s.data.toList) := by
      rw [toList_data] at h0
      have : s.data.toList = [] := by simpa using h0
      rw [this]; rfl
    go_enter Tryz.func123, Tryz.ntmps123
    go_wp2_with fail
    go_ret
    exact ⟨s, rfl, hE.out, rfl⟩
  · have h0' : s.toList.isEmpty = false := by simpa using h0
    clear h0
    go_enter Tryz.func123, Tryz.ntmps123
    go_wp2_with fail
    refine (trimLeftByte_any s _ hs).mono ?_
    rintro e w' ⟨t, rfl, ht, rfl⟩
    have HT := Lib.hid ht
    clear ht
    go_wp2_with fail
    go_ret
    exact ⟨t, rfl, HT.out, rfl⟩

end Go.Proofs.YtjmonodjnljhdaaGreatDoor
