/-
  Several parts put together: Shelf, W1, W2, W3, W4.
-/
import Derived.Shelf.Small.Strs
import Derived.Shelf.Small.Bits
import Derived.Test.YtkdcffcgedhllaaProg
import Derived.Test.YtkdcffcgedhllaaGB
/- Part Shelf. -/

namespace Go.Proofs
open Go.Shelf
def Try.lays128_ren : Go.Shelf.Ren := ⟨fun | 128 => 88 | n => n, fun | 51 => 79 | 3 => 3 | 4 => 4 | 46 => 80 | 5 => 5 | 9 => 9 | n => n, fun | n => n⟩
theorem Try.lays128 : Go.Proofs.Lays.n128 Try.prog Try.lays128_ren := {
  mixed := by kernel_rfl
  f128 := Try.func88.trans (congrArg some (by kernel_rfl))
  t3 := Try.underlying3
  a3 := Try.isAgg3
  z3 := Try.sizeOf3
  v3 := Try.zeroValue3
  t4 := Try.underlying4
  a4 := Try.isAgg4
  z4 := Try.sizeOf4
  v4 := Try.zeroValue4
  t5 := Try.underlying5
  a5 := Try.isAgg5
  z5 := Try.sizeOf5
  v5 := Try.zeroValue5
  t9 := Try.underlying9
  a9 := Try.isAgg9
  z9 := Try.sizeOf9
  v9 := Try.zeroValue9
  t46 := Try.underlying80
  a46 := Try.isAgg80
  z46 := Try.sizeOf80
  v46 := Try.zeroValue80
  t51 := Try.underlying79
  a51 := Try.isAgg79
  z51 := Try.sizeOf79
  v51 := Try.zeroValue79 }
open Go.RowKit in
theorem Try.bits_Len32 (x : Int) (w : World) (h0 : 0 ≤ x) (h1 : x ≤ 4294967295) :
    Calls Try.prog 88 #[.int .u32 x] w fun e w' => e = .returned (.int .i64 (Lib.bitLen x.toNat)) ∧ w' = w := Any.bits_Len32 Try.lays128 x w h0 h1
end Go.Proofs

/- Part W1. -/

namespace Go.Proofs.Ytkdcffcgedhllaa
open Go.RowKit Nd

set_option maxRecDepth 20000 in
set_option maxHeartbeats 400000 in
theorem trim_row (g o cap : Nat) (xs : List Nat) (w : World) (hx : xs.length ≤ cap) (hm : cap ≤ 9223372036854775807)
    (hc : ∀ j, j < xs.length → w.cell? ⟨g, o + j, none⟩ = some (.int .u32 (xs.getD j 0 : Nat))) :
    Calls Try.prog 69 #[.slice (some ⟨g, o, none⟩) xs.length cap] w fun e w' => e = .returned (.slice (some ⟨g, o, none⟩) (tl xs) cap) ∧ w = w' := by
  go_enter Try.func69, Try.ntmps69
  go_wp2
  go_loop [0] (fun v => ∃ k : Nat, k ≤ xs.length ∧ v = .slice (some ⟨g, o, none⟩) k cap ∧ (∀ j, k ≤ j → xs.getD j 0 = 0)) (fun v => lenOf v)
  case atStart => exact ⟨xs.length, Nat.le_refl _, rfl, fun j hj => getD_ge _ _ hj⟩
  case round =>
    obtain ⟨k, hk, rfl, hz⟩ := hrel
    have HZ := Lib.hid hz; clear hz
    have HC := Lib.hid hc; clear hc
    by_cases h0 : 0 < k
    · have hcell := HC.out (k - 1) (by omega)
      obtain ⟨x, HX⟩ := name_it (xs.getD (k - 1) 0)
      rw [HX.out] at hcell
      by_cases hv : x = 0
      · subst hv
        go_wp2
        go_round
        case rel =>
          refine ⟨k - 1, by omega, rfl, fun j hj => ?_⟩
          by_cases hj' : j = k - 1
          · rw [hj']; exact HX.out
          · exact HZ.out j (by omega)
        case measure => simp [lenOf]; omega
      · have hb : ((x : Int) == 0) = false := by rw [beq_eq_false_iff_ne]; omega
        have he : Hid (tl xs = k) := tl_of xs k HZ.out (fun _ => by rw [HX.out]; exact hv)
        go_wp2
        go_ret
        exact ⟨ret_eq (by rw [he.out]; rfl), rfl⟩
    · have he : Hid (tl xs = k) := tl_of xs k HZ.out (fun h => absurd h h0)
      go_wp2
      go_ret
      exact ⟨ret_eq (by rw [he.out]; rfl), rfl⟩

set_option maxRecDepth 20000 in
theorem trim_nil (w : World) :
    Calls Try.prog 69 #[.slice none 0 0] w fun e w' => e = .returned (.slice none 0 0) ∧ w = w' := by
  go_enter Try.func69, Try.ntmps69
  go_wp2
  go_loop [0] (fun v => v = .slice none 0 0) (fun _ => 0)
  case atStart => rfl
  case round =>
    obtain rfl := hrel
    go_wp2
    go_ret
    exact ⟨rfl, rfl⟩

/-- The bytes without the leading zeros. -/
def nrmB (s : ByteArray) : ByteArray := ⟨(nrm s.data.toList).toArray⟩

theorem nrmB_drop (s : ByteArray) (k : Nat) (_hk : k ≤ s.size) (hz : ∀ j, j < k → s.data.toList[j]? = some 0) (hn : s.data.toList[k]? ≠ some 0) : s.extract k s.size = nrmB s := by
  unfold nrmB
  rw [nrm_drop _ k hz hn]
  apply ByteArray.ext
  apply Array.toList_inj.1
  simp
  exact List.take_of_length_le (by simp)

set_option maxRecDepth 20000 in
set_option maxHeartbeats 400000 in
theorem normalize_any (s : ByteArray) (w : World) (hs : s.size ≤ 9223372036854775807) :
    Calls Try.prog 70 #[.string s] w fun e w' => e = .returned (.string (nrmB s)) ∧ w = w' := by
  go_enter Try.func70, Try.ntmps70
  go_wp2
  go_loop [3] (fun v => ∃ k : Nat, k ≤ s.size ∧ v = .int .i64 k ∧ (∀ j, j < k → s.data.toList[j]? = some 0)) (fun v => s.size - (intOf v).toNat)
  case atStart => exact ⟨0, Nat.zero_le _, rfl, fun j hj => absurd hj (by omega)⟩
  case round =>
    obtain ⟨k, hk, rfl, hz⟩ := hrel
    have HZ := Lib.hid hz; clear hz
    by_cases h0 : k < s.size
    · by_cases h1 : ((s[k].toNat : Int) == 0) = true
      · have H1 := Lib.hid h1
        go_wp2
        go_round
        case rel =>
          refine ⟨k + 1, by omega, by go_num, fun j hj => ?_⟩
          by_cases hj' : j = k
          · subst hj'
            rw [byte_get s j h0, byte_zero.1 H1.out]
          · exact HZ.out j (by omega)
        case measure => simp [intOf]; omega
      · have h2 : ((s[k].toNat : Int) == 0) = false := by simpa using h1
        have HE : Hid (s.extract k s.size = nrmB s) := nrmB_drop s k hk HZ.out (by rw [byte_get s k h0]; intro he; exact h1 (byte_zero.2 (Option.some.inj he)))
        clear h1
        go_wp2
        go_ret
        exact ⟨ret_eq (by rw [← HE.out]; rfl), rfl⟩
    · have HE : Hid (s.extract k s.size = nrmB s) := nrmB_drop s k hk HZ.out (by rw [byte_none s k (by omega)]; simp)
      go_wp2
      go_ret
      exact ⟨ret_eq (by rw [← HE.out]; rfl), rfl⟩
end Go.Proofs.Ytkdcffcgedhllaa

/- Part W2. -/

namespace Go.Proofs.Ytkdcffcgedhllaa
open Go.RowKit Nd

def R (s : ByteArray) : List Nat := rb s.data.toList
def val (s : ByteArray) : Nat := bv s.data.toList
theorem R_length (s : ByteArray) : (R s).length = s.size := by simp [R, rb_length]
theorem lv_R (s : ByteArray) : lv 256 (R s) = val s := rfl
theorem R_dig (s : ByteArray) : dig 256 (R s) := rb_dig _
theorem R_lt (s : ByteArray) (k : Nat) : (R s).getD k 0 < 256 := dig_getD (by omega) (R_dig s) k
theorem R_get (s : ByteArray) (k i : Nat) (h : i + 1 + k = s.size) : (s[i]'(by omega)).toNat = (R s).getD k 0 := by
  rw [R, rb_getD _ _ (by simp; omega)]
  have e : s.data.toList.length - 1 - k = i := by simp; omega
  simp only [e]
  rfl

/-- The string of these bytes. -/
def strOf (xs : List Nat) : ByteArray := strOfNums (xs.map fun x : Nat => (x : Int))
theorem strOf_list (xs : List Nat) : (strOf xs).data.toList = ofNums xs := by
  simp [strOf, strOfNums, ofNums]
theorem run_str {w : World} {g cap : Nat} {xs : List Nat} (h : Row 5 .u8 w g cap xs) :
    (convert 88 9 (.slice (some ⟨g, 0, none⟩) xs.length cap)).run Try.prog w = .ok (.string (strOf xs)) w := by
  refine run_convert_bytes_arg w 88 5 Try.underlying88 Try.underlying5 g 0 xs.length cap _ (by simp) (fun i hi => ?_) 9 Try.underlying9
  rw [Nat.zero_add, h.cell i hi]
  simp [List.getD, hi]
theorem strOf_size (xs : List Nat) : (strOf xs).size = xs.length := by simp [strOf, strOfNums_size]
theorem val_strOf (xs : List Nat) (h : dig 256 xs) : val (strOf xs) = lv 256 xs.reverse := by
  rw [val, strOf_list, bv_ofNums xs h]

/-- The string s represents the number n, without leading zero bytes. -/
def Is (s : ByteArray) (n : Nat) : Prop := isN s.data.toList n
theorem Is_nrmB (s : ByteArray) : Is (nrmB s) (val s) := by
  unfold Is nrmB val; exact isN_nrm _
theorem Is_val {s : ByteArray} {n : Nat} (h : Is s n) : val s = n := h.1
theorem Is_unique {s t : ByteArray} {n : Nat} (h : Is s n) (k : Is t n) : s = t := by
  apply ByteArray.ext
  exact Array.toList_inj.1 (isN_unique h k)
theorem val_lt (s : ByteArray) : val s < 256 ^ s.size := by
  have := bv_lt s.data.toList
  simpa [val] using this
theorem Is_size {s : ByteArray} {n : Nat} (h : Is s n) (k : Nat) (hn : n < 256 ^ k) : s.size ≤ k := by
  have := isN_length h k hn
  simpa using this

/-- The state of Add's loop: the lower k digits are made, c is carried. -/
theorem add_round {A B D : List Nat} {n k c d c' : Nat} (hk : k < n) (hD : D.length = k) (hdig : dig 256 D) (hS : lv 256 D + 256 ^ k * c = lv 256 (A.take k) + lv 256 (B.take k))
    (hd : A.getD k 0 + B.getD k 0 + c = d + 256 * c') (hlt : d < 256) :
    (D ++ [d]).length = k + 1 ∧ dig 256 (D ++ [d]) ∧ lv 256 (D ++ [d]) + 256 ^ (k + 1) * c' = lv 256 (A.take (k + 1)) + lv 256 (B.take (k + 1)) ∧
    (List.replicate (n - k) 0 ++ D.reverse).set (n - 1 - k) d = List.replicate (n - (k + 1)) 0 ++ (D ++ [d]).reverse := by
  refine ⟨by simp [hD], dig_append hdig (dig_cons hlt (dig_nil _)), ?_, ?_⟩
  · rw [lv_snoc, hD, lv_take_step, lv_take_step]
    have := add_step 256 k _ c _ _ d c' _ hS hd
    omega
  · obtain ⟨m, hm⟩ : ∃ m, n - k = m + 1 := ⟨n - k - 1, by omega⟩
    have e1 : n - 1 - k = m := by omega
    have e2 : n - (k + 1) = m := by omega
    rw [hm, e1, e2, List.replicate_succ', List.append_assoc, List.set_append_right _ _ (by simp)]
    simp

end Go.Proofs.Ytkdcffcgedhllaa

/- Part W3. -/

namespace Go.Proofs.Ytkdcffcgedhllaa
open Go.RowKit Nd

theorem compareBytes_ord : ∀ (a b : List UInt8), a.length = b.length → Lib.compareBytes a b = ord (bv a) (bv b)
  | [], [], _ => by simp [Lib.compareBytes, ord]
  | [], _ :: _, h => by cases h
  | _ :: _, [], h => by cases h
  | x :: a, y :: b, h => by
    have hl : a.length = b.length := by simpa using h
    rw [bv_cons, bv_cons, hl, Lib.compareBytes]
    have ha := bv_lt a
    have hb := bv_lt b
    rw [hl] at ha
    by_cases h1 : x < y
    · rw [if_pos h1, ord_shift _ _ _ _ _ ha hb (UInt8.lt_iff_toNat_lt.1 h1)]
    · rw [if_neg h1]
      by_cases h2 : y < x
      · rw [if_pos h2, ord_shift' _ _ _ _ _ ha hb (UInt8.lt_iff_toNat_lt.1 h2)]
      · rw [if_neg h2]
        have : x = y := by
          apply UInt8.toNat_inj.1
          have h1' : ¬ x.toNat < y.toNat := fun h => h1 (UInt8.lt_iff_toNat_lt.2 h)
          have h2' : ¬ y.toNat < x.toNat := fun h => h2 (UInt8.lt_iff_toNat_lt.2 h)
          omega
        rw [this, ord_same, compareBytes_ord a b hl]

theorem nrmB_size (s : ByteArray) : (nrmB s).size ≤ s.size := by
  have h1 := nrm_length_le s.data.toList
  have h2 : (nrmB s).size = (nrm s.data.toList).length := by simp only [nrmB, ByteArray.size, List.size_toArray]
  have h3 : s.size = s.data.toList.length := by simp only [ByteArray.size, Array.length_toList]
  omega
theorem val_nrmB (s : ByteArray) : val (nrmB s) = val s := (Is_nrmB s).1

end Go.Proofs.Ytkdcffcgedhllaa

/- Part W4. -/

namespace Go.Proofs.Ytkdcffcgedhllaa
open Go.RowKit Nd

/-- A round of Subtract. -/
theorem sub_round {A B D : List Nat} {n k c d c' : Nat} (hk : k < n) (hD : D.length = k) (hdig : dig 256 D) (hS : lv 256 D + lv 256 (B.take k) = lv 256 (A.take k) + 256 ^ k * c)
    (hd : d + B.getD k 0 + c = A.getD k 0 + 256 * c') (hlt : d < 256) :
    (D ++ [d]).length = k + 1 ∧ dig 256 (D ++ [d]) ∧ lv 256 (D ++ [d]) + lv 256 (B.take (k + 1)) = lv 256 (A.take (k + 1)) + 256 ^ (k + 1) * c' ∧
    (List.replicate (n - k) 0 ++ D.reverse).set (n - 1 - k) d = List.replicate (n - (k + 1)) 0 ++ (D ++ [d]).reverse := by
  refine ⟨by simp [hD], dig_append hdig (dig_cons hlt (dig_nil _)), ?_, ?_⟩
  · rw [lv_snoc, hD, lv_take_step, lv_take_step]
    have := sub_step 256 k _ c _ _ d c' _ _ hS hd
    omega
  · obtain ⟨m, hm⟩ : ∃ m, n - k = m + 1 := ⟨n - k - 1, by omega⟩
    have e1 : n - 1 - k = m := by omega
    have e2 : n - (k + 1) = m := by omega
    rw [hm, e1, e2, List.replicate_succ', List.append_assoc, List.set_append_right _ _ (by simp)]
    simp

end Go.Proofs.Ytkdcffcgedhllaa
