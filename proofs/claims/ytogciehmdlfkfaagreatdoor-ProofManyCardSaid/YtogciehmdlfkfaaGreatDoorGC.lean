/-
  Several parts put together: Shelf, W1, W2, W3, W4.
-/
import Derived.Shelf.Small.Strs
import Derived.Shelf.Small.Bits
import Derived.Test.YtogciehmdlfkfaaGreatDoorProg
import Derived.Test.YtogciehmdlfkfaaGreatDoorGB
/- Part Shelf. -/

namespace Go.Proofs
open Go.Shelf
def Tryz.lays128_ren : Go.Shelf.Ren := ⟨fun | 128 => 203 | n => n, fun | 51 => 120 | 3 => 3 | 4 => 4 | 46 => 121 | 5 => 5 | 9 => 9 | n => n, fun | n => n⟩
theorem Tryz.lays128 : Go.Proofs.Lays.n128 Tryz.prog Tryz.lays128_ren := {
  mixed := by kernel_rfl
  f128 := Tryz.func203.trans (congrArg some (by kernel_rfl))
  t3 := Tryz.underlying3
  a3 := Tryz.isAgg3
  z3 := Tryz.sizeOf3
  v3 := Tryz.zeroValue3
  t4 := Tryz.underlying4
  a4 := Tryz.isAgg4
  z4 := Tryz.sizeOf4
  v4 := Tryz.zeroValue4
  t5 := Tryz.underlying5
  a5 := Tryz.isAgg5
  z5 := Tryz.sizeOf5
  v5 := Tryz.zeroValue5
  t9 := Tryz.underlying9
  a9 := Tryz.isAgg9
  z9 := Tryz.sizeOf9
  v9 := Tryz.zeroValue9
  t46 := Tryz.underlying121
  a46 := Tryz.isAgg121
  z46 := Tryz.sizeOf121
  v46 := Tryz.zeroValue121
  t51 := Tryz.underlying120
  a51 := Tryz.isAgg120
  z51 := Tryz.sizeOf120
  v51 := Tryz.zeroValue120 }
open Go.RowKit in
theorem Tryz.bits_Len32 (x : Int) (w : World) (h0 : 0 ≤ x) (h1 : x ≤ 4294967295) :
    Calls Tryz.prog 203 #[.int .u32 x] w fun e w' => e = .returned (.int .i64 (Lib.bitLen x.toNat)) ∧ w' = w := Any.bits_Len32 Tryz.lays128 x w h0 h1
end Go.Proofs

/- Part W1. -/

namespace Go.Proofs.YtogciehmdlfkfaaGreatDoor
open Go.RowKit Nd

set_option maxRecDepth 20000 in
set_option maxHeartbeats 400000 in
theorem trim_row (g o cap : Nat) (xs : List Nat) (w : World) (hx : xs.length ≤ cap) (hm : cap ≤ 9223372036854775807)
    (hc : ∀ j, j < xs.length → w.cell? ⟨g, o + j, none⟩ = some (.int .u32 (xs.getD j 0 : Nat))) :
    Calls Tryz.prog 131 #[.slice (some ⟨g, o, none⟩) xs.length cap] w fun e w' => e = .returned (.slice (some ⟨g, o, none⟩) (tl xs) cap) ∧ w = w' := by
  go_enter Tryz.func131, Tryz.ntmps131
  go_wp2
  go_loop [0] (fun v => ∃ k : Nat, k ≤ xs.length ∧ v = .slice (some ⟨g, o, none⟩) k cap ∧ (∀ j, k ≤ j → xs.getD j 0 = 0)) (fun v => lenOf v)
  case atStart => exact ⟨xs.length, Nat.le_refl _, rfl, fun j hj => getD_ge _ _ hj⟩
  case round =>
    obtain ⟨k, hk, rfl, hz⟩ := hrel
    have HZ := Lib.hid hz; clear hz
    have HC := Lib.hid hc; clear hc
    by_cases h0 : 0 < k
    · have hcell := HC.out (k - 1) (by omega)
      obtain ⟨x, HX⟩ := name_it (xs.getD (k - 1) 0)
      rw [HX.out] at hcell
      by_cases hv : x = 0
      · subst hv
        go_wp2
        go_round
        case rel =>
          refine ⟨k - 1, by omega, rfl, fun j hj => ?_⟩
          by_cases hj' : j = k - 1
          · rw [hj']; exact HX.out
          · exact HZ.out j (by omega)
        case measure => simp [lenOf]; omega
      · have hb : ((x : Int) == 0) = false := by rw [beq_eq_false_iff_ne]; omega
        have he : Hid (tl xs = k) := tl_of xs k HZ.out (fun _ => by rw [HX.out]; exact hv)
        go_wp2
        go_ret
        exact ⟨ret_eq (by rw [he.out]; rfl), rfl⟩
    · have he : Hid (tl xs = k) := tl_of xs k HZ.out (fun h => absurd h h0)
      go_wp2
      go_ret
      exact ⟨ret_eq (by rw [he.out]; rfl), rfl⟩

set_option maxRecDepth 20000 in
theorem trim_nil (w : World) :
    Calls Tryz.prog 131 #[.slice none 0 0] w fun e w' => e = .returned (.slice none 0 0) ∧ w = w' := by
  go_enter Tryz.func131, Tryz.ntmps131
  go_wp2
  go_loop [0] (fun v => v = .slice none 0 0) (fun _ => 0)
  case atStart => rfl
  case round =>
    obtain rfl := hrel
    go_wp2
    go_ret
    exact ⟨rfl, rfl⟩

/-- The bytes without the leading zeros. -/
def nrmB (s : ByteArray) : ByteArray := ⟨(nrm s.data.toList).toArray⟩

theorem nrmB_drop (s : ByteArray) (k : Nat) (_hk : k ≤ s.size) (hz : ∀ j, j < k → s.data.toList[j]? = some 0) (hn : s.data.toList[k]? ≠ some 0) : s.extract k s.size = nrmB s := by
  unfold nrmB
  rw [nrm_drop _ k hz hn]
  apply ByteArray.ext
  apply Array.toList_inj.1
  simp
  exact List.take_of_length_le (by simp)

set_option maxRecDepth 20000 in
set_option maxHeartbeats 400000 in
theorem normalize_any (s : ByteArray) (w : World) (hs : s.size ≤ 9223372036854775807) :
    Calls Tryz.prog 154 #[.string s] w fun e w' => e = .returned (.string (nrmB s)) ∧ w = w' := by
  go_enter Tryz.func154, Tryz.ntmps154
  go_wp2
  go_loop [3] (fun v => ∃ k : Nat, k ≤ s.size ∧ v = .int .i64 k ∧ (∀ j, j < k → s.data.toList[j]? = some 0)) (fun v => s.size - (intOf v).toNat)
  case atStart => exact ⟨0, Nat.zero_le _, rfl, fun j hj => absurd hj (by omega)⟩
  case round =>
    obtain ⟨k, hk, rfl, hz⟩ := hrel
    have HZ := Lib.hid hz; clear hz
    by_cases h0 : k < s.size
    · by_cases h1 : ((s[k].toNat : Int) == 0) = true
      · have H1 := Lib.hid h1
        go_wp2
        go_round
        case rel =>
          refine ⟨k + 1, by omega, by go_num, fun j hj => ?_⟩
          by_cases hj' : j = k
          · subst hj'
            rw [byte_get s j h0, byte_zero.1 H1.out]
          · exact HZ.out j (by omega)
        case measure => simp [intOf]; omega
      · have h2 : ((s[k].toNat : Int) == 0) = false := by simpa using h1
        have HE : Hid (s.extract k s.size = nrmB s) := nrmB_drop s k hk HZ.out (by rw [byte_get s k h0]; intro he; exact h1 (byte_zero.2 (Option.some.inj he)))
        clear h1
        go_wp2
        go_ret
        exact ⟨ret_eq (by rw [← HE.out]; rfl), rfl⟩
    · have HE : Hid (s.extract k s.size = nrmB s) := nrmB_drop s k hk HZ.out (by rw [byte_none s k (by omega)]; simp)
      go_wp2
      go_ret
      exact ⟨ret_eq (by rw [← HE.out]; rfl), rfl⟩
end Go.Proofs.YtogciehmdlfkfaaGreatDoor

/- Part W2. -/

namespace Go.Proofs.YtogciehmdlfkfaaGreatDoor
open Go.RowKit Nd

def R (s : ByteArray) : List Nat := rb s.data.toList
def val (s : ByteArray) : Nat := bv s.data.toList
theorem R_length (s : ByteArray) : (R s).length = s.size := by simp [R, rb_length]
theorem lv_R (s : ByteArray) : lv 256 (R s) = val s := rfl
theorem R_dig (s : ByteArray) : dig 256 (R s) := rb_dig _
theorem R_lt (s : ByteArray) (k : Nat) : (R s).getD k 0 < 256 := dig_getD (by omega) (R_dig s) k
theorem R_get (s : ByteArray) (k i : Nat) (h : i + 1 + k = s.size) : (s[i]'(by omega)).toNat = (R s).getD k 0 := by
  rw [R, rb_getD _ _ (by simp; omega)]
  have e : s.data.toList.length - 1 - k = i := by simp; omega
  simp only [e]
  rfl

set_option maxRecDepth 20000 in
set_option maxHeartbeats 400000 in
theorem digit_any (s : ByteArray) (i : Nat) (w : World) (hs : s.size ≤ 1099511627776) (hi : i ≤ 1099511627777) :
    Calls Tryz.prog 201 #[.string s, .int .i64 i] w fun e w' => e = .returned (.int .i64 ((R s).getD i 0 : Nat)) ∧ w = w' := by
  by_cases h : i < s.size
  · have hg := R_get s i (s.size - 1 - i) (by omega)
    have HG := Lib.hid hg; clear hg
    have hb := s[s.size - 1 - i].toNat_lt
    go_enter Tryz.func201, Tryz.ntmps201
    go_wp2
    go_ret
    exact ⟨ret_eq (by rw [← HG.out]; rfl), rfl⟩
  · have HG : Hid ((R s).getD i 0 = 0) := getD_ge _ _ (by rw [R_length]; omega)
    go_enter Tryz.func201, Tryz.ntmps201
    go_wp2
    go_ret
    exact ⟨ret_eq (by rw [HG.out]; rfl), rfl⟩

/-- The string of these bytes. -/
def strOf (xs : List Nat) : ByteArray := strOfNums (xs.map fun x : Nat => (x : Int))
theorem strOf_list (xs : List Nat) : (strOf xs).data.toList = ofNums xs := by
  simp [strOf, strOfNums, ofNums]
theorem run_str {w : World} {g cap : Nat} {xs : List Nat} (h : Row 5 .u8 w g cap xs) :
    (convert 51 9 (.slice (some ⟨g, 0, none⟩) xs.length cap)).run Tryz.prog w = .ok (.string (strOf xs)) w := by
  refine run_convert_bytes_arg w 51 5 Tryz.underlying51 Tryz.underlying5 g 0 xs.length cap _ (by simp) (fun i hi => ?_) 9 Tryz.underlying9
  rw [Nat.zero_add, h.cell i hi]
  simp [List.getD, hi]
theorem strOf_size (xs : List Nat) : (strOf xs).size = xs.length := by simp [strOf, strOfNums_size]
theorem val_strOf (xs : List Nat) (h : dig 256 xs) : val (strOf xs) = lv 256 xs.reverse := by
  rw [val, strOf_list, bv_ofNums xs h]

/-- The string s represents the number n, without leading zero bytes. -/
def Is (s : ByteArray) (n : Nat) : Prop := isN s.data.toList n
theorem Is_nrmB (s : ByteArray) : Is (nrmB s) (val s) := by
  unfold Is nrmB val; exact isN_nrm _
theorem Is_val {s : ByteArray} {n : Nat} (h : Is s n) : val s = n := h.1
theorem Is_unique {s t : ByteArray} {n : Nat} (h : Is s n) (k : Is t n) : s = t := by
  apply ByteArray.ext
  exact Array.toList_inj.1 (isN_unique h k)
theorem val_lt (s : ByteArray) : val s < 256 ^ s.size := by
  have := bv_lt s.data.toList
  simpa [val] using this
theorem Is_size {s : ByteArray} {n : Nat} (h : Is s n) (k : Nat) (hn : n < 256 ^ k) : s.size ≤ k := by
  have := isN_length h k hn
  simpa using this

/-- The state of Add's loop: the lower k digits are made, c is carried. -/
theorem add_round {A B D : List Nat} {n k c d c' : Nat} (hk : k < n) (hD : D.length = k) (hdig : dig 256 D) (hS : lv 256 D + 256 ^ k * c = lv 256 (A.take k) + lv 256 (B.take k))
    (hd : A.getD k 0 + B.getD k 0 + c = d + 256 * c') (hlt : d < 256) :
    (D ++ [d]).length = k + 1 ∧ dig 256 (D ++ [d]) ∧ lv 256 (D ++ [d]) + 256 ^ (k + 1) * c' = lv 256 (A.take (k + 1)) + lv 256 (B.take (k + 1)) ∧
    (List.replicate (n - k) 0 ++ D.reverse).set (n - 1 - k) d = List.replicate (n - (k + 1)) 0 ++ (D ++ [d]).reverse := by
  refine ⟨by simp [hD], dig_append hdig (dig_cons hlt (dig_nil _)), ?_, ?_⟩
  · rw [lv_snoc, hD, lv_take_step, lv_take_step]
    have := add_step 256 k _ c _ _ d c' _ hS hd
    omega
  · obtain ⟨m, hm⟩ : ∃ m, n - k = m + 1 := ⟨n - k - 1, by omega⟩
    have e1 : n - 1 - k = m := by omega
    have e2 : n - (k + 1) = m := by omega
    rw [hm, e1, e2, List.replicate_succ', List.append_assoc, List.set_append_right _ _ (by simp)]
    simp

set_option maxRecDepth 20000 in
set_option maxHeartbeats 1000000 in
theorem add_any (a b : ByteArray) (w : World) (ha : a.size ≤ 1099511627776) (hb : b.size ≤ 1099511627776) :
    Calls Tryz.prog 188 #[.string a, .string b] w fun e w' => ∃ s, e = .returned (.string s) ∧ Is s (val a + val b) ∧ Chg [] w w' := by
  obtain ⟨i0, hi, hz0, hz1, hz2⟩ := info_parts Tryz.info8
  obtain ⟨n, HN⟩ := name_it (max a.size b.size + 1)
  have hn1 : a.size + 1 ≤ n := by have := HN.out; omega
  have hn2 : b.size + 1 ≤ n := by have := HN.out; omega
  have hn3 : n ≤ 1099511627777 := by have := HN.out; omega
  go_enter Tryz.func188, Tryz.ntmps188
  go_wp2_with (at_make; refine wpList_make_full _ rfl (.tmp 13) (.tmp 13) 51 rfl 0 5 i0 (.int .u8 0) 1 Tryz.underlying51 hi hz0 hz1 .i64 .i64 _ _ n rfl rfl (by have := HN.out; omega) (by have := HN.out; omega) (by rw [hz2]; omega) (by unfold maxLen; omega) (Nat.zero_le _) ?_)
  intro w1 hown hgr
  have hrow : Row 5 .u8 w1 w.heap.size n (List.replicate n 0) := Row.of_make 0 (by simpa [toList_madeCells_one] using hown)
  have hch : Chg [] w w1 := Chg.of_grown hgr
  obtain ⟨g, HG⟩ := name_it w.heap.size
  rw [HG.out] at hrow ⊢
  clear hown hgr hi hz0 hz1 hz2
  go_wp2_with fail
  go_loopw [6, 17] (fun cv iv wr => ∃ (k c : Nat) (D : List Nat), k ≤ n ∧ iv = .int .i64 k ∧ cv = .int .i64 c ∧ D.length = k ∧ dig 256 D ∧
      lv 256 D + 256 ^ k * c = lv 256 ((R a).take k) + lv 256 ((R b).take k) ∧ c ≤ 1 ∧ Row 5 .u8 wr g n (List.replicate (n - k) 0 ++ D.reverse) ∧ Chg [] w wr)
    (fun _ iv _ => n - (intOf iv).toNat)
  case atStart => exact ⟨0, 0, [], Nat.zero_le _, rfl, rfl, rfl, dig_nil _, by simp, by omega, by simpa using hrow, hch⟩
  case round =>
    obtain ⟨k, c, D, hk, rfl, rfl, hD, hdig, hS, hc, hr, hchr⟩ := hrel
    have HD := Lib.hid hD; have HS := Lib.hid hS; clear hD hS hrow hch
    have hlen : (List.replicate (n - k) 0 ++ D.reverse).length = n := by simp [HD.out]; omega
    have HL := Lib.hid hlen; clear hlen
    by_cases hlt : k < n
    · have hA := R_lt a k
      have hB := R_lt b k
      obtain ⟨x, HX⟩ := name_it ((R a).getD k 0)
      obtain ⟨y, HY⟩ := name_it ((R b).getD k 0)
      have hx : x < 256 := by rw [← HX.out]; exact hA
      have hy : y < 256 := by rw [← HY.out]; exact hB
      have hfr : wr.frozen? ⟨g, n - 1 - k, none⟩ = false := hr.frozen _
      have hce := hr.cell (n - 1 - k) (by rw [HL.out]; omega)
      obtain ⟨old, HO⟩ := name_it ((List.replicate (n - k) 0 ++ D.reverse).getD (n - 1 - k) 0)
      rw [HO.out] at hce
      clear hA hB
      go_wp2_with (first | (go_at_call 201; (with_reducible refine (digit_any a k _ ha (by omega)).mono ?_); rintro e w' ⟨rfl, rfl⟩; rw [HX.out]) | (go_at_call 201; (with_reducible refine (digit_any b k _ hb (by omega)).mono ?_); rintro e w' ⟨rfl, rfl⟩; rw [HY.out]))
      have e1 : ((c : Int) + ((x : Int) + (y : Int))) % 256 = (((c + (x + y)) % 256 : Nat) : Int) := by omega
      have e2 : ((c : Int) + ((x : Int) + (y : Int))) / 256 = (((c + (x + y)) / 256 : Nat) : Int) := by omega
      obtain ⟨r1, r2, r3, r4⟩ := add_round (A := R a) (B := R b) (d := (c + (x + y)) % 256) (c' := (c + (x + y)) / 256) hlt HD.out hdig HS.out (by rw [HX.out, HY.out]; omega) (by omega)
      go_roundw
      case rel =>
        refine ⟨k + 1, (c + (x + y)) / 256, D ++ [(c + (x + y)) % 256], by omega, by go_num, by rw [e2], r1, r2, r3, by omega, ?_, hchr.setCell (.inr (by rw [← HG.out]; exact Nat.le_refl _)) _⟩
        rw [← r4, e1]
        exact hr.store _ _
      case measure => simp [intOf]; omega
    · obtain ⟨xs, HXS⟩ := name_it (List.replicate (n - k) 0 ++ D.reverse)
      rw [HXS.out] at hr
      have hl : Hid (xs.length = n) := by rw [← HXS.out]; exact HL.out
      have hstr := run_str hr
      rw [hl.out] at hstr
      have hnk : k = n := by omega
      have hx : dig 256 xs := by rw [← HXS.out]; exact dig_append (dig_replicate (by omega) _) (fun y hy => hdig y (by simpa using hy))
      have hv : Hid (val (strOf xs) = val a + val b) := by
        show val (strOf xs) = val a + val b
        have h1 := HS.out
        rw [lv_take_all _ _ _ (by rw [R_length]; omega), lv_take_all _ _ _ (by rw [R_length]; omega), lv_R, lv_R] at h1
        have h2 := val_lt a
        have h3 := val_lt b
        have h4 : 256 ^ a.size ≤ 256 ^ (n - 1) := Nat.pow_le_pow_right (by omega) (by omega)
        have h5 : 256 ^ b.size ≤ 256 ^ (n - 1) := Nat.pow_le_pow_right (by omega) (by omega)
        have h6 : 256 ^ n = 256 ^ (n - 1) * 256 := by rw [← Nat.pow_succ]; congr 1; omega
        have h7 : c = 0 := by
          apply Classical.byContradiction
          intro hc0
          have : 256 ^ k * 1 ≤ 256 ^ k * c := Nat.mul_le_mul_left _ (by omega)
          rw [hnk] at this h1
          omega
        rw [val_strOf _ hx, ← HXS.out, hnk, Nat.sub_self]
        simp
        rw [h7] at h1
        simpa using h1
      clear hnk
      go_wp2_with (go_at_call 154; (with_reducible refine (normalize_any _ _ (by rw [strOf_size, hl.out]; omega)).mono ?_); rintro e w' ⟨rfl, rfl⟩)
      go_ret
      exact ⟨_, rfl, by rw [← hv.out]; exact Is_nrmB _, hchr⟩

end Go.Proofs.YtogciehmdlfkfaaGreatDoor

/- Part W3. -/

namespace Go.Proofs.YtogciehmdlfkfaaGreatDoor
open Go.RowKit Nd

theorem compareBytes_ord : ∀ (a b : List UInt8), a.length = b.length → Lib.compareBytes a b = ord (bv a) (bv b)
  | [], [], _ => by simp [Lib.compareBytes, ord]
  | [], _ :: _, h => by cases h
  | _ :: _, [], h => by cases h
  | x :: a, y :: b, h => by
    have hl : a.length = b.length := by simpa using h
    rw [bv_cons, bv_cons, hl, Lib.compareBytes]
    have ha := bv_lt a
    have hb := bv_lt b
    rw [hl] at ha
    by_cases h1 : x < y
    · rw [if_pos h1, ord_shift _ _ _ _ _ ha hb (UInt8.lt_iff_toNat_lt.1 h1)]
    · rw [if_neg h1]
      by_cases h2 : y < x
      · rw [if_pos h2, ord_shift' _ _ _ _ _ ha hb (UInt8.lt_iff_toNat_lt.1 h2)]
      · rw [if_neg h2]
        have : x = y := by
          apply UInt8.toNat_inj.1
          have h1' : ¬ x.toNat < y.toNat := fun h => h1 (UInt8.lt_iff_toNat_lt.2 h)
          have h2' : ¬ y.toNat < x.toNat := fun h => h2 (UInt8.lt_iff_toNat_lt.2 h)
          omega
        rw [this, ord_same, compareBytes_ord a b hl]

theorem nrmB_size (s : ByteArray) : (nrmB s).size ≤ s.size := by
  have h1 := nrm_length_le s.data.toList
  have h2 : (nrmB s).size = (nrm s.data.toList).length := by simp only [nrmB, ByteArray.size, List.size_toArray]
  have h3 : s.size = s.data.toList.length := by simp only [ByteArray.size, Array.length_toList]
  omega
theorem val_nrmB (s : ByteArray) : val (nrmB s) = val s := (Is_nrmB s).1

end Go.Proofs.YtogciehmdlfkfaaGreatDoor

/- Part W4. -/

namespace Go.Proofs.YtogciehmdlfkfaaGreatDoor
open Go.RowKit Nd

/-- A round of Subtract. -/
theorem sub_round {A B D : List Nat} {n k c d c' : Nat} (hk : k < n) (hD : D.length = k) (hdig : dig 256 D) (hS : lv 256 D + lv 256 (B.take k) = lv 256 (A.take k) + 256 ^ k * c)
    (hd : d + B.getD k 0 + c = A.getD k 0 + 256 * c') (hlt : d < 256) :
    (D ++ [d]).length = k + 1 ∧ dig 256 (D ++ [d]) ∧ lv 256 (D ++ [d]) + lv 256 (B.take (k + 1)) = lv 256 (A.take (k + 1)) + 256 ^ (k + 1) * c' ∧
    (List.replicate (n - k) 0 ++ D.reverse).set (n - 1 - k) d = List.replicate (n - (k + 1)) 0 ++ (D ++ [d]).reverse := by
  refine ⟨by simp [hD], dig_append hdig (dig_cons hlt (dig_nil _)), ?_, ?_⟩
  · rw [lv_snoc, hD, lv_take_step, lv_take_step]
    have := sub_step 256 k _ c _ _ d c' _ _ hS hd
    omega
  · obtain ⟨m, hm⟩ : ∃ m, n - k = m + 1 := ⟨n - k - 1, by omega⟩
    have e1 : n - 1 - k = m := by omega
    have e2 : n - (k + 1) = m := by omega
    rw [hm, e1, e2, List.replicate_succ', List.append_assoc, List.set_append_right _ _ (by simp)]
    simp

end Go.Proofs.YtogciehmdlfkfaaGreatDoor
