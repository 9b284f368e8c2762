/-
  Walks: Compare, Subtract, Uint.
-/
import Derived.Test.YtjmonodjnljhdaaDoorW2
import Derived.Test.YtjmonodjnljhdaaDoorShelf
namespace Go.Proofs.YtjmonodjnljhdaaDoor
open Go.RowKit Nd

set_option maxRecDepth 20000 in
set_option maxHeartbeats 400000 in
theorem cmp_any (a b : Int) (w : World) (_h1 : -9223372036854775808 ≤ a) (_h2 : a ≤ 9223372036854775807) (_h3 : -9223372036854775808 ≤ b) (_h4 : b ≤ 9223372036854775807) (r : Int)
    (hr : (a < b ∧ r = -1) ∨ (b < a ∧ r = 1)) :
    Calls Tryd.prog 104 #[.int .i64 a, .int .i64 b] w fun e w' => e = .returned (.int .i64 r) ∧ w = w' := by
  rcases hr with ⟨h, hr⟩ | ⟨h, hr⟩
  · have H := Lib.hid hr; clear hr
    go_enter Tryd.func104, Tryd.ntmps104
    go_wp2
    go_ret
    exact ⟨ret_eq (by rw [H.out]; rfl), rfl⟩
  · have H := Lib.hid hr; clear hr
    go_enter Tryd.func104, Tryd.ntmps104
    go_wp2
    go_ret
    exact ⟨ret_eq (by rw [H.out]; rfl), rfl⟩

theorem compareBytes_ord : ∀ (a b : List UInt8), a.length = b.length → Lib.compareBytes a b = ord (bv a) (bv b)
  | [], [], _ => by simp [Lib.compareBytes, ord]
  | [], _ :: _, h => by cases h
  | _ :: _, [], h => by cases h
  | x :: a, y :: b, h => by
    have hl : a.length = b.length := by simpa using h
    rw [bv_cons, bv_cons, hl, Lib.compareBytes]
    have ha := bv_lt a
    have hb := bv_lt b
    rw [hl] at ha
    by_cases h1 : x < y
    · rw [if_pos h1, ord_shift _ _ _ _ _ ha hb (UInt8.lt_iff_toNat_lt.1 h1)]
    · rw [if_neg h1]
      by_cases h2 : y < x
      · rw [if_pos h2, ord_shift' _ _ _ _ _ ha hb (UInt8.lt_iff_toNat_lt.1 h2)]
      · rw [if_neg h2]
        have : x = y := by
          apply UInt8.toNat_inj.1
          have h1' : ¬ x.toNat < y.toNat := fun h => h1 (UInt8.lt_iff_toNat_lt.2 h)
          have h2' : ¬ y.toNat < x.toNat := fun h => h2 (UInt8.lt_iff_toNat_lt.2 h)
          omega
        rw [this, ord_same, compareBytes_ord a b hl]

theorem nrmB_size (s : ByteArray) : (nrmB s).size ≤ s.size := by
  have h1 := nrm_length_le s.data.toList
  have h2 : (nrmB s).size = (nrm s.data.toList).length := by simp only [nrmB, ByteArray.size, List.size_toArray]
  have h3 : s.size = s.data.toList.length := by simp only [ByteArray.size, Array.length_toList]
  omega
theorem val_nrmB (s : ByteArray) : val (nrmB s) = val s := (Is_nrmB s).1

set_option maxRecDepth 20000 in
set_option maxHeartbeats 400000 in
theorem compare_any (a b : ByteArray) (w : World) (ha : a.size ≤ 1099511627776) (hb : b.size ≤ 1099511627776) :
    Calls Tryd.prog 83 #[.string a, .string b] w fun e w' => e = .returned (.int .i64 (ord (val a) (val b))) ∧ w = w' := by
  obtain ⟨p, HP⟩ := name_it (nrmB a)
  obtain ⟨q, HQ⟩ := name_it (nrmB b)
  have hp1 : p.size ≤ 1099511627776 := by rw [← HP.out]; exact Nat.le_trans (nrmB_size a) ha
  have hq1 : q.size ≤ 1099511627776 := by rw [← HQ.out]; exact Nat.le_trans (nrmB_size b) hb
  have hpn : Hid (nolead p.data.toList) := by rw [← HP.out]; exact (Is_nrmB a).2
  have hqn : Hid (nolead q.data.toList) := by rw [← HQ.out]; exact (Is_nrmB b).2
  have hpv : Hid (val p = val a) := by rw [← HP.out]; exact val_nrmB a
  have hqv : Hid (val q = val b) := by rw [← HQ.out]; exact val_nrmB b
  have key : Hid (∀ r : Int, (p.size < q.size ∧ r = -1) ∨ (q.size < p.size ∧ r = 1) → ord (val a) (val b) = r) := by
    intro r h
    rw [← hpv.out, ← hqv.out]
    rcases h with ⟨h, rfl⟩ | ⟨h, rfl⟩
    · exact ord_lt (bv_len_lt _ _ hqn.out (by simpa using h))
    · exact ord_gt (bv_len_lt _ _ hpn.out (by simpa using h))
  have keq : Hid (p.size = q.size → Lib.compareBytes p.data.toList q.data.toList = ord (val a) (val b)) := by
    intro h
    rw [← hpv.out, ← hqv.out]
    exact compareBytes_ord _ _ (by simpa using h)
  go_enter Tryd.func83, Tryd.ntmps83
  go_wp2_with fail
  refine (normalize_any a _ (by omega)).mono ?_
  rintro e w' ⟨rfl, rfl⟩
  rw [HP.out]
  go_wp2_with fail
  refine (normalize_any b _ (by omega)).mono ?_
  rintro e w' ⟨rfl, rfl⟩
  rw [HQ.out]
  rcases Nat.lt_trichotomy p.size q.size with h | h | h
  · go_wp2_with (go_at_call 104; (with_reducible refine (cmp_any _ _ _ (by omega) (by omega) (by omega) (by omega) (-1) (.inl ⟨by omega, rfl⟩)).mono ?_); rintro e w' ⟨rfl, rfl⟩)
    go_ret
    exact ⟨ret_eq (by rw [key.out (-1) (.inl ⟨h, rfl⟩)]; rfl), rfl⟩
  · have hE := Lib.hid (keq.out h)
    have hb1 : ((p.size : Int) != (q.size : Int)) = false := by simp [h]
    clear h
    go_wp2_with (go_at_call 105; (with_reducible refine (Tryd.strings_Compare p q _).mono ?_); rintro e w' ⟨rfl, rfl⟩)
    go_ret
    exact ⟨ret_eq (by rw [← hE.out]; rfl), rfl⟩
  · go_wp2_with (go_at_call 104; (with_reducible refine (cmp_any _ _ _ (by omega) (by omega) (by omega) (by omega) 1 (.inr ⟨by omega, rfl⟩)).mono ?_); rintro e w' ⟨rfl, rfl⟩)
    go_ret
    exact ⟨ret_eq (by rw [key.out 1 (.inr ⟨h, rfl⟩)]; rfl), rfl⟩

end Go.Proofs.YtjmonodjnljhdaaDoor
