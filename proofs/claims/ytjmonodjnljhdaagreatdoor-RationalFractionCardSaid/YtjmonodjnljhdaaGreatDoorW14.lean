/-
  Walks: Parse.
-/
import Derived.Test.YtjmonodjnljhdaaGreatDoorW13
namespace Go.Proofs.YtjmonodjnljhdaaGreatDoor
open Go.RowKit Nd

def strLen : Value → Nat | .string s => s.size | _ => 0
theorem ext_list (s : ByteArray) (a b : Nat) : (s.extract a b).data.toList = (s.data.toList.drop a).take (b - a) := by simp

set_option maxRecDepth 20000 in
theorem parse_bad (s : ByteArray) (w : World) (hs : s.size ≤ 1099511627776) (h : canD s.data.toList = false) :
    Calls Tryz.prog 118 #[.string s] w fun e w' => e = .returned (.tuple #[.string ⟨#[]⟩, .int .i64 3]) ∧ w = w' := by
  have H := Lib.hid h
  clear h
  go_enter Tryz.func118, Tryz.ntmps118
  go_wp2_with fail
  refine (isDecimal_any s _ hs).mono ?_
  rintro e w' ⟨rfl, rfl⟩
  rw [H.out]
  go_wp2_with fail
  go_ret2
  exact ⟨rfl, rfl⟩

set_option maxRecDepth 20000 in
theorem parse_long (s : ByteArray) (w : World) (hs : s.size ≤ 1099511627776) (h : canD s.data.toList = true) (hl : 2000 < s.size) :
    Calls Tryz.prog 118 #[.string s] w fun e w' => e = .returned (.tuple #[.string ⟨#[]⟩, .int .i64 2]) ∧ w = w' := by
  have H := Lib.hid h
  clear h
  go_enter Tryz.func118, Tryz.ntmps118
  go_wp2_with fail
  refine (isDecimal_any s _ hs).mono ?_
  rintro e w' ⟨rfl, rfl⟩
  rw [H.out]
  go_wp2_with fail
  go_ret2
  exact ⟨rfl, rfl⟩

set_option maxRecDepth 20000 in
set_option maxHeartbeats 1000000 in
theorem parse_good (s : ByteArray) (w : World) (h : canD s.data.toList = true) (hl : s.size ≤ 2000) :
    Calls Tryz.prog 118 #[.string s] w fun e w' => ∃ t, e = .returned (.tuple #[.string t, .int .i64 0]) ∧ Is t (dv s.data.toList) ∧ Chg [] w w' := by
  have hall : s.data.toList.all isD = true := by simp only [canD, Bool.and_eq_true] at h; exact h.1.2
  have H := Lib.hid h
  have HALL := Lib.hid hall
  clear h hall
  obtain ⟨u, HU⟩ := name_it (dv s.data.toList)
  rw [HU.out]
  go_enter Tryz.func118, Tryz.ntmps118
  go_wp2_with fail
  refine (isDecimal_any s _ (by omega)).mono ?_
  rintro e w' ⟨rfl, rfl⟩
  rw [H.out]
  go_wp2_with fail
  have hr0 : Row 45 .u32 (w.alloc (.cells #[] 45)) w.heap.size 0 [] := Row.of_alloc w #[] [] (by simp [vals]) (by simp)
  have hch0 : Chg [] w (w.alloc (.cells #[] 45)) := (Chg.refl [] w).alloc _
  go_loopw [0, 4] (fun sv lv' wr => ∃ (r : ByteArray) (g cap : Nat) (X : List Nat), sv = .string r ∧ lv' = .slice (some ⟨g, 0, none⟩) X.length cap ∧ Row 45 .u32 wr g cap X ∧ w.heap.size ≤ g ∧ dig 4294967296 X ∧
      u = lv 4294967296 X * 10 ^ r.size + dv r.data.toList ∧ r.data.toList.all isD = true ∧ X.length + r.size ≤ 2001 ∧ Chg [] w wr)
    (fun sv _ _ => strLen sv)
  case atStart => exact ⟨s, w.heap.size, 0, [], rfl, rfl, hr0, Nat.le_refl _, dig_nil _, by rw [HU.out]; simp, HALL.out, by simp; omega, hch0⟩
  case round =>
    obtain ⟨r, g, cap, X, rfl, rfl, hX, hg, dX, hval, hall, hlen, hch⟩ := hrel
    have HV := Lib.hid hval
    have HA := Lib.hid hall
    clear hval hall hr0 hch0
    by_cases h0 : 0 < r.size
    · obtain ⟨k, HK⟩ := name_it (min r.size 9)
      have hk1 : k ≤ r.size := by have := HK.out; omega
      have hk2 : k ≤ 9 := by have := HK.out; omega
      have hk3 : 1 ≤ k := by have := HK.out; omega
      have hmin : min (r.size : Int) 9 = (k : Int) := by have := HK.out; omega
      obtain ⟨p, HP⟩ := name_it (r.extract 0 k)
      obtain ⟨q, HQ⟩ := name_it (r.extract k r.size)
      have hp : p.data.toList = r.data.toList.take k := by rw [← HP.out, ext_list]; simp
      have hq : q.data.toList = r.data.toList.drop k := by rw [← HQ.out, ext_list]; exact List.take_of_length_le (by simp)
      have hps : p.size = k := by
        have : p.size = p.data.toList.length := by simp
        rw [this, hp, List.length_take]
        simp; omega
      have hqs : q.size + k = r.size := by
        have : q.size = q.data.toList.length := by simp
        rw [this, hq, List.length_drop]
        simp; omega
      have hr2 : r.data.toList = p.data.toList ++ q.data.toList := by rw [hp, hq, List.take_append_drop]
      have hpa : p.data.toList.all isD = true := by rw [hp, List.all_eq_true]; exact fun x hx => List.all_eq_true.1 HA.out x (List.mem_of_mem_take hx)
      have hqa : q.data.toList.all isD = true := by rw [hq, List.all_eq_true]; exact fun x hx => List.all_eq_true.1 HA.out x (List.mem_of_mem_drop hx)
      have hvp : dv p.data.toList < 1000000000 := by
        have h1 := dv_lt _ hpa
        have hpl : p.data.toList.length = p.size := by simp
        have h2 : 10 ^ p.data.toList.length ≤ 10 ^ 9 := Nat.pow_le_pow_right (by omega) (by omega)
        have h3 : (10 : Nat) ^ 9 = 1000000000 := by decide
        omega
      have hsp : p10 p.size ≤ 1000000000 := by
        have h2 : 10 ^ p.size ≤ 10 ^ 9 := Nat.pow_le_pow_right (by omega) (by omega)
        have h3 : (10 : Nat) ^ 9 = 1000000000 := by decide
        unfold p10; omega
      have hnew : u = (lv 4294967296 X * p10 p.size + dv p.data.toList) * 10 ^ q.size + dv q.data.toList := by
        have hql : q.data.toList.length = q.size := by simp
        rw [HV.out, hr2, dv_append, hql, ← hqs, hps, p10, Nat.pow_add]
        generalize 10 ^ q.size = a
        generalize 10 ^ k = b
        generalize lv 4294967296 X = c
        grind
      have HNEW := Lib.hid hnew
      have HQS := Lib.hid hqs
      have HPA := Lib.hid hpa
      have HQA := Lib.hid hqa
      have hp9 : p.size ≤ 9 := by omega
      clear hnew hqs hpa hqa hp hq hps hr2
      go_wp2_with fail
      rw [HP.out]
      refine (chunk_any p wr hp9 HPA.out).mono ?_
      rintro e w' ⟨rfl, rfl⟩
      obtain ⟨vp, HVP⟩ := name_it (dv p.data.toList)
      obtain ⟨sp, HSP⟩ := name_it (p10 p.size)
      rw [HVP.out] at hvp ⊢
      rw [HSP.out] at hsp ⊢
      go_wp2_with fail
      refine (scaleAndAdd_any g cap sp vp X wr hX dX (by omega) (by omega) (by omega)).mono ?_
      rintro e w3 ⟨g3, c3, L, rfl, hL, hg3, dL, vL, lL, hc3⟩
      have VL := Lib.hid vL
      have LL := Lib.hid lL
      have hch3 : Chg [] w w3 := hch.fresh hc3 hg
      have hg4 : w.heap.size ≤ g3 := by
        rcases hg3 with h | h
        · rw [h]; exact hg
        · exact Nat.le_trans hch.size h
      clear vL lL hX hc3 hch hg3
      go_wp2_with fail
      go_roundw
      case rel =>
        rw [HQ.out]
        exact ⟨q, g3, c3, L, rfl, rfl, hL, hg4, dL, by rw [VL.out, ← HVP.out, ← HSP.out]; exact HNEW.out, HQA.out, by have := LL.out; have := HQS.out; omega, hch3⟩
      case measure =>
        have := HQS.out
        rw [HQ.out]
        simp only [strLen]
        omega
    · have hu : Hid (lv 4294967296 X = u) := by
        have h1 := HV.out
        have h2 : r.data.toList = [] := by
          apply List.eq_nil_of_length_eq_zero
          have : r.data.toList.length = r.size := by simp
          omega
        rw [h2, show r.size = 0 by omega] at h1
        simp at h1
        exact h1.symm
      go_wp2_with fail
      refine (fromLimbs_row g cap X wr hX dX (by omega)).mono ?_
      rintro e w3 ⟨t, rfl, ht, hc⟩
      go_wp2_with fail
      go_ret2
      rw [hu.out] at ht
      exact ⟨t, rfl, ht, hch.then hc⟩

end Go.Proofs.YtjmonodjnljhdaaGreatDoor
