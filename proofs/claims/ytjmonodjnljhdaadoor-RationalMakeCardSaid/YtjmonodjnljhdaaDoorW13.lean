/-
  Walks: chunk, scaleAndAdd, Parse.
-/
import Derived.Test.YtjmonodjnljhdaaDoorW12
namespace Go.Proofs.YtjmonodjnljhdaaDoor
open Go.RowKit Nd

def p10 (k : Nat) : Nat := 10 ^ k
set_option maxRecDepth 20000 in
set_option maxHeartbeats 400000 in
theorem chunk_any (d : ByteArray) (w : World) (hs : d.size ≤ 9) (hall : d.data.toList.all isD = true) :
    Calls Tryd.prog 67 #[.string d] w fun e w' => e = .returned (.tuple #[.int .u32 (dv d.data.toList : Nat), (.int .u32 (p10 d.size))]) ∧ w = w' := by
  have HALL := Lib.hid hall
  clear hall
  go_enter Tryd.func67, Tryd.ntmps67
  go_wp2_with fail
  go_loop [4, 5, 9] (fun vv sv iv => ∃ k v s : Nat, k ≤ d.size ∧ iv = .int .i64 k ∧ vv = .int .u32 v ∧ sv = .int .u32 s ∧ v = dv (d.data.toList.take k) ∧ s = 10 ^ k) (fun _ _ iv => d.size - (intOf iv).toNat)
  case atStart => exact ⟨0, 0, 1, Nat.zero_le _, rfl, rfl, rfl, by simp, rfl⟩
  case round =>
    obtain ⟨k, v, s, hk, rfl, rfl, rfl, hv, hs2⟩ := hrel
    have HV := Lib.hid hv
    have HS := Lib.hid hs2
    clear hv hs2
    by_cases hlt : k < d.size
    · have hc := List.all_eq_true.1 HALL.out d[k] (List.mem_of_getElem? (byte_get d k hlt))
      simp only [isD, Bool.and_eq_true, decide_eq_true_eq] at hc
      obtain ⟨hc1, hc2⟩ := hc
      have hvb : v < 100000000 := by
        rw [HV.out]
        have h1 := dv_lt (d.data.toList.take k) (by rw [List.all_eq_true]; exact fun x hx => List.all_eq_true.1 HALL.out x (List.mem_of_mem_take hx))
        have h2 : (d.data.toList.take k).length ≤ 8 := by rw [List.length_take]; omega
        have h3 : 10 ^ (d.data.toList.take k).length ≤ 10 ^ 8 := Nat.pow_le_pow_right (by omega) h2
        have h4 : (10 : Nat) ^ 8 = 100000000 := by decide
        omega
      have hsb : s ≤ 100000000 := by
        rw [HS.out]
        have h3 : 10 ^ k ≤ 10 ^ 8 := Nat.pow_le_pow_right (by omega) (by omega)
        have h4 : (10 : Nat) ^ 8 = 100000000 := by decide
        omega
      have hst : Hid (10 * v + (d[k].toNat - 48) = dv (d.data.toList.take (k + 1))) := by
        rw [take_step d k hlt, dv_snoc, HV.out]
        show _ = _
        omega
      have hst2 : Hid (s * 10 = 10 ^ (k + 1)) := by rw [Nat.pow_succ, HS.out]; rfl
      obtain ⟨c, HC⟩ := name_it (d[k].toNat - 48)
      have hcc : (d[k].toNat : Int) - 48 = (c : Int) := by rw [← HC.out]; omega
      have hc9 : c ≤ 9 := by rw [← HC.out]; omega
      rw [HC.out] at hst
      go_wp2_with fail
      go_round
      case rel => exact ⟨k + 1, _, _, by omega, by go_num, by go_num, by go_num, hst.out, hst2.out⟩
      case measure => simp [intOf]; omega
    · have hkd : k = d.size := by omega
      have HE : Hid (v = dv d.data.toList) := by rw [HV.out, List.take_of_length_le (by simp; omega)]; rfl
      have HE2 : Hid (s = p10 d.size) := by rw [HS.out, hkd]; rfl
      clear hkd
      go_wp2_with fail
      go_ret2
      exact ⟨by rw [← HE.out, ← HE2.out]; rfl, rfl⟩

set_option maxRecDepth 20000 in
set_option maxHeartbeats 1000000 in
theorem scaleAndAdd_any (g cap sc v : Nat) (X : List Nat) (w : World) (hX : Row 77 .u32 w g cap X) (dX : dig 4294967296 X) (lx : X.length ≤ 1099511627776) (hsc : sc < 4294967296) (hv : v < 4294967296) :
    Calls Tryd.prog 68 #[.slice (some ⟨g, 0, none⟩) X.length cap, .int .u32 sc, .int .u32 v] w fun e w' => ∃ (g' cap' : Nat) (L : List Nat), e = .returned (.slice (some ⟨g', 0, none⟩) L.length cap') ∧
      Row 77 .u32 w' g' cap' L ∧ (g' = g ∨ w.heap.size ≤ g') ∧ dig 4294967296 L ∧ lv 4294967296 L = lv 4294967296 X * sc + v ∧ L.length = X.length + 1 ∧ Chg [g] w w' := by
  obtain ⟨i0, hi, hz0, hz1, hz2⟩ := info_parts Tryd.info32
  obtain ⟨n, HN⟩ := name_it X.length
  rw [HN.out]
  rw [HN.out] at lx
  go_enter Tryd.func68, Tryd.ntmps68
  go_wp2_with fail
  go_loopw [7, 14] (fun cv iv wr => ∃ (i c : Nat) (L : List Nat), i ≤ n ∧ iv = .int .i64 i ∧ cv = .int .u64 c ∧ ScM X sc v i c L ∧ Row 77 .u32 wr g cap L ∧ Chg [g] w wr)
    (fun _ iv _ => n - (intOf iv).toNat)
  case atStart => exact ⟨0, v, X, Nat.zero_le _, rfl, rfl, ScM.start sc v dX hv, hX, Chg.refl _ _⟩
  case round =>
    obtain ⟨i, c, L, hile, rfl, rfl, hP, hr, hch⟩ := hrel
    clear hX
    by_cases hlt : i < n
    · have hcl := hr.cell i (by rw [hP.len, HN.out]; exact hlt)
      have hfr := hr.frozen i
      have hLX := hP.other i (Nat.le_refl _)
      obtain ⟨x, HX⟩ := name_it (L.getD i 0)
      rw [HX.out] at hcl hLX
      have hx : x < 4294967296 := by rw [← HX.out]; exact dig_getD (by omega) hP.digs _
      have HST := Lib.hid (hP.step hsc hLX.symm dX (by rw [HN.out]; exact hlt))
      have hc := hP.carry
      clear hLX hP
      obtain ⟨p, HPP⟩ := name_it (x * sc)
      have hp : p ≤ 18446744065119617025 := by rw [← HPP.out]; exact mul_bound hx hsc
      have hpe : (x : Int) * (sc : Int) = (p : Int) := by rw [← HPP.out]; simp
      rw [HPP.out] at HST
      have e1 : Hid (((c : Int) + (p : Int)) % 4294967296 = (((c + p) % 4294967296 : Nat) : Int)) := by show _ = _; omega
      have e2 : Hid (((c : Int) + (p : Int)) / 4294967296 = (((c + p) / 4294967296 : Nat) : Int)) := by show _ = _; omega
      go_wp2_with fail
      go_roundw
      case rel =>
        rw [e1.out, e2.out]
        exact ⟨i + 1, _, _, by omega, by go_num, rfl, HST.out, hr.store _ _, hch.setCell (.inl (by simp)) _⟩
      case measure => simp [intOf]; omega
    · have hin : i = X.length := by rw [HN.out]; omega
      have hDn : Hid (lv 4294967296 (L ++ [c]) = lv 4294967296 X * sc + v) := by rw [hin] at hP; exact hP.done
      have hll : Hid (L.length = n) := by show L.length = n; rw [hP.len]; exact HN.out
      have hc := hP.carry
      have dL := hP.digs
      have hcm : ((c : Int) % 4294967296) = (c : Int) := by omega
      clear hin hP
      go_wp2_with (at_builtin; refine wpList_append_row _ rfl (.tmp 34) (.tmp 37) 50 rfl 77 i0 .u32 Tryd.underlying50 hi hz0 hz1 (by rw [hz2]; omega) g cap L n hll.out rfl (hr.keep ((Chg.refl [] wr).alloc _) (by simp)) [c] 1 rfl ⟨wr.heap.size, 0, none⟩ 1 rfl (cells_alloc wr _ 77 .u32 [c] rfl (by simp)) (by omega) ?_)
      intro g1 c1 w1 hL1 hg1 hch1
      have hch2 : Chg [g] w w1 := (hch.alloc _).same hch1
      have hg2 : g1 = g ∨ w.heap.size ≤ g1 := by
        rcases hg1 with h | h
        · exact .inl h
        · have := hch.size; exact .inr (by omega)
      clear hg1 hch1 hr hch hcm hi hz0 hz1 hz2
      go_wp2_with fail
      go_ret
      exact ⟨g1, c1, L ++ [c], ret_eq (by rw [List.length_append, hll.out]; rfl), hL1, hg2, dig_append dL (dig_cons hc (dig_nil _)), hDn.out, by rw [List.length_append, hll.out]; rfl, hch2⟩

end Go.Proofs.YtjmonodjnljhdaaDoor
