/-
  Several parts put together: W13, W14, W15, W16, W17.
-/
import Derived.Test.YtogciehmdlfkfaaGreatDoorGE
import Derived.Test.YtogciehmdlfkfaaGreatDoorGA
/- Part W13. -/

namespace Go.Proofs.YtogciehmdlfkfaaGreatDoor
open Go.RowKit Nd

def p10 (k : Nat) : Nat := 10 ^ k
set_option maxRecDepth 20000 in
set_option maxHeartbeats 400000 in
theorem chunk_any (d : ByteArray) (w : World) (hs : d.size ≤ 9) (hall : d.data.toList.all isD = true) :
    Calls Tryz.prog 197 #[.string d] w fun e w' => e = .returned (.tuple #[.int .u32 (dv d.data.toList : Nat), (.int .u32 (p10 d.size))]) ∧ w = w' := by
  have HALL := Lib.hid hall
  clear hall
  go_enter Tryz.func197, Tryz.ntmps197
  go_wp2_with fail
  go_loop [4, 5, 9] (fun vv sv iv => ∃ k v s : Nat, k ≤ d.size ∧ iv = .int .i64 k ∧ vv = .int .u32 v ∧ sv = .int .u32 s ∧ v = dv (d.data.toList.take k) ∧ s = 10 ^ k) (fun _ _ iv => d.size - (intOf iv).toNat)
  case atStart => exact ⟨0, 0, 1, Nat.zero_le _, rfl, rfl, rfl, by simp, rfl⟩
  case round =>
    obtain ⟨k, v, s, hk, rfl, rfl, rfl, hv, hs2⟩ := hrel
    have HV := Lib.hid hv
    have HS := Lib.hid hs2
    clear hv hs2
    by_cases hlt : k < d.size
    · have hc := List.all_eq_true.1 HALL.out d[k] (List.mem_of_getElem? (byte_get d k hlt))
      simp only [isD, Bool.and_eq_true, decide_eq_true_eq] at hc
      obtain ⟨hc1, hc2⟩ := hc
      have hvb : v < 100000000 := by
        rw [HV.out]
        have h1 := dv_lt (d.data.toList.take k) (by rw [List.all_eq_true]; exact fun x hx => List.all_eq_true.1 HALL.out x (List.mem_of_mem_take hx))
        have h2 : (d.data.toList.take k).length ≤ 8 := by rw [List.length_take]; omega
        have h3 : 10 ^ (d.data.toList.take k).length ≤ 10 ^ 8 := Nat.pow_le_pow_right (by omega) h2
        have h4 : (10 : Nat) ^ 8 = 100000000 := by decide
        omega
      have hsb : s ≤ 100000000 := by
        rw [HS.out]
        have h3 : 10 ^ k ≤ 10 ^ 8 := Nat.pow_le_pow_right (by omega) (by omega)
        have h4 : (10 : Nat) ^ 8 = 100000000 := by decide
        omega
      have hst : Hid (10 * v + (d[k].toNat - 48) = dv (d.data.toList.take (k + 1))) := by
        rw [take_step d k hlt, dv_snoc, HV.out]
        show _ = _
        omega
      have hst2 : Hid (s * 10 = 10 ^ (k + 1)) := by rw [Nat.pow_succ, HS.out]; rfl
      obtain ⟨c, HC⟩ := name_it (d[k].toNat - 48)
      have hcc : (d[k].toNat : Int) - 48 = (c : Int) := by rw [← HC.out]; omega
      have hc9 : c ≤ 9 := by rw [← HC.out]; omega
      rw [HC.out] at hst
      go_wp2_with fail
      go_round
      case rel => exact ⟨k + 1, _, _, by omega, by go_num, by go_num, by go_num, hst.out, hst2.out⟩
      case measure => simp [intOf]; omega
    · have hkd : k = d.size := by omega
      have HE : Hid (v = dv d.data.toList) := by rw [HV.out, List.take_of_length_le (by simp; omega)]; rfl
      have HE2 : Hid (s = p10 d.size) := by rw [HS.out, hkd]; rfl
      clear hkd
      go_wp2_with fail
      go_ret2
      exact ⟨by rw [← HE.out, ← HE2.out]; rfl, rfl⟩

set_option maxRecDepth 20000 in
set_option maxHeartbeats 1000000 in
theorem scaleAndAdd_any (g cap sc v : Nat) (X : List Nat) (w : World) (hX : Row 120 .u32 w g cap X) (dX : dig 4294967296 X) (lx : X.length ≤ 1099511627776) (hsc : sc < 4294967296) (hv : v < 4294967296) :
    Calls Tryz.prog 198 #[.slice (some ⟨g, 0, none⟩) X.length cap, .int .u32 sc, .int .u32 v] w fun e w' => ∃ (g' cap' : Nat) (L : List Nat), e = .returned (.slice (some ⟨g', 0, none⟩) L.length cap') ∧
      Row 120 .u32 w' g' cap' L ∧ (g' = g ∨ w.heap.size ≤ g') ∧ dig 4294967296 L ∧ lv 4294967296 L = lv 4294967296 X * sc + v ∧ L.length = X.length + 1 ∧ Chg [g] w w' := by
  obtain ⟨i0, hi, hz0, hz1, hz2⟩ := info_parts Tryz.info32
  obtain ⟨n, HN⟩ := name_it X.length
  rw [HN.out]
  rw [HN.out] at lx
  go_enter Tryz.func198, Tryz.ntmps198
  go_wp2_with fail
  go_loopw [7, 14] (fun cv iv wr => ∃ (i c : Nat) (L : List Nat), i ≤ n ∧ iv = .int .i64 i ∧ cv = .int .u64 c ∧ ScM X sc v i c L ∧ Row 120 .u32 wr g cap L ∧ Chg [g] w wr)
    (fun _ iv _ => n - (intOf iv).toNat)
  case atStart => exact ⟨0, v, X, Nat.zero_le _, rfl, rfl, ScM.start sc v dX hv, hX, Chg.refl _ _⟩
  case round =>
    obtain ⟨i, c, L, hile, rfl, rfl, hP, hr, hch⟩ := hrel
    clear hX
    by_cases hlt : i < n
    · have hcl := hr.cell i (by rw [hP.len, HN.out]; exact hlt)
      have hfr := hr.frozen i
      have hLX := hP.other i (Nat.le_refl _)
      obtain ⟨x, HX⟩ := name_it (L.getD i 0)
      rw [HX.out] at hcl hLX
      have hx : x < 4294967296 := by rw [← HX.out]; exact dig_getD (by omega) hP.digs _
      have HST := Lib.hid (hP.step hsc hLX.symm dX (by rw [HN.out]; exact hlt))
      have hc := hP.carry
      clear hLX hP
      obtain ⟨p, HPP⟩ := name_it (x * sc)
      have hp : p ≤ 18446744065119617025 := by rw [← HPP.out]; exact mul_bound hx hsc
      have hpe : (x : Int) * (sc : Int) = (p : Int) := by rw [← HPP.out]; simp
      rw [HPP.out] at HST
      have e1 : Hid (((c : Int) + (p : Int)) % 4294967296 = (((c + p) % 4294967296 : Nat) : Int)) := by show _ = _; omega
      have e2 : Hid (((c : Int) + (p : Int)) / 4294967296 = (((c + p) / 4294967296 : Nat) : Int)) := by show _ = _; omega
      go_wp2_with fail
      go_roundw
      case rel =>
        rw [e1.out, e2.out]
        exact ⟨i + 1, _, _, by omega, by go_num, rfl, HST.out, hr.store _ _, hch.setCell (.inl (by simp)) _⟩
      case measure => simp [intOf]; omega
    · have hin : i = X.length := by rw [HN.out]; omega
      have hDn : Hid (lv 4294967296 (L ++ [c]) = lv 4294967296 X * sc + v) := by rw [hin] at hP; exact hP.done
      have hll : Hid (L.length = n) := by show L.length = n; rw [hP.len]; exact HN.out
      have hc := hP.carry
      have dL := hP.digs
      have hcm : ((c : Int) % 4294967296) = (c : Int) := by omega
      clear hin hP
      go_wp2_with (at_builtin; refine wpList_append_row _ rfl (.tmp 34) (.tmp 37) 118 rfl 120 i0 .u32 Tryz.underlying118 hi hz0 hz1 (by rw [hz2]; omega) g cap L n hll.out rfl (hr.keep ((Chg.refl [] wr).alloc _) (by simp)) [c] 1 rfl ⟨wr.heap.size, 0, none⟩ 1 rfl (cells_alloc wr _ 120 .u32 [c] rfl (by simp)) (by omega) ?_)
      intro g1 c1 w1 hL1 hg1 hch1
      have hch2 : Chg [g] w w1 := (hch.alloc _).same hch1
      have hg2 : g1 = g ∨ w.heap.size ≤ g1 := by
        rcases hg1 with h | h
        · exact .inl h
        · have := hch.size; exact .inr (by omega)
      clear hg1 hch1 hr hch hcm hi hz0 hz1 hz2
      go_wp2_with fail
      go_ret
      exact ⟨g1, c1, L ++ [c], ret_eq (by rw [List.length_append, hll.out]; rfl), hL1, hg2, dig_append dL (dig_cons hc (dig_nil _)), hDn.out, by rw [List.length_append, hll.out]; rfl, hch2⟩

end Go.Proofs.YtogciehmdlfkfaaGreatDoor

/- Part W14. -/

namespace Go.Proofs.YtogciehmdlfkfaaGreatDoor
open Go.RowKit Nd

def strLen : Value → Nat | .string s => s.size | _ => 0
theorem ext_list (s : ByteArray) (a b : Nat) : (s.extract a b).data.toList = (s.data.toList.drop a).take (b - a) := by simp

set_option maxRecDepth 20000 in
theorem parse_bad (s : ByteArray) (w : World) (hs : s.size ≤ 1099511627776) (h : canD s.data.toList = false) :
    Calls Tryz.prog 183 #[.string s] w fun e w' => e = .returned (.tuple #[.string ⟨#[]⟩, .int .i64 3]) ∧ w = w' := by
  have H := Lib.hid h
  clear h
  go_enter Tryz.func183, Tryz.ntmps183
  go_wp2_with fail
  refine (isDecimal_any s _ hs).mono ?_
  rintro e w' ⟨rfl, rfl⟩
  rw [H.out]
  go_wp2_with fail
  go_ret2
  exact ⟨rfl, rfl⟩

set_option maxRecDepth 20000 in
theorem parse_long (s : ByteArray) (w : World) (hs : s.size ≤ 1099511627776) (h : canD s.data.toList = true) (hl : 2000 < s.size) :
    Calls Tryz.prog 183 #[.string s] w fun e w' => e = .returned (.tuple #[.string ⟨#[]⟩, .int .i64 2]) ∧ w = w' := by
  have H := Lib.hid h
  clear h
  go_enter Tryz.func183, Tryz.ntmps183
  go_wp2_with fail
  refine (isDecimal_any s _ hs).mono ?_
  rintro e w' ⟨rfl, rfl⟩
  rw [H.out]
  go_wp2_with fail
  go_ret2
  exact ⟨rfl, rfl⟩

set_option maxRecDepth 20000 in
set_option maxHeartbeats 1000000 in
theorem parse_good (s : ByteArray) (w : World) (h : canD s.data.toList = true) (hl : s.size ≤ 2000) :
    Calls Tryz.prog 183 #[.string s] w fun e w' => ∃ t, e = .returned (.tuple #[.string t, .int .i64 0]) ∧ Is t (dv s.data.toList) ∧ Chg [] w w' := by
  have hall : s.data.toList.all isD = true := by simp only [canD, Bool.and_eq_true] at h; exact h.1.2
  have H := Lib.hid h
  have HALL := Lib.hid hall
  clear h hall
  obtain ⟨u, HU⟩ := name_it (dv s.data.toList)
  rw [HU.out]
  go_enter Tryz.func183, Tryz.ntmps183
  go_wp2_with fail
  refine (isDecimal_any s _ (by omega)).mono ?_
  rintro e w' ⟨rfl, rfl⟩
  rw [H.out]
  go_wp2_with fail
  have hr0 : Row 120 .u32 (w.alloc (.cells #[] 120)) w.heap.size 0 [] := Row.of_alloc w #[] [] (by simp [vals]) (by simp)
  have hch0 : Chg [] w (w.alloc (.cells #[] 120)) := (Chg.refl [] w).alloc _
  go_loopw [0, 4] (fun sv lv' wr => ∃ (r : ByteArray) (g cap : Nat) (X : List Nat), sv = .string r ∧ lv' = .slice (some ⟨g, 0, none⟩) X.length cap ∧ Row 120 .u32 wr g cap X ∧ w.heap.size ≤ g ∧ dig 4294967296 X ∧
      u = lv 4294967296 X * 10 ^ r.size + dv r.data.toList ∧ r.data.toList.all isD = true ∧ X.length + r.size ≤ 2001 ∧ Chg [] w wr)
    (fun sv _ _ => strLen sv)
  case atStart => exact ⟨s, w.heap.size, 0, [], rfl, rfl, hr0, Nat.le_refl _, dig_nil _, by rw [HU.out]; simp, HALL.out, by simp; omega, hch0⟩
  case round =>
    obtain ⟨r, g, cap, X, rfl, rfl, hX, hg, dX, hval, hall, hlen, hch⟩ := hrel
    have HV := Lib.hid hval
    have HA := Lib.hid hall
    clear hval hall hr0 hch0
    by_cases h0 : 0 < r.size
    · obtain ⟨k, HK⟩ := name_it (min r.size 9)
      have hk1 : k ≤ r.size := by have := HK.out; omega
      have hk2 : k ≤ 9 := by have := HK.out; omega
      have hk3 : 1 ≤ k := by have := HK.out; omega
      have hmin : min (r.size : Int) 9 = (k : Int) := by have := HK.out; omega
      obtain ⟨p, HP⟩ := name_it (r.extract 0 k)
      obtain ⟨q, HQ⟩ := name_it (r.extract k r.size)
      have hp : p.data.toList = r.data.toList.take k := by rw [← HP.out, ext_list]; simp
      have hq : q.data.toList = r.data.toList.drop k := by rw [← HQ.out, ext_list]; exact List.take_of_length_le (by simp)
      have hps : p.size = k := by
        have : p.size = p.data.toList.length := by simp
        rw [this, hp, List.length_take]
        simp; omega
      have hqs : q.size + k = r.size := by
        have : q.size = q.data.toList.length := by simp
        rw [this, hq, List.length_drop]
        simp; omega
      have hr2 : r.data.toList = p.data.toList ++ q.data.toList := by rw [hp, hq, List.take_append_drop]
      have hpa : p.data.toList.all isD = true := by rw [hp, List.all_eq_true]; exact fun x hx => List.all_eq_true.1 HA.out x (List.mem_of_mem_take hx)
      have hqa : q.data.toList.all isD = true := by rw [hq, List.all_eq_true]; exact fun x hx => List.all_eq_true.1 HA.out x (List.mem_of_mem_drop hx)
      have hvp : dv p.data.toList < 1000000000 := by
        have h1 := dv_lt _ hpa
        have hpl : p.data.toList.length = p.size := by simp
        have h2 : 10 ^ p.data.toList.length ≤ 10 ^ 9 := Nat.pow_le_pow_right (by omega) (by omega)
        have h3 : (10 : Nat) ^ 9 = 1000000000 := by decide
        omega
      have hsp : p10 p.size ≤ 1000000000 := by
        have h2 : 10 ^ p.size ≤ 10 ^ 9 := Nat.pow_le_pow_right (by omega) (by omega)
        have h3 : (10 : Nat) ^ 9 = 1000000000 := by decide
        unfold p10; omega
      have hnew : u = (lv 4294967296 X * p10 p.size + dv p.data.toList) * 10 ^ q.size + dv q.data.toList := by
        have hql : q.data.toList.length = q.size := by simp
        rw [HV.out, hr2, dv_append, hql, ← hqs, hps, p10, Nat.pow_add]
        generalize 10 ^ q.size = a
        generalize 10 ^ k = b
        generalize lv 4294967296 X = c
        grind
      have HNEW := Lib.hid hnew
      have HQS := Lib.hid hqs
      have HPA := Lib.hid hpa
      have HQA := Lib.hid hqa
      have hp9 : p.size ≤ 9 := by omega
      clear hnew hqs hpa hqa hp hq hps hr2
      go_wp2_with fail
      rw [HP.out]
      refine (chunk_any p wr hp9 HPA.out).mono ?_
      rintro e w' ⟨rfl, rfl⟩
      obtain ⟨vp, HVP⟩ := name_it (dv p.data.toList)
      obtain ⟨sp, HSP⟩ := name_it (p10 p.size)
      rw [HVP.out] at hvp ⊢
      rw [HSP.out] at hsp ⊢
      go_wp2_with fail
      refine (scaleAndAdd_any g cap sp vp X wr hX dX (by omega) (by omega) (by omega)).mono ?_
      rintro e w3 ⟨g3, c3, L, rfl, hL, hg3, dL, vL, lL, hc3⟩
      have VL := Lib.hid vL
      have LL := Lib.hid lL
      have hch3 : Chg [] w w3 := hch.fresh hc3 hg
      have hg4 : w.heap.size ≤ g3 := by
        rcases hg3 with h | h
        · rw [h]; exact hg
        · exact Nat.le_trans hch.size h
      clear vL lL hX hc3 hch hg3
      go_wp2_with fail
      go_roundw
      case rel =>
        rw [HQ.out]
        exact ⟨q, g3, c3, L, rfl, rfl, hL, hg4, dL, by rw [VL.out, ← HVP.out, ← HSP.out]; exact HNEW.out, HQA.out, by have := LL.out; have := HQS.out; omega, hch3⟩
      case measure =>
        have := HQS.out
        rw [HQ.out]
        simp only [strLen]
        omega
    · have hu : Hid (lv 4294967296 X = u) := by
        have h1 := HV.out
        have h2 : r.data.toList = [] := by
          apply List.eq_nil_of_length_eq_zero
          have : r.data.toList.length = r.size := by simp
          omega
        rw [h2, show r.size = 0 by omega] at h1
        simp at h1
        exact h1.symm
      go_wp2_with fail
      refine (fromLimbs_row g cap X wr hX dX (by omega)).mono ?_
      rintro e w3 ⟨t, rfl, ht, hc⟩
      go_wp2_with fail
      go_ret2
      rw [hu.out] at ht
      exact ⟨t, rfl, ht, hch.then hc⟩

end Go.Proofs.YtogciehmdlfkfaaGreatDoor

/- Part W15. -/

namespace Go.Proofs.YtogciehmdlfkfaaGreatDoor
open Go.RowKit Nd

set_option maxRecDepth 20000 in
set_option maxHeartbeats 1000000 in
theorem billion_any (g cap : Nat) (X : List Nat) (w : World) (hX : Row 120 .u32 w g cap X) (dX : dig 4294967296 X) (lx : X.length ≤ 1099511627776) :
    Calls Tryz.prog 130 #[.slice (some ⟨g, 0, none⟩) X.length cap] w fun e w' => ∃ (r : Nat) (L : List Nat), e = .returned (.int .u32 r) ∧
      Row 120 .u32 w' g cap L ∧ L.length = X.length ∧ dig 4294967296 L ∧ lv 4294967296 L = lv 4294967296 X / 1000000000 ∧ r = lv 4294967296 X % 1000000000 ∧ Chg [g] w w' := by
  obtain ⟨n, HN⟩ := name_it X.length
  have hs0 := ShI.start (d := 1000000000) (X := X) (L := X) (by omega) rfl dX
  rw [HN.out] at hs0 ⊢
  rw [HN.out] at lx
  go_enter Tryz.func130, Tryz.ntmps130
  go_wp2_with fail
  go_loopw [3, 4] (fun rv iv wr => ∃ (t r : Nat) (L : List Nat), t ≤ n ∧ iv = .int .i64 ((t : Int) - 1) ∧ rv = .int .u64 r ∧ ShI 1000000000 X t r L ∧ (∀ j, j < t → L.getD j 0 = X.getD j 0) ∧ Row 120 .u32 wr g cap L ∧ Chg [g] w wr)
    (fun _ iv _ => (intOf iv + 1).toNat)
  case atStart => exact ⟨n, 0, X, Nat.le_refl _, rfl, rfl, hs0, fun _ _ => rfl, hX, Chg.refl _ _⟩
  case round =>
    obtain ⟨t, r, L, ht, rfl, rfl, hP, ho, hr, hch⟩ := hrel
    clear hX hs0
    by_cases ht0 : 1 ≤ t
    · obtain ⟨i, rfl⟩ : ∃ i, t = i + 1 := ⟨t - 1, by omega⟩
      have hii : ((i + 1 : Nat) : Int) - 1 = (i : Int) := by omega
      rw [hii]
      clear hii ht0
      have hcl := hr.cell i (by rw [hP.len, HN.out]; omega)
      have hfr := hr.frozen i
      have hLX := ho i (by omega)
      obtain ⟨x, HX⟩ := name_it (L.getD i 0)
      rw [HX.out] at hcl hLX
      have hx : x < 4294967296 := by rw [← HX.out]; exact dig_getD (by omega) hP.digs _
      have hst := hP.step (by rw [HN.out]; omega) hLX.symm dX
      have hr1 := hP.rest
      have hor : bits BinOp.or IntKind.u64 ((r : Int) * 4294967296) (x : Int) = ((r * 4294967296 + x : Nat) : Int) := by
        have := or_u64 r x 32 (by omega) (by omega) (by omega)
        simpa using this
      obtain ⟨T, HT⟩ := name_it (r * 4294967296 + x)
      rw [HT.out] at hor hst
      have hT : T < 4294967296000000000 := by rw [← HT.out]; omega
      have HST := Lib.hid hst.2
      have hb := hst.1
      have HO := Lib.hid ho
      have e1 : Hid ((T : Int) / 1000000000 = ((T / 1000000000 : Nat) : Int)) := by show _ = _; omega
      have e2 : Hid ((T : Int) % 1000000000 = ((T % 1000000000 : Nat) : Int)) := by show _ = _; omega
      clear hst ho hLX hP
      go_wp2_with fail
      go_roundw
      case rel =>
        rw [e1.out, e2.out]
        exact ⟨i, _, _, by omega, rfl, rfl, HST.out, fun j hj => by rw [Nd.getD_set_ne (by omega)]; exact HO.out j (by omega), hr.store _ _, hch.setCell (.inl (by simp)) _⟩
      case measure => simp [intOf]
    · have ht1 : t = 0 := by omega
      subst ht1
      have hd := Lib.hid hP.done
      have hll : Hid (L.length = n) := by show L.length = n; rw [hP.len]; exact HN.out
      have dL := hP.digs
      have hr1 := hP.rest
      clear hP ho
      go_wp2_with fail
      go_ret
      exact ⟨r, L, ret_eq (by rfl), hr, hll.out, dL, hd.out.1, hd.out.2, hch⟩

set_option maxRecDepth 20000 in
set_option maxHeartbeats 400000 in
theorem trimLeftByte_any (s : ByteArray) (w : World) (hs : s.size ≤ 1099511627776) :
    Calls Tryz.prog 79 #[.string s, .int .u8 48] w fun e w' => ∃ t : ByteArray, e = .returned (.string t) ∧ t.data.toList = cut0 s.data.toList ∧ w = w' := by
  go_enter Tryz.func79, Tryz.ntmps79
  go_wp2_with fail
  go_loop [0] (fun sv => ∃ r : ByteArray, sv = .string r ∧ r.size ≤ 1099511627776 ∧ cut0 r.data.toList = cut0 s.data.toList) (fun sv => strLen sv)
  case atStart => exact ⟨s, rfl, hs, rfl⟩
  case round =>
    obtain ⟨r, rfl, hrs, hcut⟩ := hrel
    have HC := Lib.hid hcut
    clear hcut
    by_cases h0 : 0 < r.size
    · have hl : r.data.toList = r[0] :: r.data.toList.drop 1 := by
        have h1 := byte_get r 0 h0
        cases hc : r.data.toList with
        | nil => rw [hc] at h1; simp at h1
        | cons c l => rw [hc] at h1; simp at h1; rw [h1]; simp
      have HLL := Lib.hid hl
      clear hl
      by_cases h1 : ((r[0].toNat : Int) == 48) = true
      · have h48 : r[0] = 48 := UInt8.toNat_inj.1 (by rw [beq_iff_eq] at h1; exact Int.ofNat_inj.1 h1)
        obtain ⟨q, HQ⟩ := name_it (r.extract 1 r.size)
        have hq : q.data.toList = r.data.toList.drop 1 := by rw [← HQ.out, ext_list]; exact List.take_of_length_le (by simp)
        have hqs : q.size + 1 = r.size := by
          have h2 : q.size = q.data.toList.length := by simp
          have h3 : r.size = r.data.toList.length := by simp
          rw [h2, hq, List.length_drop]
          omega
        have hc : cut0 q.data.toList = cut0 s.data.toList := by
          rw [← HC.out, HLL.out, h48, hq]; simp [cut0]
        have HC2 := Lib.hid hc
        have HQS := Lib.hid hqs
        clear hc hq hqs h48
        go_wp2_with fail
        go_round
        case rel =>
          rw [HQ.out]
          exact ⟨q, rfl, by have := HQS.out; omega, HC2.out⟩
        case measure =>
          rw [HQ.out]
          have := HQS.out
          simp only [strLen]
          omega
      · have h1' : ((r[0].toNat : Int) == 48) = false := by simpa using h1
        have h48 : r[0] ≠ 48 := by intro h; rw [h] at h1; exact h1 rfl
        have hE : Hid (r.data.toList = cut0 s.data.toList) := by
          rw [← HC.out]
          show r.data.toList = cut0 r.data.toList
          rw [HLL.out]; simp [cut0, h48]
        clear h1 h48
        go_wp2_with fail
        go_ret
        exact ⟨r, rfl, hE.out, rfl⟩
    · have hE : Hid (r.data.toList = cut0 s.data.toList) := by
        rw [← HC.out]
        show r.data.toList = cut0 r.data.toList
        have : r.data.toList = [] := by
          apply List.eq_nil_of_length_eq_zero
          have : r.data.toList.length = r.size := by simp
          omega
        rw [this]; rfl
      go_wp2_with fail
      go_ret
      exact ⟨r, rfl, hE.out, rfl⟩

set_option maxRecDepth 100000 in
theorem trimLeft_any (s : ByteArray) (w : World) (hs : s.size ≤ 1099511627776) :
    Calls Tryz.prog 52 #[.string s, .string ⟨#[48]⟩] w fun e w' => ∃ t : ByteArray, e = .returned (.string t) ∧ t.data.toList = cut0 s.data.toList ∧ w = w' := by
  by_cases h0 : s.toList.isEmpty = true
  · have hE : Hid (s.data.toList = cut0 s.data.toList) := by
      rw [toList_data] at h0
      have : s.data.toList = [] := by simpa using h0
      rw [this]; rfl
    go_enter Tryz.func52, Tryz.ntmps52
    go_wp2_with fail
    go_ret
    exact ⟨s, rfl, hE.out, rfl⟩
  · have h0' : s.toList.isEmpty = false := by simpa using h0
    clear h0
    go_enter Tryz.func52, Tryz.ntmps52
    go_wp2_with fail
    refine (trimLeftByte_any s _ hs).mono ?_
    rintro e w' ⟨t, rfl, ht, rfl⟩
    have HT := Lib.hid ht
    clear ht
    go_wp2_with fail
    go_ret
    exact ⟨t, rfl, HT.out, rfl⟩

end Go.Proofs.YtogciehmdlfkfaaGreatDoor

/- Part W16. -/

namespace Go.Proofs.YtogciehmdlfkfaaGreatDoor
open Go.RowKit Nd

theorem run_str_off {w : World} {g cap : Nat} {xs : List Nat} (h : Row 5 .u8 w g cap xs) (o l c : Nat) (hl : o + l = xs.length) :
    (convert 51 9 (.slice (some ⟨g, o, none⟩) l c)).run Tryz.prog w = .ok (.string (strOf (xs.drop o))) w := by
  refine run_convert_bytes_arg w 51 5 Tryz.underlying51 Tryz.underlying5 g o l c _ (by simp; omega) (fun i hi => ?_) 9 Tryz.underlying9
  rw [h.cell (o + i) (by omega)]
  have : o + i < xs.length := by omega
  simp [List.getD, this]
theorem run_str_zero (w : World) (g o c : Nat) : (convert 51 9 (.slice (some ⟨g, o, none⟩) 0 c)).run Tryz.prog w = .ok (.string (strOf [])) w :=
  run_convert_bytes_arg w 51 5 Tryz.underlying51 Tryz.underlying5 g o 0 c [] rfl (fun i hi => absurd hi (by omega)) 9 Tryz.underlying9
theorem strOf_nil : strOf [] = ⟨#[]⟩ := rfl

set_option maxRecDepth 20000 in
set_option maxHeartbeats 1000000 in
theorem format_any (s : ByteArray) (w : World) (hs : s.size ≤ 68719476736) :
    Calls Tryz.prog 99 #[.string s] w fun e w' => ∃ t : ByteArray, e = .returned (.string t) ∧ Dec t.data.toList (val s) ∧ Chg [] w w' := by
  obtain ⟨i0, hi, hz0, hz1, hz2⟩ := info_parts Tryz.info8
  obtain ⟨u, HU⟩ := name_it (val s)
  rw [HU.out]
  go_enter Tryz.func99, Tryz.ntmps99
  go_wp2_with fail
  refine (toLimbs_any s _ (by omega)).mono ?_
  rintro e w1 ⟨gx, cx, X, rfl, hX, hgx, dX, nX, vX, lX, cX⟩
  rw [HU.out] at vX
  have hun : u < 4294967296 ^ X.length := by rw [← vX]; exact lv_lt (by omega) X dX
  obtain ⟨m, HM⟩ := name_it X.length
  obtain ⟨n, HN⟩ := name_it (10 * m + 9)
  rw [HM.out] at hun lX ⊢
  have HUN := Lib.hid hun
  have HVX := Lib.hid vX
  clear hun vX
  have hn1 : n ≤ 1099511627776 := by have := HN.out; omega
  go_wp2_with (at_make; refine wpList_make_cap _ rfl (.tmp 13) (.tmp 13) 51 rfl 5 i0 .u8 Tryz.underlying51 hi hz0 hz1 .i64 .i64 _ _ n n rfl rfl (by have := HN.out; omega) (by have := HN.out; omega) (Nat.le_refl _) (by rw [hz2]; omega) (by omega) ?_)
  intro w2 hT hch2
  have hX2 := hX.keep hch2 (by simp)
  have hne : gx ≠ w1.heap.size := by have := hX.lt; omega
  have hgt : w.heap.size ≤ w1.heap.size := cX.size
  have hch := cX.then hch2
  obtain ⟨gt, HGT⟩ := name_it w1.heap.size
  rw [HGT.out] at hT hne hgt ⊢
  clear hX cX hch2 hi hz0 hz1 hz2
  go_wp2_with fail
  rw [← HM.out]
  go_loopg [3, 5] u (fun k lv' fv wr => ∃ (gx cx e c : Nat) (X E : List Nat), lv' = .slice (some ⟨gx, 0, none⟩) X.length cx ∧ fv = .int .i64 ((n : Int) - (e : Int)) ∧ e = E.length ∧ e = 9 * c ∧ e ≤ n ∧ Out u (lv 4294967296 X) E ∧ lv 4294967296 X = k ∧
      Row 120 .u32 wr gx cx X ∧ gx ≠ gt ∧ dig 4294967296 X ∧ noz X ∧ X.length ≤ m ∧ w.heap.size ≤ gx ∧ Row 5 .u8 wr gt n (List.replicate (n - e) 0 ++ (chr E).reverse) ∧ Chg [] w wr)
  case atStart => exact ⟨gx, cx, 0, 0, X, [], rfl, by simp, rfl, rfl, Nat.zero_le _, ⟨dig_nil _, by rw [HVX.out]; simp⟩, HVX.out, hX2, hne, dX, nX, by rw [HM.out]; exact Nat.le_refl _, hgx, by simpa [chr] using hT, hch⟩
  case round =>
    clear hX2 hne dX nX hgx hT hch HVX
    obtain ⟨gx, cx, e, c, X, E, rfl, rfl, heE, hec, hen, hO, hk, hX, hne, dX, nX, hXm, hgx, hT, hch⟩ := hrel
    have HE := Lib.hid heE
    have HC := Lib.hid hec
    have HK := Lib.hid hk
    clear heE hec hk
    obtain ⟨x, HX⟩ := name_it (lv 4294967296 X)
    obtain ⟨nx, HNX⟩ := name_it X.length
    rw [HNX.out]
    rw [HX.out] at hO
    by_cases h0 : 0 < nx
    · have hpos : 0 < x := by rw [← HX.out]; exact lv_pos (by omega) nX (by rintro rfl; simp [Hid] at HNX; omega)
      have hb := hO.bound hpos HUN.out
      rw [← HE.out] at hb
      have hroom : e + 9 ≤ n := by have := HN.out; omega
      go_wp2_with fail
      rw [← HNX.out]
      refine (billion_any gx cx X wr hX dX (by omega)).mono ?_
      rintro e1 w3 ⟨r, L, rfl, hL, lL, dL, vL, vr, hc3⟩
      rw [HX.out] at vL vr
      have hT3 := hT.keep hc3 (by simpa using Ne.symm hne)
      have hch3 : Chg [] w w3 := hch.fresh hc3 hgx
      have hf := hL.fits
      have hcs := Lib.hid (fun j hj => hL.cell j hj)
      have HLL := Lib.hid lL
      obtain ⟨y, HY⟩ := name_it (lv 4294967296 L)
      rw [HY.out] at vL
      have hr9 : r < 1000000000 := by rw [vr]; omega
      have hyx : y < x := by rw [vL]; omega
      have hO3 : Out u (y * 10 ^ 9 + r) E := by
        have : y * 10 ^ 9 + r = x := by rw [vL, vr, show (10 : Nat) ^ 9 = 1000000000 from by decide]; omega
        rw [this]; exact hO
      clear vL vr lL hX dX nX hT hch hc3 hO hb
      go_wp2_with fail
      rw [← HLL.out]
      refine (trim_row gx 0 cx L w3 hf.1 hf.2 (fun j hj => by simpa using hcs.out j hj)).mono ?_
      rintro e1 w4 ⟨rfl, rfl⟩
      obtain ⟨nl, HNL⟩ := name_it (tl L)
      have hnl : nl ≤ m := by have := tl_le L; have := HLL.out; have := HNL.out; omega
      have hLt := hL.take (tl L) (tl_le L)
      rw [HNL.out]
      clear hf
      go_wp2_with fail
      go_loopw [5, 6, 24] (fun fv rv jv wr => ∃ (j r : Nat) (E : List Nat), j ≤ 9 ∧ jv = .int .i64 j ∧ rv = .int .u32 r ∧ r < 10 ^ (9 - j) ∧ fv = .int .i64 ((n : Int) - ((e + j : Nat) : Int)) ∧ E.length = e + j ∧ Out u (y * 10 ^ (9 - j) + r) E ∧
          Row 5 .u8 wr gt n (List.replicate (n - (e + j)) 0 ++ (chr E).reverse) ∧ Row 120 .u32 wr gx cx L ∧ Chg [] w wr)
        (fun _ _ jv _ => 9 - (intOf jv).toNat)
      case atStart => exact ⟨0, r, E, Nat.zero_le _, rfl, rfl, by simpa using hr9, by simp, HE.out.symm, hO3, hT3, hL, hch3⟩
      case round =>
        clear hO3 hT3 hL hch3 hLt hcs HE
        obtain ⟨j, r, E, hj, rfl, rfl, hr, rfl, hEl, hO, hT, hL, hch⟩ := hrel
        have HEL := Lib.hid hEl
        have HR := Lib.hid hr
        clear hEl hr
        have hlenT : (List.replicate (n - (e + j)) 0 ++ (chr E).reverse).length = n := by
          have := HEL.out
          simp [chr]; omega
        have HLT := Lib.hid hlenT
        clear hlenT
        by_cases hj9 : j < 9
        · have hrb : r < 1000000000 := by
            have := HR.out
            have h2 : 10 ^ (9 - j) ≤ 10 ^ 9 := Nat.pow_le_pow_right (by omega) (by omega)
            have h3 : (10 : Nat) ^ 9 = 1000000000 := by decide
            omega
          have hst : Out u (y * 10 ^ (9 - (j + 1)) + r / 10) (E ++ [r % 10]) ∧ r / 10 < 10 ^ (9 - (j + 1)) := by
            have h1 : 9 - j = 9 - (j + 1) + 1 := by omega
            have h2 := HR.out
            rw [h1] at h2
            have h3 := rest_step (y := y) h2
            have h4 := hO.step
            rw [h1, h3.1, h3.2.1] at h4
            exact ⟨h4, h3.2.2⟩
          have HST := Lib.hid hst
          have hcl := hT.cell (n - (e + j) - 1) (by rw [HLT.out]; omega)
          have hfr := hT.frozen (n - (e + j) - 1)
          obtain ⟨old, HO⟩ := name_it ((List.replicate (n - (e + j)) 0 ++ (chr E).reverse).getD (n - (e + j) - 1) 0)
          rw [HO.out] at hcl
          clear hst hO
          have e1 : Hid ((48 : Int) + (r : Int) % 10 = ((r % 10 + 48 : Nat) : Int)) := by show _ = _; omega
          have e2 : Hid ((r : Int) / 10 = ((r / 10 : Nat) : Int)) := by show _ = _; omega
          go_wp2_with fail
          go_roundw
          case rel =>
            rw [e1.out, e2.out]
            refine ⟨j + 1, r / 10, E ++ [r % 10], by omega, by go_num, rfl, HST.out.2, ?_, by have := HEL.out; simp; omega, HST.out.1, ?_, hL.other hne _, hch.setCell (.inr hgt) _⟩
            · congr 1; omega
            · have h1 := fill_back (D := chr E) (n := n) (k := e + j) (by omega) (r % 10 + 48)
              have h2 : chr (E ++ [r % 10]) = chr E ++ [r % 10 + 48] := by rw [chr_append]; rfl
              rw [h2, show e + (j + 1) = e + j + 1 by omega, ← h1, show n - (e + j) - 1 = n - 1 - (e + j) by omega]
              exact hT.store _ _
          case measure => simp [intOf]; omega
        · have hj : j = 9 := by omega
          subst hj
          have hr0 : r = 0 := by have := HR.out; simp at this; omega
          have hO2 : Out u y E := by rw [hr0] at hO; simpa using hO
          have hEb : Hid (E.length = e + 9) := HEL.out
          have hlv : Hid (lv 4294967296 (trim L) = y) := by rw [lv_trim]; exact HY.out
          have hdt := trim_dig dL
          have hnt := trim_noz L
          have hlt : (trim L).length = nl := by rw [trim_length]; exact HNL.out
          have hLt : Row 120 .u32 wr gx cx (trim L) := hL.take (tl L) (tl_le L)
          obtain ⟨M, HM2⟩ := name_it (trim L)
          rw [HM2.out] at hlv hdt hnt hlt hLt
          have HLT2 := Lib.hid hlt
          have HKX : Hid (x = gk) := by rw [← HX.out]; exact HK.out
          clear hL hO hr0 hlt
          go_wp2_with fail
          go_roundg y
          case measure => rw [← HKX.out]; exact hyx
          case rel => exact ⟨gx, cx, e + 9, c + 1, M, E, by rw [HLT2.out], rfl, hEb.out.symm, by have := HC.out; omega, by omega, by rw [hlv.out]; exact hO2, hlv.out, hLt, hne, hdt, hnt, by rw [HLT2.out]; exact hnl, hgx, hT, hch⟩
    · have hn0 : X.length = 0 := by rw [HNX.out]; omega
      have hx0 : x = 0 := by rw [← HX.out]; exact (lv_nil_iff (B := 4294967296) (by omega) nX).1 hn0
      have hu : Hid (u = lv 10 E) := by have := hO.value; rw [hx0] at this; show u = _; simpa using this
      have dE := hO.digs
      have hlenT : (List.replicate (n - e) 0 ++ (chr E).reverse).length = n := by
        have := HE.out
        simp [chr]; omega
      have hdrop : (List.replicate (n - e) 0 ++ (chr E).reverse).drop (n - e) = (chr E).reverse := drop_fill _ _ _
      have hcr : (chr E).reverse = chr E.reverse := by simp [chr]
      have dE2 := dig_reverse dE
      obtain ⟨d, HD⟩ := name_it (strOf (chr E.reverse))
      have hdl : d.data.toList = ofNums (chr E.reverse) := by rw [← HD.out]; exact strOf_list _
      have hda : d.data.toList.all isD = true := by rw [hdl]; exact ofNums_chr_all _ dE2
      have hdv : dv d.data.toList = u := by rw [hdl, dv_chr _ dE2, List.reverse_reverse, hu.out]
      have hds : d.size ≤ 1099511627776 := by rw [← HD.out, strOf_size]; have := HE.out; simp [chr]; omega
      have HDA := Lib.hid hda
      have HDV := Lib.hid hdv
      have hfin : ∀ t : ByteArray, t.data.toList = cut0 d.data.toList → (t.toList.isEmpty = true → Dec [48] u) ∧ (t.toList.isEmpty = false → Dec t.data.toList u) := by
        intro t ht
        rw [toList_data, ← HDV.out]
        refine ⟨fun h => Dec_zero _ (by rw [← ht]; simpa using h), fun h => ?_⟩
        rw [ht]
        exact Dec_cut0 _ HDA.out (by rw [← ht]; intro h2; rw [h2] at h; simp at h)
      have HFIN := Lib.hid hfin
      have hstr := run_str_off hT (n - e) (n - (n - e)) (n - (n - e)) (by rw [hlenT]; omega)
      rw [hdrop, hcr, HD.out] at hstr
      have HL0 := HE.out
      clear hdl hda hdv hfin dE2 hcr hdrop hlenT hn0 hx0 hO
      by_cases he0 : e = 0
      · subst he0
        have hE0 : E = [] := List.eq_nil_of_length_eq_zero HL0.symm
        have hd0 : strOf [] = d := by rw [← HD.out, hE0]; rfl
        have hz := fun o c => run_str_zero wr gt o c
        rw [hd0] at hz
        clear hE0 hd0 HL0 hstr
        go_wp2_with fail
        refine (trimLeft_any d wr hds).mono ?_
        rintro e1 w3 ⟨t, rfl, ht, rfl⟩
        have HF := Lib.hid (HFIN.out t ht)
        clear ht
        by_cases hemp : t.toList.isEmpty = true
        · go_wp2_with fail
          go_ret
          exact ⟨_, rfl, HF.out.1 hemp, hch⟩
        · have hemp' : t.toList.isEmpty = false := by simpa using hemp
          clear hemp
          go_wp2_with fail
          go_ret
          exact ⟨_, rfl, HF.out.2 hemp', hch⟩
      · have he1 : 1 ≤ e := by omega
        clear HL0
        go_wp2_with fail
        refine (trimLeft_any d wr hds).mono ?_
        rintro e1 w3 ⟨t, rfl, ht, rfl⟩
        have HF := Lib.hid (HFIN.out t ht)
        clear ht
        by_cases hemp : t.toList.isEmpty = true
        · go_wp2_with fail
          go_ret
          exact ⟨_, rfl, HF.out.1 hemp, hch⟩
        · have hemp' : t.toList.isEmpty = false := by simpa using hemp
          clear hemp
          go_wp2_with fail
          go_ret
          exact ⟨_, rfl, HF.out.2 hemp', hch⟩

end Go.Proofs.YtogciehmdlfkfaaGreatDoor

/- Part W17. -/

namespace Go.Proofs.YtogciehmdlfkfaaGreatDoor
open Go.RowKit Nd

theorem Is_lit (s : ByteArray) (n : Nat) (h1 : val s = n) (h2 : nolead s.data.toList) : Is s n := ⟨h1, h2⟩

/-- All strings have at most 60 bytes. -/
def fewB (ss : List ByteArray) : Bool := ss.all fun s => decide (s.size ≤ 60)

theorem cell_alloc_strs (w : World) (cs : Array Value) (e : TypeId) (ss : List ByteArray) (hcs : cs = (ss.map Value.string).toArray) :
    ∀ j, j < ss.length → (w.alloc (.cells cs e)).cell? ⟨w.heap.size, j, none⟩ = some (.string (ss.getD j ByteArray.empty)) := by
  intro j hj
  rw [cell_of_row _ _ _ _ _ _ (heap_alloc_new w _), hcs]
  simp [List.getD, hj]

end Go.Proofs.YtogciehmdlfkfaaGreatDoor
