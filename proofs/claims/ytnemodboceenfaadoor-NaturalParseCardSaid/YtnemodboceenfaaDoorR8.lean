/-
  Walks of the reference: value, NatParse.
-/
import Derived.Test.YtnemodboceenfaaDoorR7
namespace Go.Proofs.YtnemodboceenfaaDoor
open Go.RowKit Nd

set_option maxHeartbeats 2000000 in
theorem value_any (s : ByteArray) (w : World) (hs : s.size ≤ 1099511627775) (hall : s.data.toList.all isD = true) :
    Calls Tryd.prog 62 #[.string s] w fun e w' => ∃ v, e = .returned v ∧ ∃ L, Sl w' v L ∧ dig 4294967296 L ∧ lv 4294967296 L = dv s.data.toList ∧ L.length ≤ s.size ∧ Chg [] w w' := by
  obtain ⟨i0, hi, hz0, hz1, hz2⟩ := info_parts Tryd.info32
  obtain ⟨n, HN⟩ := name_it s.size
  have HALL := Lib.hid hall
  clear hall
  have hn : n ≤ 1099511627775 := by have := HN.out; omega
  go_enter Tryd.func62, Tryd.ntmps62
  go_wp2_with fail
  go_loopw [3, 4] (fun ov iv wr => ∃ (i : Nat) (L : List Nat), i ≤ n ∧ iv = .int .i64 i ∧ Own w wr ov L ∧ dig 4294967296 L ∧ lv 4294967296 L = dv (s.data.toList.take i) ∧ L.length ≤ i ∧ Chg [] w wr)
    (fun _ iv _ => n - (intOf iv).toNat)
  case atStart => exact ⟨0, [], Nat.zero_le _, rfl, Own.nil, dig_nil _, by simp, Nat.le_refl _, Chg.refl _ _⟩
  case round =>
    obtain ⟨i, L, hile, rfl, hO, dL, hv, hl, hch⟩ := hrel
    have HV := Lib.hid hv
    clear hv
    by_cases hlt : i < n
    · have hlt' : i < s.size := by rw [HN.out]; exact hlt
      have hc := List.all_eq_true.1 HALL.out s[i] (List.mem_of_getElem? (byte_get s i hlt'))
      simp only [isD, Bool.and_eq_true, decide_eq_true_eq] at hc
      obtain ⟨hc1, hc2⟩ := hc
      have hst : (s[i].toNat - 48) + 10 * lv 4294967296 L = dv (s.data.toList.take (i + 1)) := by
        rw [take_step s i hlt', dv_snoc, HV.out]
      obtain ⟨d, HD⟩ := name_it (s[i].toNat - 48)
      have hcc : (s[i].toNat : Int) - 48 = (d : Int) := by rw [← HD.out]; omega
      have hd9 : d ≤ 9 := by rw [← HD.out]; omega
      rw [HD.out] at hst
      have HST := Lib.hid hst
      clear hst
      cases hO with
      | nil =>
        by_cases hd0 : 0 < d
        · go_wp2_with fail
          go_loop [5, 6] (fun cv kv => cv = .int .u64 d ∧ kv = .int .i64 0) (fun _ _ => 0)
          case atStart => exact ⟨rfl, rfl⟩
          case round =>
            obtain ⟨rfl, rfl⟩ := hrel
            have hcm : ((d : Int) % 4294967296) = (d : Int) := by omega
            go_wp2_with (at_builtin; refine wpList_append_rownil _ rfl (.tmp 41) (.tmp 44) 51 rfl 50 i0 .u32 Tryd.underlying51 hi hz0 hz1 (by rw [hz2]; omega) rfl [d] (by simp) 1 rfl ⟨wr.heap.size, 0, none⟩ 1 rfl (cells_alloc wr _ 50 .u32 [d] rfl (by simp)) (by omega) ?_)
            intro g' cap' w' hr' hg' hch'
            have hg2 : w.heap.size ≤ g' := by have := hch.size; omega
            have hch2 : Chg [] w w' := (hch.alloc _).then hch'
            have hO' : Own w w' (.slice (some ⟨g', 0, none⟩) [d].length cap') [d] := Own.row g' cap' [d] hr' hg2
            clear hr' hg' hch' hch
            go_wp2_with fail
            go_roundw
            case rel => exact ⟨i + 1, [d], by omega, by go_num, hO', dig_cons (by omega) (dig_nil _), by rw [← HST.out]; simp, by simp, hch2⟩
            case measure => simp [intOf]; omega
        · have hdz : d = 0 := by omega
          subst hdz
          go_wp2_with fail
          go_loop [5, 6] (fun cv kv => cv = .int .u64 0 ∧ kv = .int .i64 0) (fun _ _ => 0)
          case atStart => exact ⟨rfl, rfl⟩
          case round =>
            obtain ⟨rfl, rfl⟩ := hrel
            go_wp2_with fail
            go_roundw
            case rel => exact ⟨i + 1, [], by omega, by go_num, Own.nil, dig_nil _, by rw [← HST.out]; simp, by simp, hch⟩
            case measure => simp [intOf]; omega
      | row g cap _ hro hog =>
        obtain ⟨l, HL⟩ := name_it L.length
        have hll : l ≤ 1099511627776 := by have := HL.out; omega
        have hli : l ≤ i := by have := HL.out; omega
        rw [HL.out]
        go_wp2_with fail
        go_loopw [5, 6] (fun cv kv wr => ∃ (k c : Nat) (M : List Nat), k ≤ l ∧ kv = .int .i64 k ∧ cv = .int .u64 c ∧ ScM L 10 d k c M ∧ Row 50 .u32 wr g cap M ∧ Chg [] w wr)
          (fun _ kv _ => l - (intOf kv).toNat)
        case atStart => exact ⟨0, d, L, Nat.zero_le _, rfl, rfl, ScM.start 10 d dL (by omega), hro, hch⟩
        case round =>
          clear hro hch
          obtain ⟨k, c, M, hkl, rfl, rfl, hP, hr, hch⟩ := hrel
          by_cases hkl2 : k < l
          · have hcl := hr.cell k (by rw [hP.len, HL.out]; exact hkl2)
            have hfr := hr.frozen k
            have hLX := hP.other k (Nat.le_refl _)
            obtain ⟨x, HX⟩ := name_it (M.getD k 0)
            rw [HX.out] at hcl hLX
            have hx : x < 4294967296 := by rw [← HX.out]; exact dig_getD (by omega) hP.digs _
            have HS2 := Lib.hid (hP.step (by omega) hLX.symm dL (by rw [HL.out]; exact hkl2))
            have hcc2 := hP.carry
            clear hLX hP
            have e1 : Hid (((c : Int) + (x : Int) * 10) % 4294967296 = (((c + x * 10) % 4294967296 : Nat) : Int)) := by show _ = _; omega
            have e2 : Hid (((c : Int) + (x : Int) * 10) / 4294967296 = (((c + x * 10) / 4294967296 : Nat) : Int)) := by show _ = _; omega
            go_wp2_with fail
            go_roundw
            case rel =>
              rw [e1.out, e2.out]
              exact ⟨k + 1, _, _, by omega, by go_num, rfl, HS2.out, hr.store _ _, hch.setCell (.inr hog) _⟩
            case measure => simp [intOf]; omega
          · have hkn : k = L.length := by rw [HL.out]; omega
            have hDn : Hid (lv 4294967296 (M ++ [c]) = lv 4294967296 L * 10 + d) := by rw [hkn] at hP; exact hP.done
            have hml : Hid (M.length = l) := by show M.length = l; rw [hP.len]; exact HL.out
            have hcc2 := hP.carry
            have dM := hP.digs
            have hval : Hid (lv 4294967296 (M ++ [c]) = dv (s.data.toList.take (i + 1))) := by
              rw [hDn.out, ← HST.out]
              show lv 4294967296 L * 10 + d = d + 10 * lv 4294967296 L
              omega
            clear hkn hP
            by_cases hc0 : 0 < c
            · have hcm : ((c : Int) % 4294967296) = (c : Int) := by omega
              go_wp2_with (at_builtin; refine wpList_append_row _ rfl (.tmp 41) (.tmp 44) 51 rfl 50 i0 .u32 Tryd.underlying51 hi hz0 hz1 (by rw [hz2]; omega) g cap M l hml.out rfl (hr.keep ((Chg.refl [] wr).alloc _) (by simp)) [c] 1 rfl ⟨wr.heap.size, 0, none⟩ 1 rfl (cells_alloc wr _ 50 .u32 [c] rfl (by simp)) (by omega) ?_)
              intro g' cap' w' hr' hg' hch'
              have hg2 : w.heap.size ≤ g' := by
                rcases hg' with h | h
                · rw [h]; exact hog
                · have := hch.size; omega
              have hch2 : Chg [] w w' := (hch.alloc _).fresh hch' hog
              have hO' : Own w w' (.slice (some ⟨g', 0, none⟩) (M ++ [c]).length cap') (M ++ [c]) := Own.row g' cap' _ hr' hg2
              rw [List.length_append, hml.out] at hO'
              clear hr' hg' hch' hch hr
              go_wp2_with fail
              go_roundw
              case rel => exact ⟨i + 1, M ++ [c], by omega, by go_num, hO', dig_append dM (dig_cons hcc2 (dig_nil _)), hval.out, by rw [List.length_append, hml.out]; simp; omega, hch2⟩
              case measure => simp [intOf]; omega
            · have hcz : c = 0 := by omega
              subst hcz
              have hO' : Own w wr (.slice (some ⟨g, 0, none⟩) M.length cap) M := Own.row g cap _ hr hog
              rw [hml.out] at hO'
              have hval2 : Hid (lv 4294967296 M = dv (s.data.toList.take (i + 1))) := by have := hval.out; rw [lv_snoc] at this; simpa [Hid] using this
              go_wp2_with fail
              go_roundw
              case rel => exact ⟨i + 1, M, by omega, by go_num, hO', dM, hval2.out, by rw [hml.out]; omega, hch⟩
              case measure => simp [intOf]; omega
    · have hge : ¬ i < s.size := by rw [HN.out]; exact hlt
      have hE : Hid (lv 4294967296 L = dv s.data.toList) := by
        rw [HV.out, List.take_of_length_le (by simp; omega)]; rfl
      have hS := hO.sl
      have hlen : L.length ≤ s.size := by have := HN.out; omega
      clear hO
      go_wp2_with fail
      go_ret
      exact ⟨_, rfl, L, hS, dL, hE.out, hlen, hch⟩

theorem natParse_bad (s : ByteArray) (w : World) (hs : s.size ≤ 1099511627776) (h : canD s.data.toList = false) :
    Calls Tryd.prog 38 #[.string s] w fun e w' => e = .returned (.tuple #[.string ⟨#[]⟩, .int .i64 3]) ∧ w = w' := by
  have H := Lib.hid h
  clear h
  go_enter Tryd.func38, Tryd.ntmps38
  go_wp2_with fail
  refine (digits_any s _ hs).mono ?_
  rintro e w' ⟨rfl, rfl⟩
  rw [H.out]
  go_wp2_with fail
  go_ret2
  exact ⟨rfl, rfl⟩
theorem natParse_long (s : ByteArray) (w : World) (hs : s.size ≤ 1099511627776) (h : canD s.data.toList = true) (hl : 2000 < s.size) :
    Calls Tryd.prog 38 #[.string s] w fun e w' => e = .returned (.tuple #[.string ⟨#[]⟩, .int .i64 2]) ∧ w = w' := by
  have H := Lib.hid h
  clear h
  go_enter Tryd.func38, Tryd.ntmps38
  go_wp2_with fail
  refine (digits_any s _ hs).mono ?_
  rintro e w' ⟨rfl, rfl⟩
  rw [H.out]
  go_wp2_with fail
  go_ret2
  exact ⟨rfl, rfl⟩
theorem natParse_good (s : ByteArray) (w : World) (h : canD s.data.toList = true) (hl : s.size ≤ 2000) :
    Calls Tryd.prog 38 #[.string s] w fun e w' => ∃ t, e = .returned (.tuple #[.string t, .int .i64 0]) ∧ Is t (dv s.data.toList) ∧ Chg [] w w' := by
  have hall : s.data.toList.all isD = true := by simp only [canD, Bool.and_eq_true] at h; exact h.1.2
  have H := Lib.hid h
  have HALL := Lib.hid hall
  clear h hall
  go_enter Tryd.func38, Tryd.ntmps38
  go_wp2_with fail
  refine (digits_any s _ (by omega)).mono ?_
  rintro e w' ⟨rfl, rfl⟩
  rw [H.out]
  go_wp2_with fail
  refine (value_any s _ (by omega) HALL.out).mono ?_
  rintro e w1 ⟨v, rfl, L, hL, dL, vL, lL, c1⟩
  have VL := Lib.hid vL
  clear vL
  go_wp2_with fail
  refine (text_any w1 hL dL (by omega)).mono ?_
  rintro e w2 ⟨t, rfl, ht, c2⟩
  rw [VL.out] at ht
  go_wp2_with fail
  go_ret2
  exact ⟨t, rfl, ht, c1.then c2⟩

end Go.Proofs.YtnemodboceenfaaDoor
