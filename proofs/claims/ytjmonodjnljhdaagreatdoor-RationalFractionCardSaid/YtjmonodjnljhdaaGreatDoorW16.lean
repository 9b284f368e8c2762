/-
  Walks: Format.
-/
import Derived.Test.YtjmonodjnljhdaaGreatDoorW15
namespace Go.Proofs.YtjmonodjnljhdaaGreatDoor
open Go.RowKit Nd

theorem run_str_off {w : World} {g cap : Nat} {xs : List Nat} (h : Row 5 .u8 w g cap xs) (o l c : Nat) (hl : o + l = xs.length) :
    (convert 53 9 (.slice (some ⟨g, o, none⟩) l c)).run Tryz.prog w = .ok (.string (strOf (xs.drop o))) w := by
  refine run_convert_bytes_arg w 53 5 Tryz.underlying53 Tryz.underlying5 g o l c _ (by simp; omega) (fun i hi => ?_) 9 Tryz.underlying9
  rw [h.cell (o + i) (by omega)]
  have : o + i < xs.length := by omega
  simp [List.getD, this]
theorem run_str_zero (w : World) (g o c : Nat) : (convert 53 9 (.slice (some ⟨g, o, none⟩) 0 c)).run Tryz.prog w = .ok (.string (strOf [])) w :=
  run_convert_bytes_arg w 53 5 Tryz.underlying53 Tryz.underlying5 g o 0 c [] rfl (fun i hi => absurd hi (by omega)) 9 Tryz.underlying9
theorem strOf_nil : strOf [] = ⟨#[]⟩ := rfl

set_option maxRecDepth 20000 in
set_option maxHeartbeats 1000000 in
theorem format_any (s : ByteArray) (w : World) (hs : s.size ≤ 68719476736) :
    Calls Tryz.prog 91 #[.string s] w fun e w' => ∃ t : ByteArray, e = .returned (.string t) ∧ Dec t.data.toList (val s) ∧ Chg [] w w' := by
  obtain ⟨i0, hi, hz0, hz1, hz2⟩ := info_parts Tryz.info8
  obtain ⟨u, HU⟩ := name_it (val s)
  rw [HU.out]
  go_enter Tryz.func91, Tryz.ntmps91
  go_wp2_with fail
  refine (toLimbs_any s _ (by omega)).mono ?_
  rintro e w1 ⟨gx, cx, X, rfl, hX, hgx, dX, nX, vX, lX, cX⟩
  rw [HU.out] at vX
  have hun : u < 4294967296 ^ X.length := by rw [← vX]; exact lv_lt (by omega) X dX
  obtain ⟨m, HM⟩ := name_it X.length
  obtain ⟨n, HN⟩ := name_it (10 * m + 9)
  rw [HM.out] at hun lX ⊢
  have HUN := Lib.hid hun
  have HVX := Lib.hid vX
  clear hun vX
  have hn1 : n ≤ 1099511627776 := by have := HN.out; omega
  go_wp2_with (at_make; refine wpList_make_cap _ rfl (.tmp 13) (.tmp 13) 53 rfl 5 i0 .u8 Tryz.underlying53 hi hz0 hz1 .i64 .i64 _ _ n n rfl rfl (by have := HN.out; omega) (by have := HN.out; omega) (Nat.le_refl _) (by rw [hz2]; omega) (by omega) ?_)
  intro w2 hT hch2
  have hX2 := hX.keep hch2 (by simp)
  have hne : gx ≠ w1.heap.size := by have := hX.lt; omega
  have hgt : w.heap.size ≤ w1.heap.size := cX.size
  have hch := cX.then hch2
  obtain ⟨gt, HGT⟩ := name_it w1.heap.size
  rw [HGT.out] at hT hne hgt ⊢
  clear hX cX hch2 hi hz0 hz1 hz2
  go_wp2_with fail
  rw [← HM.out]
  go_loopg [3, 5] u (fun k lv' fv wr => ∃ (gx cx e c : Nat) (X E : List Nat), lv' = .slice (some ⟨gx, 0, none⟩) X.length cx ∧ fv = .int .i64 ((n : Int) - (e : Int)) ∧ e = E.length ∧ e = 9 * c ∧ e ≤ n ∧ Out u (lv 4294967296 X) E ∧ lv 4294967296 X = k ∧
      Row 45 .u32 wr gx cx X ∧ gx ≠ gt ∧ dig 4294967296 X ∧ noz X ∧ X.length ≤ m ∧ w.heap.size ≤ gx ∧ Row 5 .u8 wr gt n (List.replicate (n - e) 0 ++ (chr E).reverse) ∧ Chg [] w wr)
  case atStart => exact ⟨gx, cx, 0, 0, X, [], rfl, by simp, rfl, rfl, Nat.zero_le _, ⟨dig_nil _, by rw [HVX.out]; simp⟩, HVX.out, hX2, hne, dX, nX, by rw [HM.out]; exact Nat.le_refl _, hgx, by simpa [chr] using hT, hch⟩
  case round =>
    clear hX2 hne dX nX hgx hT hch HVX
    obtain ⟨gx, cx, e, c, X, E, rfl, rfl, heE, hec, hen, hO, hk, hX, hne, dX, nX, hXm, hgx, hT, hch⟩ := hrel
    have HE := Lib.hid heE
    have HC := Lib.hid hec
    have HK := Lib.hid hk
    clear heE hec hk
    obtain ⟨x, HX⟩ := name_it (lv 4294967296 X)
    obtain ⟨nx, HNX⟩ := name_it X.length
    rw [HNX.out]
    rw [HX.out] at hO
    by_cases h0 : 0 < nx
    · have hpos : 0 < x := by rw [← HX.out]; exact lv_pos (by omega) nX (by rintro rfl; simp [Hid] at HNX; omega)
      have hb := hO.bound hpos HUN.out
      rw [← HE.out] at hb
      have hroom : e + 9 ≤ n := by have := HN.out; omega
      go_wp2_with fail
      rw [← HNX.out]
      refine (billion_any gx cx X wr hX dX (by omega)).mono ?_
      rintro e1 w3 ⟨r, L, rfl, hL, lL, dL, vL, vr, hc3⟩
      rw [HX.out] at vL vr
      have hT3 := hT.keep hc3 (by simpa using Ne.symm hne)
      have hch3 : Chg [] w w3 := hch.fresh hc3 hgx
      have hf := hL.fits
      have hcs := Lib.hid (fun j hj => hL.cell j hj)
      have HLL := Lib.hid lL
      obtain ⟨y, HY⟩ := name_it (lv 4294967296 L)
      rw [HY.out] at vL
      have hr9 : r < 1000000000 := by rw [vr]; omega
      have hyx : y < x := by rw [vL]; omega
      have hO3 : Out u (y * 10 ^ 9 + r) E := by
        have : y * 10 ^ 9 + r = x := by rw [vL, vr, show (10 : Nat) ^ 9 = 1000000000 from by decide]; omega
        rw [this]; exact hO
      clear vL vr lL hX dX nX hT hch hc3 hO hb
      go_wp2_with fail
      rw [← HLL.out]
      refine (trim_row gx 0 cx L w3 hf.1 hf.2 (fun j hj => by simpa using hcs.out j hj)).mono ?_
      rintro e1 w4 ⟨rfl, rfl⟩
      obtain ⟨nl, HNL⟩ := name_it (tl L)
      have hnl : nl ≤ m := by have := tl_le L; have := HLL.out; have := HNL.out; omega
      have hLt := hL.take (tl L) (tl_le L)
      rw [HNL.out]
      clear hf
      go_wp2_with fail
      go_loopw [5, 6, 24] (fun fv rv jv wr => ∃ (j r : Nat) (E : List Nat), j ≤ 9 ∧ jv = .int .i64 j ∧ rv = .int .u32 r ∧ r < 10 ^ (9 - j) ∧ fv = .int .i64 ((n : Int) - ((e + j : Nat) : Int)) ∧ E.length = e + j ∧ Out u (y * 10 ^ (9 - j) + r) E ∧
          Row 5 .u8 wr gt n (List.replicate (n - (e + j)) 0 ++ (chr E).reverse) ∧ Row 45 .u32 wr gx cx L ∧ Chg [] w wr)
        (fun _ _ jv _ => 9 - (intOf jv).toNat)
      case atStart => exact ⟨0, r, E, Nat.zero_le _, rfl, rfl, by simpa using hr9, by simp, HE.out.symm, hO3, hT3, hL, hch3⟩
      case round =>
        clear hO3 hT3 hL hch3 hLt hcs HE
        obtain ⟨j, r, E, hj, rfl, rfl, hr, rfl, hEl, hO, hT, hL, hch⟩ := hrel
        have HEL := Lib.hid hEl
        have HR := Lib.hid hr
        clear hEl hr
        have hlenT : (List.replicate (n - (e + j)) 0 ++ (chr E).reverse).length = n := by
          have := HEL.out
          simp [chr]; omega
        have HLT := Lib.hid hlenT
        clear hlenT
        by_cases hj9 : j < 9
        · have hrb : r < 1000000000 := by
            have := HR.out
            have h2 : 10 ^ (9 - j) ≤ 10 ^ 9 := Nat.pow_le_pow_right (by omega) (by omega)
            have h3 : (10 : Nat) ^ 9 = 1000000000 := by decide
            omega
          have hst : Out u (y * 10 ^ (9 - (j + 1)) + r / 10) (E ++ [r % 10]) ∧ r / 10 < 10 ^ (9 - (j + 1)) := by
            have h1 : 9 - j = 9 - (j + 1) + 1 := by omega
            have h2 := HR.out
            rw [h1] at h2
            have h3 := rest_step (y := y) h2
            have h4 := hO.step
            rw [h1, h3.1, h3.2.1] at h4
            exact ⟨h4, h3.2.2⟩
          have HST := Lib.hid hst
          have hcl := hT.cell (n - (e + j) - 1) (by rw [HLT.out]; omega)
          have hfr := hT.frozen (n - (e + j) - 1)
          obtain ⟨old, HO⟩ := name_it ((List.replicate (n - (e + j)) 0 ++ (chr E).reverse).getD (n - (e + j) - 1) 0)
          rw [HO.out] at hcl
          clear hst hO
          have e1 : Hid ((48 : Int) + (r : Int) % 10 = ((r % 10 + 48 : Nat) : Int)) := by show _ = _; omega
          have e2 : Hid ((r : Int) / 10 = ((r / 10 : Nat) : Int)) := by show _ = _; omega
          go_wp2_with fail
          go_roundw
          case rel =>
            rw [e1.out, e2.out]
            refine ⟨j + 1, r / 10, E ++ [r % 10], by omega, by go_num, rfl, HST.out.2, ?_, by have := HEL.out; simp; omega, HST.out.1, ?_, hL.other hne _, hch.setCell (.inr hgt) _⟩
            · congr 1; omega
            · have h1 := fill_back (D := chr E) (n := n) (k := e + j) (by omega) (r % 10 + 48)
              have h2 : chr (E ++ [r % 10]) = chr E ++ [r % 10 + 48] := by rw [chr_append]; rfl
              rw [h2, show e + (j + 1) = e + j + 1 by omega, ← h1, show n - (e + j) - 1 = n - 1 - (e + j) by omega]
              exact hT.store _ _
          case measure => simp [intOf]; omega
        · have hj : j = 9 := by omega
          subst hj
          have hr0 : r = 0 := by have := HR.out; simp at this; omega
          have hO2 : Out u y E := by rw [hr0] at hO; simpa using hO
          have hEb : Hid (E.length = e + 9) := HEL.out
          have hlv : Hid (lv 4294967296 (trim L) = y) := by rw [lv_trim]; exact HY.out
          have hdt := trim_dig dL
          have hnt := trim_noz L
          have hlt : (trim L).length = nl := by rw [trim_length]; exact HNL.out
          have hLt : Row 45 .u32 wr gx cx (trim L) := hL.take (tl L) (tl_le L)
          obtain ⟨M, HM2⟩ := name_it (trim L)
          rw [HM2.out] at hlv hdt hnt hlt hLt
          have HLT2 := Lib.hid hlt
          have HKX : Hid (x = gk) := by rw [← HX.out]; exact HK.out
          clear hL hO hr0 hlt
          go_wp2_with fail
          go_roundg y
          case measure => rw [← HKX.out]; exact hyx
          case rel => exact ⟨gx, cx, e + 9, c + 1, M, E, by rw [HLT2.out], rfl, hEb.out.symm, by have := HC.out; omega, by omega, by rw [hlv.out]; exact hO2, hlv.out, hLt, hne, hdt, hnt, by rw [HLT2.out]; exact hnl, hgx, hT, hch⟩
    · have hn0 : X.length = 0 := by rw [HNX.out]; omega
      have hx0 : x = 0 := by rw [← HX.out]; exact (lv_nil_iff (B := 4294967296) (by omega) nX).1 hn0
      have hu : Hid (u = lv 10 E) := by have := hO.value; rw [hx0] at this; show u = _; simpa using this
      have dE := hO.digs
      have hlenT : (List.replicate (n - e) 0 ++ (chr E).reverse).length = n := by
        have := HE.out
        simp [chr]; omega
      have hdrop : (List.replicate (n - e) 0 ++ (chr E).reverse).drop (n - e) = (chr E).reverse := drop_fill _ _ _
      have hcr : (chr E).reverse = chr E.reverse := by simp [chr]
      have dE2 := dig_reverse dE
      obtain ⟨d, HD⟩ := name_it (strOf (chr E.reverse))
      have hdl : d.data.toList = ofNums (chr E.reverse) := by rw [← HD.out]; exact strOf_list _
      have hda : d.data.toList.all isD = true := by rw [hdl]; exact ofNums_chr_all _ dE2
      have hdv : dv d.data.toList = u := by rw [hdl, dv_chr _ dE2, List.reverse_reverse, hu.out]
      have hds : d.size ≤ 1099511627776 := by rw [← HD.out, strOf_size]; have := HE.out; simp [chr]; omega
      have HDA := Lib.hid hda
      have HDV := Lib.hid hdv
      have hfin : ∀ t : ByteArray, t.data.toList = cut0 d.data.toList → (t.toList.isEmpty = true → Dec [48] u) ∧ (t.toList.isEmpty = false → Dec t.data.toList u) := by
        intro t ht
        rw [toList_data, ← HDV.out]
        refine ⟨fun h => Dec_zero _ (by rw [← ht]; simpa using h), fun h => ?_⟩
        rw [ht]
        exact Dec_cut0 _ HDA.out (by rw [← ht]; intro h2; rw [h2] at h; simp at h)
      have HFIN := Lib.hid hfin
      have hstr := run_str_off hT (n - e) (n - (n - e)) (n - (n - e)) (by rw [hlenT]; omega)
      rw [hdrop, hcr, HD.out] at hstr
      have HL0 := HE.out
      clear hdl hda hdv hfin dE2 hcr hdrop hlenT hn0 hx0 hO
      by_cases he0 : e = 0
      · subst he0
        have hE0 : E = [] := List.eq_nil_of_length_eq_zero HL0.symm
        have hd0 : strOf [] = d := by rw [← HD.out, hE0]; rfl
        have hz := fun o c => run_str_zero wr gt o c
        rw [hd0] at hz
        clear hE0 hd0 HL0 hstr
        go_wp2_with fail
        refine (trimLeft_any d wr hds).mono ?_
        rintro e1 w3 ⟨t, rfl, ht, rfl⟩
        have HF := Lib.hid (HFIN.out t ht)
        clear ht
        by_cases hemp : t.toList.isEmpty = true
        · go_wp2_with fail
          go_ret
          exact ⟨_, rfl, HF.out.1 hemp, hch⟩
        · have hemp' : t.toList.isEmpty = false := by simpa using hemp
          clear hemp
          go_wp2_with fail
          go_ret
          exact ⟨_, rfl, HF.out.2 hemp', hch⟩
      · have he1 : 1 ≤ e := by omega
        clear HL0
        go_wp2_with fail
        refine (trimLeft_any d wr hds).mono ?_
        rintro e1 w3 ⟨t, rfl, ht, rfl⟩
        have HF := Lib.hid (HFIN.out t ht)
        clear ht
        by_cases hemp : t.toList.isEmpty = true
        · go_wp2_with fail
          go_ret
          exact ⟨_, rfl, HF.out.1 hemp, hch⟩
        · have hemp' : t.toList.isEmpty = false := by simpa using hemp
          clear hemp
          go_wp2_with fail
          go_ret
          exact ⟨_, rfl, HF.out.2 hemp', hch⟩

end Go.Proofs.YtjmonodjnljhdaaGreatDoor
