/-
  Walks of the reference: text.
-/
import Derived.Test.YtjmonodjnljhdaaDoorR1
namespace Go.Proofs.YtjmonodjnljhdaaDoor
open Go.RowKit Nd

set_option maxRecDepth 20000 in
set_option maxHeartbeats 1000000 in
theorem text_row (g cap : Nat) (xs : List Nat) (w : World) (hr : Row 77 .u32 w g cap xs) (hd : dig 4294967296 xs) (hn : xs.length ≤ 1099511627776) :
    Calls Tryd.prog 35 #[.slice (some ⟨g, 0, none⟩) xs.length cap] w fun e w' => ∃ s, e = .returned (.string s) ∧ Is s (lv 4294967296 xs) ∧ Chg [] w w' := by
  obtain ⟨i0, hi, hz0, hz1, hz2⟩ := info_parts Tryd.info8
  have hrt : Row _ _ _ _ _ (trim xs) := hr.take (tl xs) (tl_le xs)
  have hdt := trim_dig hd
  have hlt : (trim xs).length = tl xs := trim_length xs
  obtain ⟨ys, HY⟩ := name_it (trim xs)
  have hv : Hid (lv 4294967296 ys = lv 4294967296 xs) := by rw [← HY.out]; exact lv_trim _ _
  rw [HY.out] at hrt hdt hlt
  obtain ⟨m, HM⟩ := name_it (tl xs)
  have hml : Hid (ys.length = m) := by rw [← HM.out]; exact hlt
  have hmb : m ≤ 1099511627776 := by have := tl_le xs; have := HM.out; omega
  obtain ⟨n, HN⟩ := name_it (4 * m)
  have hn4 : n ≤ 4398046511104 := by have := HN.out; omega
  clear hlt
  go_enter Tryd.func35, Tryd.ntmps35
  go_wp2_with fail
  refine (strip_row g cap xs _ hr).mono ?_
  rintro e w' ⟨rfl, rfl⟩
  rw [HM.out]
  clear hr hd hn
  go_wp2_with (at_make; refine wpList_make_cap _ rfl (.const (.int .i64 0)) (.tmp 10) 82 rfl 5 i0 .u8 Tryd.underlying82 hi hz0 hz1 .i64 .i64 _ _ 0 n rfl rfl rfl (by have := HN.out; omega) (Nat.zero_le _) (by rw [hz2]; omega) (by omega) ?_)
  intro w1 hrow hch
  have hne : g ≠ w.heap.size := by have := hrt.lt; omega
  have hrt1 := hrt.keep hch (by simp)
  obtain ⟨b, HG⟩ := name_it w.heap.size
  rw [HG.out] at hrow hne ⊢
  go_wp2_with fail
  go_loopw [3, 4] (fun bv' iv wr => ∃ (t g1 c1 : Nat) (T : List Nat), t ≤ m ∧ iv = .int .i64 ((t : Int) - 1) ∧ bv' = .slice (some ⟨g1, 0, none⟩) T.length c1 ∧ T = (bytesOf (ys.drop t)).reverse ∧ Row 5 .u8 wr g1 c1 T ∧ w.heap.size ≤ g1 ∧ g ≠ g1 ∧ Row 77 .u32 wr g cap ys ∧ Chg [] w wr)
    (fun _ iv _ => (intOf iv + 1).toNat)
  case atStart => exact ⟨m, b, n, [], Nat.le_refl _, rfl, rfl, by rw [List.drop_eq_nil_of_le (by rw [hml.out]; exact Nat.le_refl _)]; rfl, hrow, by rw [HG.out]; exact Nat.le_refl _, hne, hrt1, hch⟩
  case round =>
    obtain ⟨t, g1, c1, T, ht, rfl, rfl, hT, hr1, hg1, hne1, hry, hchr⟩ := hrel
    have HTT := Lib.hid hT
    clear hrow hrt1 hch hrt hT hne
    have hTl : T.length = (4 * (m - t)) := by rw [HTT.out, List.length_reverse, bytesOf_length, List.length_drop, hml.out]
    by_cases ht0 : 1 ≤ t
    · obtain ⟨i, rfl⟩ : ∃ i, t = i + 1 := ⟨t - 1, by omega⟩
      have hii : ((i + 1 : Nat) : Int) - 1 = (i : Int) := by omega
      rw [hii]
      clear hii ht0
      have hcy := hry.cell i (by rw [hml.out]; omega)
      have hbo := bytesOf_drop ys i (by rw [hml.out]; omega)
      obtain ⟨x, HX⟩ := name_it (ys.getD i 0)
      rw [HX.out] at hcy hbo
      rw [← HTT.out] at hbo
      have HBO := Lib.hid hbo
      clear hbo
      obtain ⟨l, HL⟩ := name_it T.length
      have hlb : l ≤ 4398046511104 := by have := HL.out; omega
      rw [HL.out]
      clear hTl
      go_wp2_with (at_builtin; refine wpList_append_row _ rfl (.tmp 23) (.tmp 35) 82 rfl 5 i0 .u8 Tryd.underlying82 hi hz0 hz1 (by rw [hz2]; omega) g1 c1 T l HL.out rfl (hr1.keep ((Chg.refl [] wr).alloc _) (by simp)) [x / 16777216 % 256, x / 65536 % 256, x / 256 % 256, x % 256] 4 rfl ⟨wr.heap.size, 0, none⟩ 4 rfl (cells_alloc wr _ 5 .u8 [x / 16777216 % 256, x / 65536 % 256, x / 256 % 256, x % 256] (by simp [vals]) (by simp)) (by omega) ?_)
      intro g2 c2 w2 hr2 hg2 hch2
      rw [HBO.out] at hr2
      have hg3 : w.heap.size ≤ g2 := by
        rcases hg2 with h | h
        · rw [h]; exact hg1
        · have := hchr.size; omega
      have hry2 := (hry.keep ((Chg.refl [] wr).alloc _) (by simp)).keep hch2 (by simpa using hne1)
      have hne2 : g ≠ g2 := by
        rcases hg2 with h | h
        · rw [h]; exact hne1
        · have := hry.lt; omega
      have hch3 : Chg [] w w2 := (hchr.alloc _).fresh hch2 hg1
      have hl4 : l + 4 = ((bytesOf (ys.drop i)).reverse).length := by rw [← HBO.out, List.length_append, HL.out]; rfl
      have HL4 := Lib.hid hl4
      clear hl4 hr1 hry hchr hch2 hg2 hne1 hg1
      go_wp2_with fail
      go_roundw
      case rel => exact ⟨i, g2, c2, _, by omega, rfl, by rw [← HL4.out], rfl, hr2, hg3, hne2, hry2, hch3⟩
      case measure => simp [intOf]
    · have ht1 : t = 0 := by omega
      subst ht1
      have hTb : T = (bytesOf ys).reverse := by rw [HTT.out]; simp
      have hl2 : T.length = n := by rw [hTl, ← HN.out]; omega
      have hstr := run_str hr1
      have hvz : Hid (val (strOf T) = lv 4294967296 xs) := by
        show val (strOf T) = _
        rw [val_strOf _ (by rw [hTb]; exact fun y hy => bytesOf_dig ys y (by simpa using hy)), hTb, List.reverse_reverse, lv_bytesOf _ hdt, hv.out]
      have hsz : T.length ≤ 4398046511104 := by rw [hl2]; exact hn4
      clear hTb hl2 hTl
      go_wp2_with (go_at_call 46; (with_reducible refine (rnormalize_any _ _ (by rw [strOf_size]; omega)).mono ?_); rintro e w' ⟨rfl, rfl⟩)
      go_ret
      exact ⟨_, rfl, by rw [← hvz.out]; exact Is_nrmB _, hchr⟩

set_option maxRecDepth 20000 in
set_option maxHeartbeats 400000 in
theorem text_nil (w : World) :
    Calls Tryd.prog 35 #[.slice none 0 0] w fun e w' => ∃ s, e = .returned (.string s) ∧ Is s 0 ∧ Chg [] w w' := by
  obtain ⟨i0, hi, hz0, hz1, hz2⟩ := info_parts Tryd.info8
  go_enter Tryd.func35, Tryd.ntmps35
  go_wp2_with fail
  refine (strip_nil _).mono ?_
  rintro e w' ⟨rfl, rfl⟩
  go_wp2_with (at_make; refine wpList_make_cap _ rfl (.const (.int .i64 0)) (.tmp 10) 82 rfl 5 i0 .u8 Tryd.underlying82 hi hz0 hz1 .i64 .i64 _ _ 0 0 rfl rfl rfl (by omega) (Nat.zero_le _) (by omega) (by omega) ?_)
  intro w1 hrow hch
  obtain ⟨b, HG⟩ := name_it w.heap.size
  rw [HG.out] at hrow ⊢
  clear hi hz0 hz1 hz2
  have hstr : (convert 82 9 (.slice (some ⟨b, 0, none⟩) 0 0)).run Tryd.prog w1 = .ok (.string (strOf [])) w1 := run_str hrow
  have H0 : Hid (val (strOf []) = 0) := by show val (strOf []) = 0; rw [val_strOf _ (dig_nil _)]; rfl
  go_wp2_with fail
  go_loop [3, 4] (fun bv iv => bv = .slice (some ⟨b, 0, none⟩) 0 0 ∧ iv = .int .i64 (-1)) (fun _ _ => 0)
  case atStart => exact ⟨rfl, rfl⟩
  case round =>
    obtain ⟨rfl, rfl⟩ := hrel
    go_wp2_with (go_at_call 46; (with_reducible refine (rnormalize_any _ _ (by rw [strOf_size]; simp)).mono ?_); rintro e w' ⟨rfl, rfl⟩)
    go_ret
    exact ⟨_, rfl, by rw [← H0.out]; exact Is_nrmB _, hch⟩

theorem text_any {v : Value} {xs : List Nat} (w : World) (h : Sl w v xs) (hd : dig 4294967296 xs) (hn : xs.length ≤ 1099511627776) :
    Calls Tryd.prog 35 #[v] w fun e w' => ∃ s, e = .returned (.string s) ∧ Is s (lv 4294967296 xs) ∧ Chg [] w w' := by
  cases h with
  | nil => exact text_nil w
  | row g cap _ hr => exact text_row g cap xs w hr hd hn

end Go.Proofs.YtjmonodjnljhdaaDoor
