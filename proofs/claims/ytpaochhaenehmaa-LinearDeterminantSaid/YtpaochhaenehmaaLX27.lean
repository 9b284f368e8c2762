/-
  The reference's Determinant: the errors; fixedRows with rows in blocks of their own.
-/
import Derived.Test.YtpaochhaenehmaaLA23
namespace Go.Proofs.Ytpaochhaenehmaa
open Go.RowKit Nd

set_option maxRecDepth 20000 in
set_option maxHeartbeats 1000000 in
theorem rDet_bad (M : List (List Q3)) (A : Option Addr) (cap : Nat) (w : World) (hn : M.length ≤ 1000000) (hx : Mtx w A M) (hs : shapeE M ≠ 0) :
    Calls Try.prog 9 #[.slice A M.length cap] w fun e w' => e = .returned (.tuple #[.agg #[.bool false, .string ⟨#[]⟩, .string ⟨#[]⟩], .int .i64 (shapeE M : Nat)]) ∧ Chg [] w w' := by
  obtain ⟨s, HS⟩ := name_it (shapeE M)
  rw [HS.out] at hs
  rw [HS.out]
  have hs1 : ((s : Int) != 0) = true := by simp; omega
  have b1 := Blk3.alloc w (.bool false) (.string ⟨#[]⟩) (.string ⟨#[]⟩) 26
  have hch : Chg [] w (w.alloc (.cells #[.bool false, .string ⟨#[]⟩, .string ⟨#[]⟩] 26)) := (Chg.refl _ _).alloc _
  have hgl := b1.lt
  go_enter Try.func9, Try.ntmps9
  go_wp2_with fail
  refine (rshape_any M A cap _ hn (hx.keep0 hch)).mono ?_
  rintro e w1 ⟨rfl, c1⟩
  rw [HS.out]
  replace b1 := b1.keep c1 (by simp)
  replace hch := hch.then c1
  clear c1
  have S := b1.store (.bool false) (.string ⟨#[]⟩) (.string ⟨#[]⟩)
  have SC := b1
  have b1c0 := b1.c0
  have b1c1 := b1.c1
  have b1c2 := b1.c2
  have b1f0 := b1.f0
  have b1f1 := b1.f1
  have b1f2 := b1.f2
  have b1l := b1.lt
  go_wp2_with fail
  first
    | exact bodyPost_ret (v := .tuple #[.agg #[.bool false, .string ⟨#[]⟩, .string ⟨#[]⟩], .int .i64 (s : Nat)]) (by simp [results, Try.results9, go_sem, S.c0, S.c1, S.c2]) rfl ⟨rfl, hch.store3o (.inr (Nat.le_refl _)) _ _ _⟩
    | exact bodyPost_ret (v := .tuple #[.agg #[.bool false, .string ⟨#[]⟩, .string ⟨#[]⟩], .int .i64 (s : Nat)]) (by simp [results, Try.results9, go_sem, SC.c0, SC.c1, SC.c2]) rfl ⟨rfl, hch⟩

set_option maxRecDepth 20000 in
set_option maxHeartbeats 2000000 in
theorem rDet_four (M : List (List Q3)) (A : Option Addr) (cap : Nat) (w : World) (hx : Mtx w A M) (hs : shapeE M = 0) (hl : M.length ≠ (M.getD 0 []).length) :
    Calls Try.prog 9 #[.slice A M.length cap] w fun e w' => e = .returned (.tuple #[.agg #[.bool false, .string ⟨#[]⟩, .string ⟨#[]⟩], .int .i64 4]) ∧ Chg [] w w' := by
  obtain ⟨s0, s1, s2, s3, s4⟩ := shapeE_ok hs
  obtain ⟨ga, oa, rfl, hga⟩ := hx.form (by omega)
  have HX := Lib.hid hx
  have HSH := Lib.hid hs
  obtain ⟨n, HN⟩ := name_it M.length
  obtain ⟨r, HR⟩ := name_it (M.getD 0 [])
  obtain ⟨m, HM⟩ := name_it r.length
  rw [HR.out, HN.out, HM.out] at hl
  rw [HN.out] at s0 s3
  rw [HR.out, HM.out] at s4
  rw [HN.out]
  clear hx hs s2 s1
  have hn1 : (0 : Int) < (n : Int) := by omega
  have d1 : ((n : Int) != (m : Int)) = true := by simp; omega
  clear hl
  have b1 := Blk3.alloc w (.bool false) (.string ⟨#[]⟩) (.string ⟨#[]⟩) 26
  have hch : Chg [] w (w.alloc (.cells #[.bool false, .string ⟨#[]⟩, .string ⟨#[]⟩] 26)) := (Chg.refl _ _).alloc _
  have hgl := b1.lt
  go_enter Try.func9, Try.ntmps9
  go_wp2_with fail
  rw [← HN.out]
  refine (rshape_any M _ cap _ (by rw [HN.out]; omega) (HX.out.keep0 hch)).mono ?_
  rintro e w1 ⟨rfl, c1⟩
  rw [HSH.out, HN.out]
  replace b1 := b1.keep c1 (by simp)
  replace hch := hch.then c1
  clear c1
  obtain ⟨Br, cr, hc, _, _, _⟩ := (HX.out.keep0 hch).row (i := 0) (by rw [HN.out]; omega)
  rw [HR.out, HM.out] at hc
  have S := b1.store (.bool false) (.string ⟨#[]⟩) (.string ⟨#[]⟩)
  have SC := b1
  have b1c0 := b1.c0
  have b1c1 := b1.c1
  have b1c2 := b1.c2
  have b1f0 := b1.f0
  have b1f1 := b1.f1
  have b1f2 := b1.f2
  have b1l := b1.lt
  have hcc := hc.c
  try rw [Nat.add_zero] at hcc
  go_wp2_with fail
  first
    | exact bodyPost_ret (v := .tuple #[.agg #[.bool false, .string ⟨#[]⟩, .string ⟨#[]⟩], .int .i64 4]) (by simp [results, Try.results9, go_sem, S.c0, S.c1, S.c2]) rfl ⟨rfl, hch.store3o (.inr (Nat.le_refl _)) _ _ _⟩
    | exact bodyPost_ret (v := .tuple #[.agg #[.bool false, .string ⟨#[]⟩, .string ⟨#[]⟩], .int .i64 4]) (by simp [results, Try.results9, go_sem, SC.c0, SC.c1, SC.c2]) rfl ⟨rfl, hch⟩
set_option maxRecDepth 20000 in
set_option maxHeartbeats 4000000 in
theorem rfixedRows_mut (M : List (List Q3)) (A : Option Addr) (n m cap k : Nat) (w : World) (hl : M.length = n) (hrow : ∀ i, i < n → (M.getD i []).length = m) (hm0 : 0 < m) (hn0 : 0 < n) (hn : n ≤ 1000000) (hm : m ≤ 1000000) (hk : 1 ≤ k) (hk2 : k ≤ 4294967296) (hf : ∀ i, i < n → ∀ j, j < m → fits ((M.getD i []).getD j q0) k) (hx : Mtx w A M) :
    Calls Try.prog 28 #[.slice A n cap] w fun e w' => ∃ (g cp : Nat) (M' : List (List Q3)) (h c : Nat → Nat), e = .returned (.slice (some ⟨g, 0, none⟩) n cp) ∧ MutD w' g cp M' h c n m ∧ Vals M' (matQ M) n m k ∧ w.heap.size ≤ g ∧ (∀ t, t < n → w.heap.size ≤ h t) ∧ Chg [] w w' := by
  obtain ⟨iR, hiR, hzR0, hzR1, hzR2⟩ := info_parts Try.infoRats
  have HX := Lib.hid hx
  have HF := Lib.hid hf
  have HL := Lib.hid hl
  have HRW0 := Lib.hid hrow
  have hch : Chg [] w w := Chg.refl _ _
  clear hx hf hl hrow
  go_enter Try.func28, Try.ntmps28
  go_wp2_with fail
  go_loopw [3, 4] (fun sv iv wr => ∃ (i : Nat) (M' : List (List Q3)) (h c : Nat → Nat), i ≤ n ∧ iv = .int .i64 i ∧ M'.length = i ∧ (∀ t, t < i → Row1 (M'.getD t []) (matQ M t) m k) ∧ wr.ownsRow 0 33 1 sv i (hdrs h c m i) ∧ Pool wr M' h c i (fun _ => False) ∧ (∀ s t, s < i → t < i → h s = h t → s = t) ∧ (∀ t, t < i → h t ∉ sv.ownBlock.toList ∧ w.heap.size ≤ h t) ∧ (∀ x, x ∈ sv.ownBlock.toList → w.heap.size ≤ x) ∧ Chg [] w wr) (fun _ iv _ => n - (intOf iv).toNat)
  case atStart => exact ⟨0, [], fun _ => 0, fun _ => 0, Nat.zero_le _, rfl, rfl, fun t h => absurd h (by omega), World.ownsRow_nil _ _ _ _, ⟨fun i h => absurd h (by omega)⟩, fun s t h => absurd h (by omega), fun t h => absurd h (by omega), by simp [Value.ownBlock], hch⟩
  case round =>
    clear hch
    obtain ⟨i, M', h, c, hi, rfl, hml, hrow, hown, hpool, hinj, hoff, hblk, hch⟩ := hrel
    obtain ⟨w1, HW1⟩ := name_it wr
    rw [HW1.out] at hown hpool hch ⊢
    have HML := Lib.hid hml
    have HROW := Lib.hid hrow
    have HOWN := Lib.hid hown
    have HPOOL := Lib.hid hpool
    have HINJ := Lib.hid hinj
    have HOFF := Lib.hid hoff
    have HBK := Lib.hid hblk
    clear hml hrow hown hpool hinj hoff hblk
    by_cases hlt : i < n
    · obtain ⟨g, o, rfl, _⟩ := HX.out.form (by rw [HL.out]; omega)
      obtain ⟨B, cB, hc, _, _, hB⟩ := (HX.out.keep0 hch).row (i := i) (by rw [HL.out]; exact hlt)
      have hrl := HRW0.out i hlt
      have HFI := Lib.hid (HF.out i hlt)
      have hQ : Hid (∀ j, matQ M i j = ratOf ((M.getD i []).getD j q0)) := Lib.hid fun j => rfl
      obtain ⟨row, HRW⟩ := name_it (M.getD i [])
      rw [HRW.out] at hc hB hrl HFI hQ
      rw [hrl] at hc
      have i1 : (0 : Int) ≤ (i : Int) := by omega
      have i2 : (i : Int) < (n : Int) := by omega
      have hcc := hc.c
      go_wp2_with fail
      refine (rFixed_any row B m cB k _ hrl hm hk hk2 HFI.out hB).mono ?_
      rintro e w9 ⟨vr, zs, rfl, howr, hfr, hzs, c1⟩
      obtain ⟨g9, c9, rfl, hgr⟩ := hfr hm0
      have hzs2 : Row1 zs (matQ M i) m k := ⟨hzs.len, fun j hj => by rw [hQ.out j]; exact hzs.val j hj⟩
      have HZR := Lib.hid hzs2
      have hN : Nums w9 g9 c9 zs := by rw [← hzs.len] at howr; exact howr
      have hg9 := hN.lt
      have hblt := own_blt HOWN.out
      have hlo : Hid (∀ t, t < i → h t < w1.heap.size) := Lib.hid fun t ht => (HPOOL.out.row t ht (fun h => h)).lt
      have hsz0 := hch.size
      have hsz1 := c1.size
      have HBLT := Lib.hid hblt
      have hc0 : Chg [] w1 (w9.alloc (.cells #[.slice (some ⟨g9, 0, none⟩) m c9] 33)) := c1.alloc _
      have hcl : (w9.alloc (.cells #[.slice (some ⟨g9, 0, none⟩) m c9] 33)).cell? ⟨w9.heap.size, 0, none⟩ = some (.slice (some ⟨g9, 0, none⟩) m c9) := by simp
      have hown := own_keep HOWN.out (hdrs_length h c m i) hc0 (fun _ _ => by simp)
      have HN9 := Lib.hid (hN.keep0 ((Chg.refl [] w9).alloc (.cells #[.slice (some ⟨g9, 0, none⟩) m c9] 33)))
      have HPL := Lib.hid (HPOOL.out.keep0 hc0)
      have HCH := Lib.hid (hch.then hc0)
      clear hN hc0 hblt hzs hzs2 c1 hch howr hcc hc hB hfr
      go_wp2_with (at_builtin; refine wpList_append1 _ 22 33 iR _ 24 Try.underlying22 hiR hzR0 hzR1 hzR2 rfl (by omega) rfl (.tmp 11) (.tmp 17) rfl _ i (hdrs h c m i) rfl hown ⟨w9.heap.size, 0, none⟩ 1 (.slice (some ⟨g9, 0, none⟩) m c9) rfl hcl rfl (by omega) ?_)
      intro v2 w5 own2 cv2 hv2
      have hE : Hid (hdrs (fun t => if t = i then g9 else h t) (fun t => if t = i then c9 else c t) m (i + 1) = hdrs h c m i ++ [.slice (some ⟨g9, 0, none⟩) m c9]) := Lib.hid (by
        rw [hdrs_snoc, if_pos rfl, if_pos rfl, hdrs_congr (h' := h) (c' := c) (fun t ht => ⟨if_neg (by omega), if_neg (by omega)⟩)])
      have HML5 : Hid ((M' ++ [zs]).length = i + 1) := Lib.hid (by rw [List.length_append, HML.out]; rfl)
      have HROW5 : Hid (∀ t, t < i + 1 → Row1 ((M' ++ [zs]).getD t []) (matQ M t) m k) := Lib.hid fun t ht => by
        rw [getD_snocM, HML.out]
        by_cases e : t = i
        · rw [if_pos e, e]; exact HZR.out
        · rw [if_neg e]; exact HROW.out t (by omega)
      have hP : Hid (Pool w5 (M' ++ [zs]) (fun t => if t = i then g9 else h t) (fun t => if t = i then c9 else c t) (i + 1) (fun _ => False)) := Lib.hid ⟨fun t ht _ => by
        rw [getD_snocM, HML.out]
        by_cases he : t = i
        · simp only [he, if_true]
          exact HN9.out.keep cv2 (fun hm => by have := HBLT.out _ hm; omega)
        · simp only [he, if_false]
          exact (HPL.out.row t (by omega) (fun h => h)).keep cv2 (HOFF.out t (by omega)).1⟩
      have hI : Hid (∀ s t, s < i + 1 → t < i + 1 → (if s = i then g9 else h s) = (if t = i then g9 else h t) → s = t) := by
        show ∀ _ _, _
        intro s t hs ht he
        by_cases e1 : s = i <;> by_cases e2 : t = i
        · omega
        · rw [if_pos e1, if_neg e2] at he; have := hlo.out t (by omega); omega
        · rw [if_neg e1, if_pos e2] at he; have := hlo.out s (by omega); omega
        · rw [if_neg e1, if_neg e2] at he; exact HINJ.out s t (by omega) (by omega) he
      have hO : Hid (∀ t, t < i + 1 → (if t = i then g9 else h t) ∉ v2.ownBlock.toList ∧ w.heap.size ≤ (if t = i then g9 else h t)) := by
        show ∀ _, _
        intro t ht
        refine ⟨fun hm => ?_, by
          by_cases e1 : t = i
          · rw [if_pos e1]; omega
          · rw [if_neg e1]; exact (HOFF.out t (by omega)).2⟩
        have h8 : (if t = i then g9 else h t) < w9.heap.size := by
          by_cases e1 : t = i
          · rw [if_pos e1]; exact hg9
          · rw [if_neg e1]; have := hlo.out t (by omega); omega
        rcases hv2 with h5 | h5
        · rw [h5] at hm
          by_cases e1 : t = i
          · rw [if_pos e1] at hm; have := HBLT.out _ hm; omega
          · rw [if_neg e1] at hm; exact (HOFF.out t (by omega)).1 hm
        · rw [h5] at hm; simp at hm; omega
      have hBK2 : Hid (∀ x, x ∈ v2.ownBlock.toList → w.heap.size ≤ x) := by
        show ∀ _, _
        intro x hx
        rcases hv2 with h5 | h5
        · rw [h5] at hx; exact HBK.out x hx
        · rw [h5] at hx; simp at hx; omega
      have hch2 := Lib.hid (HCH.out.trans cv2 (fun x hx => .inr (HBK.out x hx)))
      clear cv2 hv2 hown hcl
      go_wp2_with fail
      go_roundw
      case rel => exact ⟨i + 1, _, _, _, by omega, by go_num, HML5.out, HROW5.out, by rw [hE.out]; exact own2, hP.out, hI.out, hO.out, hBK2.out, hch2.out⟩
      case measure => simp [intOf]; omega
    · obtain rfl : n = i := by omega
      obtain ⟨g, cp, rfl, hH⟩ := own_hdr HOWN.out (hdrs_length h c m n) hn0
      have hD : MutD w1 g cp M' h c n m := ⟨hH, HPOOL.out, HINJ.out, fun t ht hg => (HOFF.out t ht).1 (by rw [hg]; simp [Value.ownBlock])⟩
      have hgw : w.heap.size ≤ g := HBK.out g (by simp [Value.ownBlock])
      have HRES : Hid (MutD w1 g cp M' h c n m ∧ Vals M' (matQ M) n m k ∧ w.heap.size ≤ g ∧ (∀ t, t < n → w.heap.size ≤ h t) ∧ Chg [] w w1) := Lib.hid ⟨hD, ⟨HML.out, fun t ht => (HROW.out t ht).len, fun t ht => (HROW.out t ht).val⟩, hgw, fun t ht => (HOFF.out t ht).2, hch⟩
      clear hD hH hgw hch
      go_wp2_with fail
      go_ret
      exact ⟨g, cp, M', h, c, rfl, HRES.out⟩
end Go.Proofs.Ytpaochhaenehmaa
