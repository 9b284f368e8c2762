/-
  Of law 0: Matrix.
-/
import Derived.Test.YtpaochhaenehmaaLB1
namespace Go.Proofs.Ytpaochhaenehmaa
open Go.RowKit Nd

/-- A list of numbers of 16 bits that can be read. -/
def RdW (w : World) (A : Option Addr) (L : List Int) : Prop := 0 < L.length → ∃ b o, A = some ⟨b, o, none⟩ ∧ b < w.heap.size ∧ ∀ j, j < L.length → w.cell? ⟨b, o + j, none⟩ = some (.int .u16 (L.getD j 0))
theorem RdW.keep0 {w w' : World} {A : Option Addr} {L : List Int} (h : RdW w A L) (hc : Chg [] w w') : RdW w' A L := by
  intro h0
  obtain ⟨b, o, e, hb, h1⟩ := h h0
  exact ⟨b, o, e, Nat.lt_of_lt_of_le hb hc.size, fun j hj => (hc.cell (p := ⟨b, o + j, none⟩) hb (by simp)).trans (h1 j hj)⟩
/-- The numbers of Matrix. -/
def mtxQ (m : Nat) (L : List Int) (i j : Nat) : Rat := if i * m + j < L.length then sgnQ (L.getD (i * m + j) 0) else 0

set_option maxRecDepth 20000 in
set_option maxHeartbeats 8000000 in
theorem matrix_any (n m : Nat) (L : List Int) (l : Nat) (A : Option Addr) (cap : Nat) (w : World) (hn0 : 0 < n) (hn : n ≤ 100) (hm0 : 0 < m) (hm : m ≤ 100) (hl : L.length = l) (hl2 : l ≤ 9223372036854775807) (hL : ∀ x, x ∈ L → 0 ≤ x ∧ x ≤ 65535) (hx : RdW w A L) :
    Calls Try.prog 15 #[.int .i64 n, .int .i64 m, .slice A l cap] w fun e w' => ∃ (g cp : Nat) (M' : List (List Q3)) (h c : Nat → Nat), e = .returned (.slice (some ⟨g, 0, none⟩) n cp) ∧ MutD w' g cp M' h c n m ∧ Vals M' (mtxQ m L) n m 1 ∧ w.heap.size ≤ g ∧ (∀ t, t < n → w.heap.size ≤ h t) ∧ Chg [] w w' := by
  obtain ⟨iR, hiR, hzR0, hzR1, hzR2⟩ := info_parts Try.infoRats
  have hch : Chg [] w w := Chg.refl _ _
  have HX := Lib.hid hx
  have HL := Lib.hid hl
  have HLL := Lib.hid hL
  have HMUL : Hid (∀ i, i < n → (i + 1) * m = i * m + m ∧ i * m + m ≤ 10000) := Lib.hid fun i hi => ⟨Nat.succ_mul i m, by rw [← Nat.succ_mul]; exact Nat.mul_le_mul (show i + 1 ≤ 100 by omega) hm⟩
  clear hx hl hL
  go_enter Try.func15, Try.ntmps15
  go_wp2_with fail
  go_loopw [7, 8, 9] (fun sv kv iv wr => ∃ (i : Nat) (M : List (List Q3)) (h c : Nat → Nat), i ≤ n ∧ iv = .int .i64 i ∧ kv = .int .i64 ((i * m : Nat) : Int) ∧ M.length = i ∧ (∀ t, t < i → Row1 (M.getD t []) (mtxQ m L t) m 1) ∧ wr.ownsRow 0 33 1 sv i (hdrs h c m i) ∧ Pool wr M h c i (fun _ => False) ∧ (∀ s t, s < i → t < i → h s = h t → s = t) ∧ (∀ t, t < i → h t ∉ sv.ownBlock.toList ∧ w.heap.size ≤ h t) ∧ (∀ x, x ∈ sv.ownBlock.toList → w.heap.size ≤ x) ∧ Chg [] w wr) (fun _ _ iv _ => n - (intOf iv).toNat)
  case atStart => exact ⟨0, [], fun _ => 0, fun _ => 0, Nat.zero_le _, rfl, by simp, rfl, fun t h => absurd h (by omega), World.ownsRow_nil _ _ _ _, ⟨fun i h => absurd h (by omega)⟩, fun s t h => absurd h (by omega), fun t h => absurd h (by omega), by simp [Value.ownBlock], hch⟩
  case round =>
    clear hch
    obtain ⟨i, M, h, c, hi, rfl, rfl, hml, hrow, hown, hpool, hinj, hoff, hblk, hch⟩ := hrel
    obtain ⟨w1, HW1⟩ := name_it wr
    rw [HW1.out] at hown hpool hch ⊢
    have HML := Lib.hid hml
    have HROW := Lib.hid hrow
    have HOWN := Lib.hid hown
    have HPOOL := Lib.hid hpool
    have HINJ := Lib.hid hinj
    have HOFF := Lib.hid hoff
    have HBK := Lib.hid hblk
    clear hml hrow hown hpool hinj hoff hblk
    by_cases hlt : i < n
    · have d0 : decide ((i : Int) < (n : Int)) = true := decide_eq_true (by omega)
      have hm2 := HMUL.out i hlt
      obtain ⟨K0, HK0⟩ := name_it (i * m)
      rw [HK0.out] at hm2 ⊢
      have HK1 := Lib.hid hm2.1
      have hk2 := hm2.2
      clear hm2
      go_wp2_with fail
      go_loopw [8, 10, 11] (fun kv rv jv wx => ∃ (j : Nat) (zs : List Q3), j ≤ m ∧ jv = .int .i64 j ∧ kv = .int .i64 ((K0 + j : Nat) : Int) ∧ Own3 wx rv zs ∧ zs.length = j ∧ (∀ t, t < j → Val (zs.getD t q0) (mtxQ m L i t) 1) ∧ (∀ x, x ∈ rv.ownBlock.toList → w1.heap.size ≤ x) ∧ Chg [] w1 wx) (fun _ _ jv _ => m - (intOf jv).toNat)
      case atStart => exact ⟨0, [], Nat.zero_le _, rfl, rfl, Own3.nil _, rfl, fun t h => absurd h (by omega), by simp [Value.ownBlock], Chg.refl _ _⟩
      case round =>
        obtain ⟨j, zs, hj, rfl, rfl, hzo, hzl, hzv, hzb, hc1⟩ := hrel
        have HZL := Lib.hid hzl
        have HZV := Lib.hid hzv
        have HZB := Lib.hid hzb
        clear hzl hzv hzb
        by_cases hjm : j < m
        · have hsz1 := hc1.size
          obtain ⟨K, HK⟩ := name_it (K0 + j)
          rw [HK.out]
          have hK2 : K ≤ 10000 := by rw [← HK.out]; omega
          have hqv : Hid (mtxQ m L i j = if K < l then sgnQ (L.getD K 0) else 0) := Lib.hid (by unfold mtxQ; rw [HK0.out, HK.out, HL.out])
          by_cases hkl : K < l
          · have hx2 := (HX.out.keep0 hch).keep0 hc1
            obtain ⟨gl, ol, rfl, hgl, a0⟩ := hx2 (by rw [HL.out]; omega)
            have a1 := a0 K (by rw [HL.out]; exact hkl)
            have hxin := HLL.out (L.getD K 0) (by
              have hk9 : K < L.length := by rw [HL.out]; exact hkl
              rw [List.getD_eq_getElem?_getD, List.getElem?_eq_getElem hk9]; exact List.getElem_mem hk9)
            obtain ⟨x, HXV⟩ := name_it (L.getD K 0)
            rw [HXV.out] at a1 hxin hqv
            obtain ⟨x1, x2⟩ := hxin
            have hqv2 : Hid (mtxQ m L i j = sgnQ x) := Lib.hid (by rw [hqv.out, if_pos hkl])
            have k1 : (0 : Int) ≤ (K : Int) := by omega
            have k2 : (K : Int) < (l : Int) := by omega
            clear a0
            have hoff5 : Hid (∀ x, x ∈ u10.ownBlock.toList → x < wr.heap.size) := Lib.hid fun x hx => (World.ownsRow.lt hzo x (by simpa using hx)).2
            have c0 : Chg [] wr (wr.alloc (.cells #[.bool false, .string ⟨#[]⟩, .string ⟨#[]⟩] 26)) := (Chg.refl _ _).alloc _
            have b1 := Blk3.alloc wr (.bool false) (.string ⟨#[]⟩) (.string ⟨#[]⟩) 26
            have O1 := hzo.keep0 c0
            have hc2 := hc1.then c0
            obtain ⟨gx, HGX⟩ := name_it wr.heap.size
            rw [HGX.out] at b1
            have hgx0 := HGX.out
            have a1b := (c0.cell (p := ⟨gl, ol + K, none⟩) hgl (by simp)).trans a1
            have hgn : gl ≠ gx := by omega
            clear hzo hx2
            go_wp2_with fail
            refine (lsigned_any x _ x1 x2).mono ?_
            rintro e w5 ⟨z, rfl, hz, c5⟩
            rw [← hqv2.out] at hz
            have HVZ := Lib.hid hz
            replace b1 := b1.keep c5 (by simp)
            have O2 := O1.keep0 c5
            have O3 := O2.keep ((Chg.refl [gx] w5).store3 (g := gx) (.inl (by simp)) (.bool z.neg) (.string z.num) (.string z.den)) (fun y hy => by have := hoff5.out y (by simpa using hy); simp; omega)
            have hc3 := (hc2.then c5).store3 (g := gx) (.inr (show w1.heap.size ≤ gx by omega)) (.bool z.neg) (.string z.num) (.string z.den)
            have HCH := Lib.hid (hc3.alloc (.cells #[.bool z.neg, .string z.num, .string z.den] 26))
            have O4 := O3.keep0 ((Chg.refl [] _).alloc (.cells #[.bool z.neg, .string z.num, .string z.den] 26))
            have src : Rds ((((w5.setCell ⟨gx, 0, none⟩ (.bool z.neg)).setCell ⟨gx, 1, none⟩ (.string z.num)).setCell ⟨gx, 2, none⟩ (.string z.den)).alloc (.cells #[.bool z.neg, .string z.num, .string z.den] 26)) (some ⟨w5.heap.size, 0, none⟩) [z] := by
              have h9 := rds_one (((w5.setCell ⟨gx, 0, none⟩ (.bool z.neg)).setCell ⟨gx, 1, none⟩ (.string z.num)).setCell ⟨gx, 2, none⟩ (.string z.den)) z
              have e9 : (((w5.setCell ⟨gx, 0, none⟩ (.bool z.neg)).setCell ⟨gx, 1, none⟩ (.string z.num)).setCell ⟨gx, 2, none⟩ (.string z.den)).heap.size = w5.heap.size := by simp
              rwa [e9] at h9
            clear hz O1 O2 O3 hc2 hc3 c5 hc1
            have b1c0 := b1.c0
            have b1c1 := b1.c1
            have b1c2 := b1.c2
            have b1f0 := b1.f0
            have b1f1 := b1.f1
            have b1f2 := b1.f2
            have b1l := b1.lt
            go_wp2_with (at_builtin; refine wpList_append3 _ rfl (.tmp 35) (.tmp 37) rfl _ zs rfl O4 _ 1 1 [z] rfl rfl src (by rw [HZL.out]; omega) ?_)
            intro v5 w5 own5 cv5 hv5
            have HZL5 : Hid ((zs ++ [z]).length = j + 1) := Lib.hid (by rw [List.length_append, HZL.out]; rfl)
            have HZV5 : Hid (∀ t, t < j + 1 → Val ((zs ++ [z]).getD t q0) (mtxQ m L i t) 1) := Lib.hid (nums_snoc (P := fun t z => Val z (mtxQ m L i t) 1) (z := z) HZL.out HZV.out HVZ.out)
            have HZB5 : Hid (∀ x, x ∈ v5.ownBlock.toList → w1.heap.size ≤ x) := Lib.hid fun x hx => by
              rcases hv5 with h5 | h5
              · rw [h5] at hx; exact HZB.out x hx
              · rw [h5] at hx; have h7 := HCH.out.size; simp at hx h7; omega
            have hc5 := Lib.hid (HCH.out.trans cv5 (fun x hx => .inr (HZB.out x hx)))
            clear hv5 cv5
            go_wp2_with fail
            go_roundw
            case rel => exact ⟨j + 1, _, by omega, by go_num, by rw [← HK.out]; go_num, own5, HZL5.out, HZV5.out, HZB5.out, hc5.out⟩
            case measure => simp [intOf]; omega
          · have hqv2 : Hid (mtxQ m L i j = 0) := Lib.hid (by rw [hqv.out, if_neg hkl])
            have HVZ : Hid (Val q0 (mtxQ m L i j) 1) := Lib.hid (by rw [hqv2.out]; exact Val_zero.mono (by omega))
            have c0 : Chg [] wr (wr.alloc (.cells #[.bool false, .string ⟨#[]⟩, .string ⟨#[]⟩] 26)) := (Chg.refl _ _).alloc _
            have O4 := (hzo.keep0 c0).keep0 ((Chg.refl [] _).alloc (.cells #[.bool false, .string ⟨#[]⟩, .string ⟨#[]⟩] 26))
            have HCH := Lib.hid ((hc1.then c0).alloc (.cells #[.bool false, .string ⟨#[]⟩, .string ⟨#[]⟩] 26))
            have src : Rds ((wr.alloc (.cells #[.bool false, .string ⟨#[]⟩, .string ⟨#[]⟩] 26)).alloc (.cells #[.bool false, .string ⟨#[]⟩, .string ⟨#[]⟩] 26)) (some ⟨wr.heap.size + 1, 0, none⟩) [q0] := by
              have h9 := rds_one (wr.alloc (.cells #[.bool false, .string ⟨#[]⟩, .string ⟨#[]⟩] 26)) q0
              have e9 : (wr.alloc (.cells #[.bool false, .string ⟨#[]⟩, .string ⟨#[]⟩] 26)).heap.size = wr.heap.size + 1 := by simp
              rwa [e9] at h9
            clear hzo hc1
            go_wp2_with (at_builtin; refine wpList_append3 _ rfl (.tmp 35) (.tmp 37) rfl _ zs rfl O4 _ 1 1 [q0] rfl rfl src (by rw [HZL.out]; omega) ?_)
            intro v5 w5 own5 cv5 hv5
            have HZL5 : Hid ((zs ++ [q0]).length = j + 1) := Lib.hid (by rw [List.length_append, HZL.out]; rfl)
            have HZV5 : Hid (∀ t, t < j + 1 → Val ((zs ++ [q0]).getD t q0) (mtxQ m L i t) 1) := Lib.hid (nums_snoc (P := fun t z => Val z (mtxQ m L i t) 1) (z := q0) HZL.out HZV.out HVZ.out)
            have HZB5 : Hid (∀ x, x ∈ v5.ownBlock.toList → w1.heap.size ≤ x) := Lib.hid fun x hx => by
              rcases hv5 with h5 | h5
              · rw [h5] at hx; exact HZB.out x hx
              · rw [h5] at hx; have h7 := HCH.out.size; simp at hx h7; omega
            have hc5 := Lib.hid (HCH.out.trans cv5 (fun x hx => .inr (HZB.out x hx)))
            clear hv5 cv5
            go_wp2_with fail
            go_roundw
            case rel => exact ⟨j + 1, _, by omega, by go_num, by rw [← HK.out]; go_num, own5, HZL5.out, HZV5.out, HZB5.out, hc5.out⟩
            case measure => simp [intOf]; omega
        · obtain rfl : m = j := by omega
          have hzr : Row1 zs (mtxQ m L i) m 1 := ⟨HZL.out, HZV.out⟩
          have HZR := Lib.hid hzr
          rcases hzo.form with ⟨_, h2⟩ | ⟨g9, c9, rfl, hg9, h3, h4, _⟩
          · have := HZL.out; rw [h2] at this; simp at this; omega
          have hN : Nums wr g9 c9 zs := hzo
          have hg9w := HZB.out g9 (by simp [Value.ownBlock])
          rw [HZL.out] at h3 ⊢
          have hblt := own_blt HOWN.out
          have hlo : Hid (∀ t, t < i → h t < w1.heap.size) := Lib.hid fun t ht => (HPOOL.out.row t ht (fun h => h)).lt
          have hsz0 := hch.size
          have hsz1 := hc1.size
          have HBLT := Lib.hid hblt
          have hc0 : Chg [] w1 (wr.alloc (.cells #[.slice (some ⟨g9, 0, none⟩) m c9] 33)) := hc1.alloc _
          have hcl : (wr.alloc (.cells #[.slice (some ⟨g9, 0, none⟩) m c9] 33)).cell? ⟨wr.heap.size, 0, none⟩ = some (.slice (some ⟨g9, 0, none⟩) m c9) := by simp
          have hown := own_keep HOWN.out (hdrs_length h c m i) hc0 (fun _ _ => by simp)
          have HN9 := Lib.hid (hN.keep0 ((Chg.refl [] wr).alloc (.cells #[.slice (some ⟨g9, 0, none⟩) m c9] 33)))
          have HPL := Lib.hid (HPOOL.out.keep0 hc0)
          have HCH := Lib.hid (hch.then hc0)
          clear hzo hN hc0 hblt hzr hc1 hch
          go_wp2_with (at_builtin; refine wpList_append1 _ 22 33 iR _ 24 Try.underlying22 hiR hzR0 hzR1 hzR2 rfl (by omega) rfl (.tmp 39) (.tmp 41) rfl _ i (hdrs h c m i) rfl hown ⟨wr.heap.size, 0, none⟩ 1 (.slice (some ⟨g9, 0, none⟩) m c9) rfl hcl rfl (by omega) ?_)
          intro v2 w5 own2 cv2 hv2
          have hE : Hid (hdrs (fun t => if t = i then g9 else h t) (fun t => if t = i then c9 else c t) m (i + 1) = hdrs h c m i ++ [.slice (some ⟨g9, 0, none⟩) m c9]) := Lib.hid (by
            rw [hdrs_snoc, if_pos rfl, if_pos rfl, hdrs_congr (h' := h) (c' := c) (fun t ht => ⟨if_neg (by omega), if_neg (by omega)⟩)])
          have HML5 : Hid ((M ++ [zs]).length = i + 1) := Lib.hid (by rw [List.length_append, HML.out]; rfl)
          have HROW5 : Hid (∀ t, t < i + 1 → Row1 ((M ++ [zs]).getD t []) (mtxQ m L t) m 1) := Lib.hid fun t ht => by
            rw [getD_snocM, HML.out]
            by_cases e : t = i
            · rw [if_pos e, e]; exact HZR.out
            · rw [if_neg e]; exact HROW.out t (by omega)
          have hP : Hid (Pool w5 (M ++ [zs]) (fun t => if t = i then g9 else h t) (fun t => if t = i then c9 else c t) (i + 1) (fun _ => False)) := Lib.hid ⟨fun t ht _ => by
            rw [getD_snocM, HML.out]
            by_cases he : t = i
            · simp only [he, if_true]
              exact HN9.out.keep cv2 (fun hm => by have := HBLT.out _ hm; omega)
            · simp only [he, if_false]
              exact (HPL.out.row t (by omega) (fun h => h)).keep cv2 (HOFF.out t (by omega)).1⟩
          have hI : Hid (∀ s t, s < i + 1 → t < i + 1 → (if s = i then g9 else h s) = (if t = i then g9 else h t) → s = t) := by
            show ∀ _ _, _
            intro s t hs ht he
            by_cases e1 : s = i <;> by_cases e2 : t = i
            · omega
            · rw [if_pos e1, if_neg e2] at he; have := hlo.out t (by omega); omega
            · rw [if_neg e1, if_pos e2] at he; have := hlo.out s (by omega); omega
            · rw [if_neg e1, if_neg e2] at he; exact HINJ.out s t (by omega) (by omega) he
          have hO : Hid (∀ t, t < i + 1 → (if t = i then g9 else h t) ∉ v2.ownBlock.toList ∧ w.heap.size ≤ (if t = i then g9 else h t)) := by
            show ∀ _, _
            intro t ht
            refine ⟨fun hm => ?_, by
              by_cases e1 : t = i
              · rw [if_pos e1]; omega
              · rw [if_neg e1]; exact (HOFF.out t (by omega)).2⟩
            have h8 : (if t = i then g9 else h t) < wr.heap.size := by
              by_cases e1 : t = i
              · rw [if_pos e1]; exact hg9
              · rw [if_neg e1]; have := hlo.out t (by omega); omega
            rcases hv2 with h5 | h5
            · rw [h5] at hm
              by_cases e1 : t = i
              · rw [if_pos e1] at hm; have := HBLT.out _ hm; omega
              · rw [if_neg e1] at hm; exact (HOFF.out t (by omega)).1 hm
            · rw [h5] at hm; simp at hm; omega
          have hBK2 : Hid (∀ x, x ∈ v2.ownBlock.toList → w.heap.size ≤ x) := by
            show ∀ _, _
            intro x hx
            rcases hv2 with h5 | h5
            · rw [h5] at hx; exact HBK.out x hx
            · rw [h5] at hx; simp at hx; omega
          have hch2 := Lib.hid (HCH.out.trans cv2 (fun x hx => .inr (HBK.out x hx)))
          clear cv2 hv2 hown hcl
          go_wp2_with fail
          go_roundw
          case rel => exact ⟨i + 1, _, _, _, by omega, by go_num, by rw [HK1.out]; go_num, HML5.out, HROW5.out, by rw [hE.out]; exact own2, hP.out, hI.out, hO.out, hBK2.out, hch2.out⟩
          case measure => simp [intOf]; omega
    · obtain rfl : n = i := by omega
      have d0 : decide ((n : Int) < (n : Int)) = false := decide_eq_false (by omega)
      obtain ⟨g, cp, rfl, hH⟩ := own_hdr HOWN.out (hdrs_length h c m n) hn0
      have hD : MutD w1 g cp M h c n m := ⟨hH, HPOOL.out, HINJ.out, fun t ht hg => (HOFF.out t ht).1 (by rw [hg]; simp [Value.ownBlock])⟩
      have hgw : w.heap.size ≤ g := HBK.out g (by simp [Value.ownBlock])
      have HRES : Hid (MutD w1 g cp M h c n m ∧ Vals M (mtxQ m L) n m 1 ∧ w.heap.size ≤ g ∧ (∀ t, t < n → w.heap.size ≤ h t) ∧ Chg [] w w1) := Lib.hid ⟨hD, ⟨HML.out, fun t ht => (HROW.out t ht).len, fun t ht => (HROW.out t ht).val⟩, hgw, fun t ht => (HOFF.out t ht).2, hch⟩
      clear hD hH hgw hch
      go_wp2_with fail
      go_ret
      exact ⟨g, cp, M, h, c, rfl, HRES.out⟩
end Go.Proofs.Ytpaochhaenehmaa
