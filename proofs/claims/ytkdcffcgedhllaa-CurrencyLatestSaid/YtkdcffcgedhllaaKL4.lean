/-
  Currency: the law CurrencyLatest.
-/
import Derived.Test.YtkdcffcgedhllaaKL3
namespace Go.Proofs.Ytkdcffcgedhllaa
open Go.RowKit Nd

theorem bst_spec (l : List Qt) (c : ByteArray) (d : Int) : ∀ n, (bst l c d n < 0 → ∀ j, j < n → (l.getD j qt0).cd = c → (l.getD j qt0).dy ≤ d → False) ∧ (0 ≤ bst l c d n → (l.getD (bst l c d n).toNat qt0).cd = c ∧ (l.getD (bst l c d n).toNat qt0).dy ≤ d ∧ ∀ j, j < n → (l.getD j qt0).cd = c → (l.getD j qt0).dy ≤ d → (l.getD j qt0).dy ≤ (l.getD (bst l c d n).toNat qt0).dy)
  | 0 => ⟨fun _ j hj => absurd hj (by omega), fun h => absurd h (by simp [bst])⟩
  | n + 1 => by
    obtain ⟨h1, h2⟩ := bst_spec l c d n
    have hlo := bst_lo l c d n
    by_cases hb : (l.getD n qt0).cd = c ∧ (l.getD n qt0).dy ≤ d ∧ (bst l c d n < 0 ∨ (l.getD (bst l c d n).toNat qt0).dy < (l.getD n qt0).dy)
    · have e : bst l c d (n + 1) = n := by simp only [bst]; rw [if_pos hb]
      rw [e]
      refine ⟨fun h => absurd h (by omega), fun _ => ?_⟩
      rw [Int.toNat_natCast]
      refine ⟨hb.1, hb.2.1, fun j hj hc hd => ?_⟩
      by_cases ej : j = n
      · rw [ej]; exact Int.le_refl _
      · rcases hb.2.2 with h | h
        · exact (h1 h j (by omega) hc hd).elim
        · by_cases hp : 0 ≤ bst l c d n
          · have := (h2 hp).2.2 j (by omega) hc hd; omega
          · exact (h1 (by omega) j (by omega) hc hd).elim
    · have e : bst l c d (n + 1) = bst l c d n := by simp only [bst]; rw [if_neg hb]
      rw [e]
      refine ⟨fun h j hj hc hd => ?_, fun h => ⟨(h2 h).1, (h2 h).2.1, fun j hj hc hd => ?_⟩⟩
      · by_cases ej : j = n
        · subst ej; exact hb ⟨hc, hd, .inl h⟩
        · exact h1 h j (by omega) hc hd
      · by_cases ej : j = n
        · subst ej
          by_cases g : (l.getD (bst l c d j).toNat qt0).dy < (l.getD j qt0).dy
          · exact (hb ⟨hc, hd, .inr g⟩).elim
          · omega
        · exact (h2 h).2.2 j (by omega) hc hd
theorem rev_get (l : List Qt) {j : Nat} (h : j < l.length) : l.reverse.getD j qt0 = l.getD (l.length - 1 - j) qt0 := by
  rw [List.getD_eq_getElem?_getD, List.getD_eq_getElem?_getD, List.getElem?_reverse h]
theorem good_rev {l : List Qt} (h : GoodQ l) : GoodQ l.reverse := by
  refine ⟨by rw [List.length_reverse]; exact h.len, fun q hq => h.cod q (List.mem_reverse.1 hq), fun q hq => h.day q (List.mem_reverse.1 hq), fun q hq => h.pos q (List.mem_reverse.1 hq), fun i j hi hj h1 h2 => ?_⟩
  rw [List.length_reverse] at hi hj
  rw [rev_get l hi, rev_get l hj] at h1 h2
  have := h.one _ _ (by omega) (by omega) h1 h2
  omega
theorem fit_rev {l : List Qt} {k : Nat} (h : FitQ l k) : FitQ l.reverse k := ⟨h.pos, h.le, fun q hq => h.all q (List.mem_reverse.1 hq), fun q hq => h.cod q (List.mem_reverse.1 hq)⟩
theorem find_rev {l : List Qt} (h : GoodQ l) (c : ByteArray) (d : Int) : findE l.reverse c d = findE l c d ∧ findV l.reverse c d = findV l c d := by
  have hk : kno l.reverse c l.reverse.length = kno l c l.length := by
    unfold kno
    rw [List.take_of_length_le (Nat.le_refl _), List.take_of_length_le (Nat.le_refl _), List.any_reverse]
  obtain ⟨a1, a2⟩ := bst_spec l c d l.length
  obtain ⟨b1, b2⟩ := bst_spec l.reverse c d l.reverse.length
  have hl := bst_lo l c d l.length
  have hr := bst_lo l.reverse c d l.reverse.length
  have hlen : l.reverse.length = l.length := List.length_reverse
  rw [hlen] at b1 b2 hr hk
  have hneg : bst l.reverse c d l.length < 0 ↔ bst l c d l.length < 0 := by
    constructor
    · intro hn
      by_cases g : bst l c d l.length < 0
      · exact g
      · obtain ⟨x1, x2, _⟩ := a2 (by omega)
        refine (b1 hn (l.length - 1 - (bst l c d l.length).toNat) (by omega) ?_ ?_).elim
        · rw [rev_get l (by omega), show l.length - 1 - (l.length - 1 - (bst l c d l.length).toNat) = (bst l c d l.length).toNat by omega]; exact x1
        · rw [rev_get l (by omega), show l.length - 1 - (l.length - 1 - (bst l c d l.length).toNat) = (bst l c d l.length).toNat by omega]; exact x2
    · intro hn
      by_cases g : bst l.reverse c d l.length < 0
      · exact g
      · obtain ⟨x1, x2, _⟩ := b2 (by omega)
        rw [rev_get l (by omega)] at x1 x2
        exact (a1 hn _ (by omega) x1 x2).elim
  have hnot : ¬ bst l c d l.length < 0 → ¬ bst l.reverse c d l.length < 0 := fun h g => h (hneg.1 g)
  have hv : ¬ bst l c d l.length < 0 → (l.reverse.getD (bst l.reverse c d l.length).toNat qt0) = l.getD (bst l c d l.length).toNat qt0 := by
    intro hn
    obtain ⟨x1, x2, x3⟩ := a2 (by omega)
    obtain ⟨y1, y2, y3⟩ := b2 (by have := hnot hn; omega)
    have hbn := hnot hn
    rw [rev_get l (by omega)] at y1 y2 y3 ⊢
    have z1 := x3 _ (by omega) y1 y2
    have z2 := y3 (l.length - 1 - (bst l c d l.length).toNat) (by omega) (by rw [rev_get l (by omega), show l.length - 1 - (l.length - 1 - (bst l c d l.length).toNat) = (bst l c d l.length).toNat by omega]; exact x1) (by rw [rev_get l (by omega), show l.length - 1 - (l.length - 1 - (bst l c d l.length).toNat) = (bst l c d l.length).toNat by omega]; exact x2)
    rw [rev_get l (by omega), show l.length - 1 - (l.length - 1 - (bst l c d l.length).toNat) = (bst l c d l.length).toNat by omega] at z2
    have := h.one _ _ (by omega) (by omega) (y1.trans x1.symm) (by omega)
    rw [this]
  constructor
  · unfold findE
    rw [hlen, hk]
    by_cases hc : c = eur
    · rw [if_pos hc, if_pos hc]
    · rw [if_neg hc, if_neg hc]
      by_cases g : bst l c d l.length < 0
      · rw [if_pos g, if_pos (hneg.2 g)]
      · rw [if_neg g, if_neg (hnot g)]
  · unfold findV
    rw [hlen]
    by_cases hc : c = eur
    · rw [if_pos hc, if_pos hc]
    · rw [if_neg hc, if_neg hc]
      by_cases g : bst l c d l.length < 0
      · rw [if_pos g, if_pos (hneg.2 g)]
      · rw [if_neg g, if_neg (hnot g), hv g]
theorem rt_rev {l : List Qt} (h : GoodQ l) (c : ByteArray) {d : Int} (hd : isd d = true) : (rtE l c d = findE l c d ∧ rtV l c d = findV l c d) ∧ rtE l.reverse c d = findE l c d ∧ rtV l.reverse c d = findV l c d := by
  refine ⟨rt_off (on_ok (good_chk h) hd), ?_⟩
  obtain ⟨e1, e2⟩ := rt_off (c := c) (on_ok (good_chk (good_rev h)) hd)
  rw [e1, e2]
  exact find_rev h c d
/-- The last m elements, turned. -/
def rvt (l : List Qt) (m : Nat) : List Qt := (l.drop (l.length - m)).reverse
theorem rvt_zero (l : List Qt) : rvt l 0 = [] := by unfold rvt; simp
theorem rvt_all (l : List Qt) : rvt l l.length = l.reverse := by unfold rvt; simp
theorem rvt_length (l : List Qt) {m : Nat} (h : m ≤ l.length) : (rvt l m).length = m := by unfold rvt; simp; omega
theorem rvt_succ (l : List Qt) {m : Nat} (h : m < l.length) : rvt l (m + 1) = rvt l m ++ [l.getD (l.length - 1 - m) qt0] := by
  unfold rvt
  have e : l.drop (l.length - (m + 1)) = l.getD (l.length - 1 - m) qt0 :: l.drop (l.length - m) := by
    rw [show l.length - (m + 1) = l.length - 1 - m by omega, List.drop_eq_getElem_cons (by omega), show l.length - 1 - m + 1 = l.length - m by omega]
    congr 1
    rw [List.getD_eq_getElem?_getD, List.getElem?_eq_getElem (by omega), Option.getD_some]
  rw [e, List.reverse_cons]
theorem codeQ_ne {x : Int} (h : 1 ≤ x) (h2 : x ≤ 3) : codeQ x ≠ eur := by
  unfold codeQ
  rcases (by omega : x = 1 ∨ x = 2 ∨ x = 3) with rfl | rfl | rfl <;> decide

set_option maxRecDepth 20000 in
set_option maxHeartbeats 8000000 in
theorem lqlatest_any (L : List T3) (a dd : Int) (n : Nat) (A : Option Addr) (cap : Nat) (w : World) (ha : 0 ≤ a ∧ a ≤ 255) (hdd : 0 ≤ dd ∧ dd ≤ 255) (hn : L.length = n) (hr : ∀ x ∈ L, InT3 x) (hx : ST3 w A L) :
    Calls Try.prog 8 #[.slice A n cap, .int .u8 a, .int .u8 dd] w fun e w' => e = .returned (.bool true) ∧ Chg [] w w' := by
  have hch : Chg [] w w := Chg.refl _ _
  have HN := Lib.hid hn
  have HR := Lib.hid hr
  obtain ⟨d, HD⟩ := name_it (dd % 50)
  have fd1 : dd % 50 = d := HD.out
  have fd2 : dd.tmod 50 = d := by rw [Int.tmod_eq_emod_of_nonneg hdd.1]; exact HD.out
  have hd1 : 0 ≤ d := by omega
  have hd2 : d ≤ 49 := by omega
  obtain ⟨a3, HA3⟩ := name_it (a % 3)
  have fa1 : a % 3 = a3 := HA3.out
  have fa2 : a.tmod 3 = a3 := by rw [Int.tmod_eq_emod_of_nonneg ha.1]; exact HA3.out
  have ha31 : 0 ≤ a3 := by omega
  have ha32 : a3 ≤ 2 := by omega
  have HCA : Hid (∀ w, Calls Try.prog 21 #[.int .u8 (1 + a3)] w fun e w' => e = .returned (.string (codeQ (1 + a3))) ∧ Chg [] w w') := Lib.hid (fun w => code_any (1 + a3) w (by omega) (by omega))
  have HNE := Lib.hid (codeQ_ne (x := 1 + a3) (by omega) (by omega))
  obtain ⟨c, HC⟩ := name_it (codeQ (1 + a3))
  rw [HC.out] at HCA HNE
  have HDD : Hid (isd d = true) := Lib.hid (isd_of hd1 (by omega))
  have dd1 := hdd.1
  have dd2 := hdd.2
  have a01 := ha.1
  have a02 := ha.2
  clear hn hr ha hdd HD HA3 HC
  go_enter Try.func8, Try.ntmps8
  go_wp2_with fail
  refine (quotes_any L n A cap _ HN.out HR.out hx).mono ?_
  rintro e w1 ⟨v, xs, rfl, hown, hbq, -, c1⟩
  obtain ⟨B, cq, rfl, hc1, hc2, hs⟩ := hown.rds
  obtain ⟨m, HM⟩ := name_it xs.length
  have HBQ := Lib.hid hbq
  have hm8 : m ≤ 8 := by rw [← HM.out]; exact hbq.len
  rw [HM.out] at hc1 ⊢
  have HLOW : Hid (0 < xs.length → ∃ g o, B = some ⟨g, o, none⟩ ∧ g < w1.heap.size) := Lib.hid hs.form
  obtain ⟨⟨r1, r2⟩, r3, r4⟩ := rt_rev hbq.good c HDD.out
  have HR1 := Lib.hid (fun w h => qrate_any xs c d m 1 B cq w HM.out (by omega) hc1 hc2 hbq.fit h)
  have HR2 := Lib.hid (fun w A cp h1 h2 h => qrate_any xs.reverse c d m 1 A cp w (by rw [List.length_reverse]; exact HM.out) (by omega) h1 h2 (fit_rev hbq.fit) h)
  rw [r1, r2] at HR1
  rw [r3, r4] at HR2
  have hch1 := hch.then c1
  have h01 : w.heap.size ≤ w1.heap.size := hch1.size
  have hch0 : Chg [] w1 w1 := Chg.refl _ _
  clear hown hbq hx hch c1 r1 r2 r3 r4
  go_wp2_with fail
  go_loopw [8, 9] (fun rv iv wr => ∃ j : Nat, j ≤ m ∧ iv = .int .i64 ((m : Int) - 1 - j) ∧ OwnQt wr rv (rvt xs j) ∧ (∀ x ∈ rv.ownBlock.toList, w1.heap.size ≤ x) ∧ SQt wr B xs ∧ Chg [] w1 wr) (fun _ iv _ => (intOf iv + 1).toNat)
  case atStart => exact ⟨0, Nat.zero_le _, by simp, by rw [rvt_zero]; exact OwnQt.nil _, (by simp [Value.ownBlock]), hs, hch0⟩
  case round =>
    clear hs hch0
    obtain ⟨j, hj, rfl, hown, hblk, hs, hch⟩ := hrel
    have HBK := Lib.hid hblk
    have HOWN := Lib.hid hown
    clear hblk hown
    by_cases hlt : j < m
    · obtain ⟨gb, ob, rfl, hgl⟩ := HLOW.out (by rw [HM.out]; omega)
      have hc := hs.at_ (j := m - 1 - j) (by rw [HM.out]; omega)
      have HSUC := Lib.hid (rvt_succ xs (m := j) (by rw [HM.out]; exact hlt))
      rw [HM.out] at HSUC
      obtain ⟨t, HT⟩ := name_it (xs.getD (m - 1 - j) qt0)
      rw [HT.out] at hc HSUC
      obtain ⟨i, HI⟩ := name_it ((m : Int) - 1 - j)
      rw [HI.out]
      have hi0 : 0 ≤ i := by rw [← HI.out]; omega
      have hi1 : i < (m : Int) := by rw [← HI.out]; omega
      have hit : i.toNat = m - 1 - j := by rw [← HI.out]; omega
      have d1 : decide (0 ≤ i) = true := decide_eq_true hi0
      have a0 := hc.c0
      have a1 := hc.c1
      have a2 := hc.c2
      have a3' := hc.c3
      have a4 := hc.c4
      have HS := Lib.hid hs
      have hsz : w1.heap.size ≤ wr.heap.size := hch.size
      clear hs hc
      go_wp2_with (first
        | (at_builtin; refine wpList_appendQt _ rfl (.tmp 29) (.tmp 34) rfl u8 (rvt xs j) rfl (HOWN.out.keep0 ((Chg.refl [] _).alloc _)) _ 1 t rfl (sQt_new _ t) (by rw [rvt_length xs (by rw [HM.out]; omega)]; omega) ?_; intro v5 w5 own5 cv5 hv5)
        | fail)
      have HBK5 : Hid (∀ x ∈ v5.ownBlock.toList, w1.heap.size ≤ x) := Lib.hid fun x hx => by
        rcases hv5 with h5 | h5
        · rw [h5] at hx; exact HBK.out x hx
        · rw [h5] at hx; simp at hx; omega
      have c6 : Chg u8.ownBlock.toList wr w5 := (((Chg.refl [] _).alloc _).mono (fun x hx => by cases hx)).trans cv5 (fun x hx => .inl hx)
      have HS5 := Lib.hid (HS.out.keepL (N := w1.heap.size) HLOW.out c6 (fun x hx => HBK.out x hx))
      have hch5 := hch.trans c6 (fun x hx => .inr (HBK.out x hx))
      rw [← HSUC.out] at own5
      have HO5 := Lib.hid own5
      have hij : i - 1 = (m : Int) - 1 - ((j + 1 : Nat) : Int) := by rw [← HI.out]; omega
      clear cv5 hv5 own5 c6 hsz
      go_wp2_with fail
      go_roundw
      case rel => exact ⟨j + 1, by omega, by rw [← hij], HO5.out, HBK5.out, HS5.out, hch5⟩
      case measure => simp [intOf]; omega
    · obtain rfl : j = m := by omega
      have hown := HOWN.out
      rw [← HM.out, rvt_all] at hown
      obtain ⟨Br, cr, hv, h1, h2, hsr⟩ := hown.rds
      rw [List.length_reverse, HM.out] at hv h1
      subst hv
      have HR3 := Lib.hid (fun w h => HR2.out w Br cr h1 h2 h)
      have hm1 : (j : Int) - 1 - j = -1 := by omega
      rw [hm1]
      replace hch := hch1.then hch
      clear HOWN hown HBK h1 h2 HR2 hch1 hm1
      obtain ⟨E, HE⟩ := name_it (findE xs c d)
      obtain ⟨V, HV⟩ := name_it (findV xs c d)
      rw [HE.out, HV.out] at HR1 HR3
      go_wp2_with fail
      refine (HCA.out _).mono ?_
      rintro e w2 ⟨rfl, c1⟩
      replace hs := hs.keep0 c1
      replace hsr := hsr.keep0 c1
      replace hch := hch.then c1
      clear c1
      go_wp2_with fail
      refine (HR1.out _ hs).mono ?_
      rintro e w3 ⟨rfl, c1⟩
      replace hs := hs.keep0 c1
      replace hsr := hsr.keep0 c1
      replace hch := hch.then c1
      have b12 := Blk3.alloc w3 (.bool V.neg) (.string V.num) (.string V.den) 30
      have c2 : Chg [] w3 (w3.alloc (.cells #[.bool V.neg, .string V.num, .string V.den] 30)) := (Chg.refl _ _).alloc _
      replace hs := hs.keep0 c2
      replace hsr := hsr.keep0 c2
      replace hch := hch.then c2
      clear c1 c2
      go_wp2_with fail
      refine (HR3.out _ hsr).mono ?_
      rintro e w4 ⟨rfl, c1⟩
      replace hs := hs.keep0 c1
      replace hch := hch.then c1
      replace b12 := b12.keep0 c1
      have b14 := Blk3.alloc w4 (.bool V.neg) (.string V.num) (.string V.den) 30
      have c2 : Chg [] w4 (w4.alloc (.cells #[.bool V.neg, .string V.num, .string V.den] 30)) := (Chg.refl _ _).alloc _
      replace hs := hs.keep0 c2
      replace b12 := b12.keep0 c2
      replace hch := hch.then c2
      clear c1 c2 hsr HCA HR1 HR3
      go_wp2_with fail
      obtain ⟨g12, G12⟩ := name_it w3.heap.size
      obtain ⟨g14, G14⟩ := name_it w4.heap.size
      rw [G12.out] at b12 ⊢
      rw [G14.out] at b14 ⊢
      clear G12 G14
      go_loopw [16, 17, 59] (fun bv kv iv wr => ∃ (i : Nat) (kn : Bool) (b : Int), i ≤ j ∧ iv = .int .i64 i ∧ kv = .bool kn ∧ bv = .int .i64 b ∧ kno xs c i = kn ∧ bst xs c d i = b ∧ Blk3 wr g12 (.bool V.neg) (.string V.num) (.string V.den) ∧ Blk3 wr g14 (.bool V.neg) (.string V.num) (.string V.den) ∧ SQt wr B xs ∧ Chg [] w wr) (fun _ _ iv _ => j - (intOf iv).toNat)
      case atStart => exact ⟨0, false, -1, Nat.zero_le _, rfl, rfl, rfl, kno_zero xs c, rfl, b12, b14, hs, hch⟩
      case round =>
        clear hs hch b12 b14
        obtain ⟨i, kn, b, hi, rfl, rfl, rfl, hkn, hb, b12, b14, hs, hch⟩ := hrel
        have HKN := Lib.hid hkn
        have HB := Lib.hid hb
        clear hkn hb
        by_cases hlt : i < j
        · obtain ⟨g, o, rfl, hgl⟩ := HLOW.out (by rw [HM.out]; omega)
          have hc := hs.at_ (j := i) (by rw [HM.out]; exact hlt)
          have HKS := Lib.hid (kno_step xs c i (by rw [HM.out]; exact hlt))
          have HOTH := Lib.hid (bst_other (l := xs) (c := c) (d := d) (i := i))
          have HNEW := Lib.hid (bst_new (l := xs) (c := c) (d := d) (i := i))
          have HOLD := Lib.hid (bst_old (l := xs) (c := c) (d := d) (i := i))
          have hblo := bst_lo xs c d i
          rw [HB.out] at hblo HNEW HOLD HOTH
          obtain ⟨t, HT⟩ := name_it (xs.getD i qt0)
          rw [HT.out] at hc HKS HOTH HNEW HOLD
          rw [HKN.out] at HKS
          have a0 := hc.c0
          have a1 := hc.c1
          have a2 := hc.c2
          have a3' := hc.c3
          have a4 := hc.c4
          have c4 : Chg [] wr (wr.alloc (.cells #[.string t.cd, .int .i64 t.dy, .bool t.rt.neg, .string t.rt.num, .string t.rt.den] 33)) := (Chg.refl _ _).alloc _
          have bu := BlkQt.alloc wr (.string t.cd) (.int .i64 t.dy) (.bool t.rt.neg) (.string t.rt.num) (.string t.rt.den) 33
          replace b12 := b12.keep0 c4
          replace b14 := b14.keep0 c4
          have hs1 := hs.keep0 c4
          have HS1 := Lib.hid hs1
          replace hch := hch.then c4
          clear hs hc c4
          have k0 := bu.c0
          have k1 := bu.c1
          by_cases hcd : t.cd = c
          · have d3 : (t.cd.toList == c.toList) = true := str_eq hcd
            have HK2 : Hid (kno xs c (i + 1) = true) := Lib.hid (by rw [HKS.out]; simp [hcd])
            by_cases h4 : t.dy ≤ d
            · have d4 : decide (t.dy ≤ d) = true := decide_eq_true h4
              by_cases hb0 : b < 0
              · have HB2 := Lib.hid (HNEW.out hcd h4 (.inl hb0))
                have d5 : decide (b < 0) = true := decide_eq_true hb0
                clear hcd h4 hs1 hb0 hblo
                go_wp2_with fail
                go_quiet (fail)
                go_wp2_with fail
                go_roundw
                case rel => exact ⟨i + 1, true, i, by omega, by go_num, rfl, rfl, HK2.out, HB2.out, b12.keep0 ((Chg.refl [] _).drewN _), b14.keep0 ((Chg.refl [] _).drewN _), HS1.out.keep0 ((Chg.refl [] _).drewN _), hch.drewN _⟩
                case measure => simp [intOf]; omega
              · have hcb := hs1.at_ (j := b.toNat) (by rw [HM.out]; omega)
                obtain ⟨u, HU⟩ := name_it (xs.getD b.toNat qt0)
                rw [HU.out] at hcb HNEW HOLD
                have e1 := hcb.c1
                have d5 : decide (b < 0) = false := decide_eq_false hb0
                have b3 : 0 ≤ b := by omega
                have b4 : b < (j : Int) := by omega
                clear hcb hs1
                by_cases hdy : u.dy < t.dy
                · have HB2 := Lib.hid (HNEW.out hcd h4 (.inr hdy))
                  have d6 : decide (u.dy < t.dy) = true := decide_eq_true hdy
                  clear hcd h4 hb0 hdy hblo
                  go_wp2_with fail
                  go_quiet (fail)
                  go_wp2_with fail
                  go_roundw
                  case rel => exact ⟨i + 1, true, i, by omega, by go_num, rfl, rfl, HK2.out, HB2.out, b12.keep0 ((Chg.refl [] _).drewN _), b14.keep0 ((Chg.refl [] _).drewN _), HS1.out.keep0 ((Chg.refl [] _).drewN _), hch.drewN _⟩
                  case measure => simp [intOf]; omega
                · have HB2 := Lib.hid (HOLD.out (fun h => by rcases h.2 with h | h; exact hb0 h; exact hdy h))
                  have d6 : decide (u.dy < t.dy) = false := decide_eq_false hdy
                  clear hcd h4 hb0 hdy hblo
                  go_wp2_with fail
                  go_quiet (fail)
                  go_wp2_with fail
                  go_roundw
                  case rel => exact ⟨i + 1, true, b, by omega, by go_num, rfl, rfl, HK2.out, HB2.out, b12.keep0 ((Chg.refl [] _).drewN _), b14.keep0 ((Chg.refl [] _).drewN _), HS1.out.keep0 ((Chg.refl [] _).drewN _), hch.drewN _⟩
                  case measure => simp [intOf]; omega
            · have HB2 := Lib.hid (HOLD.out (fun h => h4 h.1))
              have d4 : decide (t.dy ≤ d) = false := decide_eq_false h4
              clear hcd h4 hs1 hblo
              go_wp2_with fail
              go_quiet (fail)
              go_wp2_with fail
              go_roundw
              case rel => exact ⟨i + 1, true, b, by omega, by go_num, rfl, rfl, HK2.out, HB2.out, b12.keep0 ((Chg.refl [] _).drewN _), b14.keep0 ((Chg.refl [] _).drewN _), HS1.out.keep0 ((Chg.refl [] _).drewN _), hch.drewN _⟩
              case measure => simp [intOf]; omega
          · have d3 : (t.cd.toList == c.toList) = false := str_ne hcd
            have HK2 : Hid (kno xs c (i + 1) = kn) := Lib.hid (by rw [HKS.out]; simp [hcd])
            have HB2 := Lib.hid (HOTH.out hcd)
            clear hcd hs1 hblo
            go_wp2_with fail
            go_roundw
            case rel => exact ⟨i + 1, kn, b, by omega, by go_num, rfl, rfl, HK2.out, HB2.out, b12, b14, HS1.out, hch⟩
            case measure => simp [intOf]; omega
        · obtain rfl : i = j := by omega
          have HKL : Hid (kno xs c xs.length = kn) := Lib.hid (by rw [HM.out]; exact HKN.out)
          have HBL : Hid (bst xs c d xs.length = b) := Lib.hid (by rw [HM.out]; exact HB.out)
          have hblo := bst_lo xs c d i
          rw [HB.out] at hblo
          cases kn with
          | false =>
            have r1 := (find_unknown (d := d) HNE.out HKL.out).1
            rw [HE.out] at r1
            subst r1
            clear hs b12 b14 hblo
            go_wp2_with fail
            refine (awake7_any _).mono ?_
            rintro e wf ⟨rfl, c1⟩
            replace hch := hch.then c1
            clear c1
            go_wp2_with fail
            go_ret
            exact ⟨by simp, hch⟩
          | true =>
            by_cases hb0 : b < 0
            · have r1 := (find_late (d := d) HNE.out HKL.out (by rw [HBL.out]; exact hb0)).1
              rw [HE.out] at r1
              subst r1
              have d4 : decide (b < 0) = true := decide_eq_true hb0
              clear hs b12 b14 hblo hb0
              go_wp2_with fail
              refine (awake7_any _).mono ?_
              rintro e wf ⟨rfl, c1⟩
              replace hch := hch.then c1
              clear c1
              go_wp2_with fail
              go_ret
              exact ⟨by simp, hch⟩
            · obtain ⟨r1, r2⟩ := find_hit (d := d) HNE.out HKL.out (by rw [HBL.out]; exact hb0)
              obtain ⟨g, o, rfl, hgl⟩ := HLOW.out (by rw [HM.out]; omega)
              have hcb := hs.at_ (j := b.toNat) (by rw [HM.out]; omega)
              rw [HE.out] at r1
              rw [HV.out, HBL.out] at r2
              obtain ⟨u, HU⟩ := name_it (xs.getD b.toNat qt0)
              rw [HU.out] at hcb r2
              rw [r2] at b12 b14
              subst r1
              have d4 : decide (b < 0) = false := decide_eq_false hb0
              have b3 : 0 ≤ b := by omega
              have b4 : b < (i : Int) := by omega
              clear hb0 hblo r2 hs
              go_wp2_with fail
              have c8 : Chg [] wr wr.drew := (Chg.refl _ _).drew
              replace b12 := b12.keep0 c8
              replace b14 := b14.keep0 c8
              replace hcb := hcb.keep0 c8
              replace hch := hch.then c8
              clear c8
              go_region_held3 (fun w' => w'.cell? ⟨g12, 0, none⟩ = some (.bool u.rt.neg) ∧ w'.cell? ⟨g12, 1, none⟩ = some (.string u.rt.num) ∧ w'.cell? ⟨g12, 2, none⟩ = some (.string u.rt.den) ∧ w'.cell? ⟨g14, 0, none⟩ = some (.bool u.rt.neg) ∧ w'.cell? ⟨g14, 1, none⟩ = some (.string u.rt.num) ∧ w'.cell? ⟨g14, 2, none⟩ = some (.string u.rt.den) ∧ w'.cell? ⟨g, o + b.toNat * 5 + 2, none⟩ = some (.bool u.rt.neg) ∧ w'.cell? ⟨g, o + b.toNat * 5 + 3, none⟩ = some (.string u.rt.num) ∧ w'.cell? ⟨g, o + b.toNat * 5 + 4, none⟩ = some (.string u.rt.den)) (first
                  | exact ⟨b12.c0, b12.c1, b12.c2, b14.c0, b14.c1, b14.c2, hcb.c2, hcb.c3, hcb.c4⟩) (first
                  | (go_at_call 11
                     (with_reducible refine (awake7_any _).mono ?_)
                     rintro e wf ⟨rfl, c1⟩
                     replace b12 := b12.keep0 c1
                     replace b14 := b14.keep0 c1
                     replace hcb := hcb.keep0 c1
                     replace hch := hch.then c1
                     clear c1)
                  | fail)
              all_goals
                go_wp2_with fail
                go_ret
                exact ⟨by simp, hch⟩
end Go.Proofs.Ytkdcffcgedhllaa
