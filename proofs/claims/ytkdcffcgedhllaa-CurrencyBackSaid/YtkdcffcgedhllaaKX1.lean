/-
  Currency: the rate of a currency on a day: the program's find, Rate.
-/
import Derived.Test.YtkdcffcgedhllaaKC2
namespace Go.Proofs.Ytkdcffcgedhllaa
open Go.RowKit Nd

/-- The day of the latest quote so far. -/
def lat (l : List Qt) (c : ByteArray) (d : Int) (i : Nat) : Int := if bst l c d i < 0 then -1 else (l.getD (bst l c d i).toNat qt0).dy
/-- Its rate. -/
def rtb (l : List Qt) (c : ByteArray) (d : Int) (i : Nat) : Q3 := if bst l c d i < 0 then q0 else (l.getD (bst l c d i).toNat qt0).rt
theorem bst_other {l : List Qt} {c : ByteArray} {d : Int} {i : Nat} (h : (l.getD i qt0).cd ≠ c) : bst l c d (i + 1) = bst l c d i := by
  simp only [bst]; rw [if_neg (fun g => h g.1)]
theorem bst_new {l : List Qt} {c : ByteArray} {d : Int} {i : Nat} (h : (l.getD i qt0).cd = c) (h2 : (l.getD i qt0).dy ≤ d) (h3 : bst l c d i < 0 ∨ (l.getD (bst l c d i).toNat qt0).dy < (l.getD i qt0).dy) : bst l c d (i + 1) = i := by
  simp only [bst]; rw [if_pos ⟨h, h2, h3⟩]
theorem bst_old {l : List Qt} {c : ByteArray} {d : Int} {i : Nat} (h : ¬ ((l.getD i qt0).dy ≤ d ∧ (bst l c d i < 0 ∨ (l.getD (bst l c d i).toNat qt0).dy < (l.getD i qt0).dy))) : bst l c d (i + 1) = bst l c d i := by
  simp only [bst]; rw [if_neg (fun g => h g.2)]
theorem lat_iff {l : List Qt} {c : ByteArray} {d : Int} {i : Nat} (h : 0 ≤ (l.getD i qt0).dy) : lat l c d i < (l.getD i qt0).dy ↔ (bst l c d i < 0 ∨ (l.getD (bst l c d i).toNat qt0).dy < (l.getD i qt0).dy) := by
  unfold lat
  split
  · rename_i hb; exact ⟨fun _ => .inl hb, fun _ => by omega⟩
  · rename_i hb; exact ⟨fun h => .inr h, fun h => by rcases h with h | h; exact absurd h hb; exact h⟩
theorem lat_same {l : List Qt} {c : ByteArray} {d : Int} {i : Nat} (h : bst l c d (i + 1) = bst l c d i) : lat l c d (i + 1) = lat l c d i ∧ rtb l c d (i + 1) = rtb l c d i := by
  unfold lat rtb; rw [h]; exact ⟨rfl, rfl⟩
theorem lat_new {l : List Qt} {c : ByteArray} {d : Int} {i : Nat} (h : bst l c d (i + 1) = i) : lat l c d (i + 1) = (l.getD i qt0).dy ∧ rtb l c d (i + 1) = (l.getD i qt0).rt := by
  unfold lat rtb; rw [h, if_neg (by omega), if_neg (by omega), Int.toNat_natCast]; exact ⟨rfl, rfl⟩
theorem lat_end {l : List Qt} {c : ByteArray} {d : Int} {n : Nat} (h : ∀ j, j < l.length → isd (l.getD j qt0).dy = true) (hn : l.length = n) : lat l c d n < 0 ↔ bst l c d n < 0 := by
  unfold lat
  have hb := bst_lo l c d n
  split
  · rename_i hb; exact ⟨fun _ => hb, fun _ => by decide⟩
  · rename_i hb2
    have := (isd_yes (h (bst l c d n).toNat (by omega))).1
    exact ⟨fun _ => by omega, fun h => absurd h hb2⟩
theorem one_val {z : Q3} {k : Nat} (h : Val z 1 k) : z = q1 := h.enc.unique (by
  refine ⟨rfl, Is_one.2 rfl, Is_zero.2 rfl⟩)
theorem Val_one : Val q1 1 1 := ⟨⟨rfl, Is_one.2 rfl, Is_zero.2 rfl⟩, ⟨by decide, by decide⟩⟩

set_option maxRecDepth 20000 in
set_option maxHeartbeats 4000000 in
theorem find_any (l : List Qt) (c : ByteArray) (d : Int) (n : Nat) (A : Option Addr) (cap : Nat) (w : World) (hn : l.length = n) (hm : n ≤ 1000000000) (hday : ∀ j, j < l.length → isd (l.getD j qt0).dy = true) (hx : SQt w A l) :
    Calls Try.prog 31 #[.slice A n cap, .string c, .int .i64 d] w fun e w' => e = .returned (.tuple #[.agg #[.bool (findV l c d).neg, .string (findV l c d).num, .string (findV l c d).den], .int .i64 (findE l c d)]) ∧ Chg [] w w' := by
  have b1 := Blk3.alloc w (.bool false) (.string ⟨#[]⟩) (.string ⟨#[]⟩) 30
  have hch : Chg [] w (w.alloc (.cells #[.bool false, .string ⟨#[]⟩, .string ⟨#[]⟩] 30)) := (Chg.refl _ _).alloc _
  by_cases he : c = eur
  · rw [(eur_ok (l := l) (d := d) he).1, (eur_ok (l := l) (d := d) he).2]
    have d1 : (c.toList == [69, 85, 82]) = true := eur_eq he
    clear he hday
    go_enter Try.func31, Try.ntmps31
    go_wp2_with fail
    refine (Int_any 1 _ (by omega) (by omega)).mono ?_
    rintro e w1 ⟨z, rfl, hz, c1⟩
    obtain rfl : z = q1 := hz.unique Val_one.enc
    replace hch := hch.then c1
    replace b1 := b1.keep c1 (by simp)
    clear hz c1
    have S := b1.store (.bool q1.neg) (.string q1.num) (.string q1.den)
    have hchS := hch.store3 (.inr (Nat.le_refl _)) (.bool q1.neg) (.string q1.num) (.string q1.den)
    have b1c0 := b1.c0
    have b1c1 := b1.c1
    have b1c2 := b1.c2
    have b1f0 := b1.f0
    have b1f1 := b1.f1
    have b1f2 := b1.f2
    have b1l := b1.lt
    go_wp2_with fail
    exact bodyPost_ret (v := .tuple #[.agg #[.bool q1.neg, .string q1.num, .string q1.den], .int .i64 0]) (by simp [results, Try.results31, go_sem, S.c0, S.c1, S.c2]) rfl ⟨rfl, hchS⟩
  · have HE := Lib.hid he
    have d1 : (c.toList == [69, 85, 82]) = false := eur_ne he
    clear he
    have b2 := Blk3.alloc (w.alloc (.cells #[.bool false, .string ⟨#[]⟩, .string ⟨#[]⟩] 30)) (.bool false) (.string ⟨#[]⟩) (.string ⟨#[]⟩) 30
    rw [World.size_alloc] at b2
    have c2 : Chg [] (w.alloc (.cells #[.bool false, .string ⟨#[]⟩, .string ⟨#[]⟩] 30)) ((w.alloc (.cells #[.bool false, .string ⟨#[]⟩, .string ⟨#[]⟩] 30)).alloc (.cells #[.bool false, .string ⟨#[]⟩, .string ⟨#[]⟩] 30)) := (Chg.refl _ _).alloc _
    replace b1 := b1.keep c2 (by simp)
    replace hch := hch.then c2
    have HLOW : Hid (0 < l.length → ∃ g o, A = some ⟨g, o, none⟩ ∧ g < w.heap.size) := Lib.hid hx.form
    replace hx := hx.keep0 hch
    clear c2
    have HN := Lib.hid hn
    have HDAY := Lib.hid hday
    obtain ⟨vE, HVE⟩ := name_it (findE l c d)
    obtain ⟨vV, HVV⟩ := name_it (findV l c d)
    rw [HVE.out, HVV.out]
    clear hn hday
    go_enter Try.func31, Try.ntmps31
    have b1c0 := b1.c0
    have b1c1 := b1.c1
    have b1c2 := b1.c2
    have b1f0 := b1.f0
    have b1f1 := b1.f1
    have b1f2 := b1.f2
    have b1l := b1.lt
    have b2c0 := b2.c0
    have b2c1 := b2.c1
    have b2c2 := b2.c2
    have b2f0 := b2.f0
    have b2f1 := b2.f1
    have b2f2 := b2.f2
    have b2l := b2.lt
    go_wp2_with fail
    clear b1c0 b1c1 b1c2 b1f0 b1f1 b1f2 b1l b2c0 b2c1 b2c2 b2f0 b2f1 b2f2 b2l
    clear d1
    go_loopw [8, 9, 19] (fun kv lv iv wr => ∃ (i : Nat) (z : Q3) (kn : Bool) (lt : Int), i ≤ n ∧ iv = .int .i64 i ∧ kv = .bool kn ∧ lv = .int .i64 lt ∧ kno l c i = kn ∧ lat l c d i = lt ∧ rtb l c d i = z ∧ Blk3 wr w.heap.size (.bool false) (.string ⟨#[]⟩) (.string ⟨#[]⟩) ∧ Blk3 wr (w.heap.size + 1) (.bool z.neg) (.string z.num) (.string z.den) ∧ SQt wr A l ∧ Chg [] w wr) (fun _ _ iv _ => n - (intOf iv).toNat)
    case atStart => exact ⟨0, q0, false, -1, Nat.zero_le _, rfl, rfl, rfl, kno_zero l c, rfl, rfl, b1, b2, hx, hch⟩
    case round =>
      clear hx hch b1 b2
      obtain ⟨i, z, kn, lt, hi, rfl, rfl, rfl, hkn, hlt0, hz, b1, b2, hx, hch⟩ := hrel
      have HKN := Lib.hid hkn
      have HLT := Lib.hid hlt0
      have HZ := Lib.hid hz
      clear hkn hlt0 hz
      by_cases hlt : i < n
      · obtain ⟨g, o, rfl, hgl⟩ := HLOW.out (by rw [HN.out]; omega)
        have hc := hx.at_ (j := i) (by rw [HN.out]; exact hlt)
        have HDY := Lib.hid (HDAY.out i (by rw [HN.out]; exact hlt))
        have HKS := Lib.hid (kno_step l c i (by rw [HN.out]; exact hlt))
        have HOTH := Lib.hid (bst_other (l := l) (c := c) (d := d) (i := i))
        have HNEW := Lib.hid (bst_new (l := l) (c := c) (d := d) (i := i))
        have HOLD := Lib.hid (bst_old (l := l) (c := c) (d := d) (i := i))
        have HIFF := Lib.hid (lat_iff (l := l) (c := c) (d := d) (i := i))
        have HLN := Lib.hid (lat_new (l := l) (c := c) (d := d) (i := i))
        obtain ⟨t, HT⟩ := name_it (l.getD i qt0)
        rw [HT.out] at hc HDY HKS HOTH HNEW HOLD HIFF HLN
        rw [HKN.out] at HKS
        rw [HLT.out] at HIFF
        have a0 := hc.c0
        have a1 := hc.c1
        have a2 := hc.c2
        have a3 := hc.c3
        have a4 := hc.c4
        have c4 : Chg [] wr (wr.alloc (.cells #[.string t.cd, .int .i64 t.dy, .bool t.rt.neg, .string t.rt.num, .string t.rt.den] 33)) := (Chg.refl _ _).alloc _
        have b4 := BlkQt.alloc wr (.string t.cd) (.int .i64 t.dy) (.bool t.rt.neg) (.string t.rt.num) (.string t.rt.den) 33
        have hne4 : w.heap.size + 1 ≠ wr.heap.size := by have := b2.lt; omega
        replace b1 := b1.keep c4 (by simp)
        replace b2 := b2.keep c4 (by simp)
        have HX1 := Lib.hid (hx.keep0 c4)
        replace hch := hch.then c4
        clear hx hc c4
        have g0 := b4.c0
        have g1 := b4.c1
        have g2 := b4.c2
        have g3 := b4.c3
        have g4 := b4.c4
        by_cases hcd : t.cd = c
        · have d3 : (t.cd.toList == c.toList) = true := str_eq hcd
          have HK2 : Hid (kno l c (i + 1) = true) := Lib.hid (by rw [HKS.out]; simp [hcd])
          by_cases hnew : t.dy ≤ d ∧ lt < t.dy
          · have HB := HNEW.out hcd hnew.1 ((HIFF.out (isd_yes HDY.out).1).1 hnew.2)
            have HL2 := Lib.hid (HLN.out HB)
            have d4 : decide (t.dy ≤ d) = true := decide_eq_true hnew.1
            have d5 : decide (lt < t.dy) = true := decide_eq_true hnew.2
            clear hcd hnew HB
            go_wp2_with fail
            obtain ⟨w5, HW5⟩ := name_it (wr.alloc (.cells #[.string t.cd, .int .i64 t.dy, .bool t.rt.neg, .string t.rt.num, .string t.rt.den] 33))
            obtain ⟨g9, G9⟩ := name_it wr.heap.size
            rw [HW5.out] at b1 b2 b4 HX1 hch ⊢
            rw [G9.out] at b4 ⊢
            rw [G9.out] at hne4
            have c8 : Chg [] w5 w5.drew := (Chg.refl _ _).drew
            have m0 := b2.c0
            have m1 := b2.c1
            have m2 := b2.c2
            have m3 := b2.f0
            have m4 := b2.f1
            have m5 := b2.f2
            have n1 := b4.c1
            have n2 := b4.c2
            have n3 := b4.c3
            have n4 := b4.c4
            replace b1 := b1.keep0 c8
            replace b2 := b2.keep0 c8
            replace b4 := b4.keep0 c8
            have HX2 := Lib.hid (HX1.out.keep0 c8)
            replace hch := hch.then c8
            clear c8 HX1 g0 g1 g2 g3 g4 a0 a1 a2 a3 a4
            have S2 := b2.store (.bool t.rt.neg) (.string t.rt.num) (.string t.rt.den)
            have b1s := b1.st2 (show w.heap.size ≠ w.heap.size + 1 by omega) (.bool t.rt.neg) (.string t.rt.num) (.string t.rt.den)
            have HXS := Lib.hid (HX2.out.st3 (show g ≠ w.heap.size + 1 by omega) (.bool t.rt.neg) (.string t.rt.num) (.string t.rt.den))
            have hchS := hch.store3 (.inr (show w.heap.size ≤ w.heap.size + 1 by omega)) (.bool t.rt.neg) (.string t.rt.num) (.string t.rt.den)
            have g1 := b4.c1
            have g2 := b4.c2
            have g3 := b4.c3
            have g4 := b4.c4
            have hne5 : g9 ≠ w.heap.size + 1 := fun h => hne4 h.symm
            have b2c0 := b2.c0
            have b2c1 := b2.c1
            have b2c2 := b2.c2
            have b2f0 := b2.f0
            have b2f1 := b2.f1
            have b2f2 := b2.f2
            have b2l := b2.lt
            go_region
            all_goals
              go_wp2_with fail
              go_roundw
              case rel => exact ⟨i + 1, t.rt, true, t.dy, by omega, by go_num, rfl, rfl, HK2.out, HL2.out.1, HL2.out.2, b1s, S2, HXS.out, hchS⟩
              case measure => simp [intOf]; omega
          · have HB : Hid (bst l c d (i + 1) = bst l c d i) := Lib.hid (HOLD.out fun h => hnew ⟨h.1, (HIFF.out (isd_yes HDY.out).1).2 h.2⟩)
            have HL2 := Lib.hid (lat_same HB.out)
            clear hcd
            by_cases h4 : t.dy ≤ d
            · have d4 : decide (t.dy ≤ d) = true := decide_eq_true h4
              have d5 : decide (lt < t.dy) = false := decide_eq_false fun h => hnew ⟨h4, h⟩
              clear hnew h4
              go_wp2_with fail
              go_roundw
              case rel => exact ⟨i + 1, z, true, lt, by omega, by go_num, rfl, rfl, HK2.out, by rw [HL2.out.1, HLT.out], by rw [HL2.out.2, HZ.out], b1, b2, HX1.out, hch⟩
              case measure => simp [intOf]; omega
            · have d4 : decide (t.dy ≤ d) = false := decide_eq_false h4
              clear hnew h4
              go_wp2_with fail
              go_roundw
              case rel => exact ⟨i + 1, z, true, lt, by omega, by go_num, rfl, rfl, HK2.out, by rw [HL2.out.1, HLT.out], by rw [HL2.out.2, HZ.out], b1, b2, HX1.out, hch⟩
              case measure => simp [intOf]; omega
        · have d3 : (t.cd.toList == c.toList) = false := str_ne hcd
          have HK2 : Hid (kno l c (i + 1) = kn) := Lib.hid (by rw [HKS.out]; simp [hcd])
          have HB := Lib.hid (HOTH.out hcd)
          have HL2 := Lib.hid (lat_same HB.out)
          clear hcd
          go_wp2_with fail
          go_roundw
          case rel => exact ⟨i + 1, z, kn, lt, by omega, by go_num, rfl, rfl, HK2.out, by rw [HL2.out.1, HLT.out], by rw [HL2.out.2, HZ.out], b1, b2, HX1.out, hch⟩
          case measure => simp [intOf]; omega
      · have hin : i = n := by omega
        subst hin
        have HEND := Lib.hid (lat_end (l := l) (c := c) (d := d) HDAY.out HN.out)
        have HKL : Hid (kno l c l.length = kn) := Lib.hid (by rw [HN.out]; exact HKN.out)
        cases kn with
        | false =>
          obtain ⟨r1, r2⟩ := find_unknown (d := d) HE.out HKL.out
          rw [HVE.out] at r1
          rw [HVV.out] at r2
          subst r1 r2
          clear HVE HVV
          have S := b1.store (.bool false) (.string ⟨#[]⟩) (.string ⟨#[]⟩)
          have hchS := hch.store3 (.inr (Nat.le_refl _)) (.bool false) (.string ⟨#[]⟩) (.string ⟨#[]⟩)
          have b1c0 := b1.c0
          have b1c1 := b1.c1
          have b1c2 := b1.c2
          have b1f0 := b1.f0
          have b1f1 := b1.f1
          have b1f2 := b1.f2
          have b1l := b1.lt
          go_wp2_with fail
          exact bodyPost_ret (v := .tuple #[.agg #[.bool false, .string ⟨#[]⟩, .string ⟨#[]⟩], .int .i64 8]) (by simp [results, Try.results31, go_sem, S.c0, S.c1, S.c2]) rfl ⟨rfl, hchS⟩
        | true =>
          by_cases hlt0 : lt < 0
          · obtain ⟨r1, r2⟩ := find_late (d := d) HE.out HKL.out (by rw [HN.out]; exact HEND.out.1 (by rw [HLT.out]; exact hlt0))
            rw [HVE.out] at r1
            rw [HVV.out] at r2
            subst r1 r2
            clear HVE HVV
            have d4 : decide (lt < 0) = true := decide_eq_true hlt0
            have S := b1.store (.bool false) (.string ⟨#[]⟩) (.string ⟨#[]⟩)
            have hchS := hch.store3 (.inr (Nat.le_refl _)) (.bool false) (.string ⟨#[]⟩) (.string ⟨#[]⟩)
            have b1c0 := b1.c0
            have b1c1 := b1.c1
            have b1c2 := b1.c2
            have b1f0 := b1.f0
            have b1f1 := b1.f1
            have b1f2 := b1.f2
            have b1l := b1.lt
            go_wp2_with fail
            exact bodyPost_ret (v := .tuple #[.agg #[.bool false, .string ⟨#[]⟩, .string ⟨#[]⟩], .int .i64 9]) (by simp [results, Try.results31, go_sem, S.c0, S.c1, S.c2]) rfl ⟨rfl, hchS⟩
          · have hb : ¬ bst l c d l.length < 0 := by rw [HN.out]; exact fun h => hlt0 (by rw [← HLT.out]; exact HEND.out.2 h)
            obtain ⟨r1, r2⟩ := find_hit (d := d) HE.out HKL.out hb
            have r3 : (l.getD (bst l c d l.length).toNat qt0).rt = z := by
              have := HZ.out
              unfold rtb at this
              rw [HN.out] at hb ⊢
              rwa [if_neg hb] at this
            rw [HVE.out] at r1
            rw [HVV.out, r3] at r2
            subst r1 r2
            clear HVE HVV r3 hb
            have d4 : decide (lt < 0) = false := decide_eq_false hlt0
            have hne : w.heap.size ≠ w.heap.size + 1 := by omega
            have S := b1.store (.bool vV.neg) (.string vV.num) (.string vV.den)
            have hchS := hch.store3 (.inr (Nat.le_refl _)) (.bool vV.neg) (.string vV.num) (.string vV.den)
            have b1c0 := b1.c0
            have b1c1 := b1.c1
            have b1c2 := b1.c2
            have b1f0 := b1.f0
            have b1f1 := b1.f1
            have b1f2 := b1.f2
            have b1l := b1.lt
            have b2c0 := b2.c0
            have b2c1 := b2.c1
            have b2c2 := b2.c2
            have b2f0 := b2.f0
            have b2f1 := b2.f1
            have b2f2 := b2.f2
            have b2l := b2.lt
            go_wp2_with fail
            exact bodyPost_ret (v := .tuple #[.agg #[.bool vV.neg, .string vV.num, .string vV.den], .int .i64 0]) (by simp [results, Try.results31, go_sem, S.c0, S.c1, S.c2]) rfl ⟨rfl, hchS⟩
end Go.Proofs.Ytkdcffcgedhllaa
