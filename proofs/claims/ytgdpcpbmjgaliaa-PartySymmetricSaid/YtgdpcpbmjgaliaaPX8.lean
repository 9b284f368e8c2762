/-
  Party: Controlled, Controls of the program.
-/
import Derived.Test.YtgdpcpbmjgaliaaPX6
namespace Go.Proofs.Ytgdpcpbmjgaliaa
open Go.RowKit Nd

theorem ck_zero {K : List Zn} {S : List Stk} {T : List Ti} (h : ckP K S T = 0) : K.length ≤ 32 ∧ S.length ≤ 64 ∧ T.length ≤ 64 ∧ GoodS K S ∧ ovr (pdOf K S) = false ∧ tE K.length T = false ∧ kE K = false := by
  unfold ckP at h
  by_cases h1 : 32 < K.length ∨ 64 < S.length ∨ 64 < T.length
  · rw [if_pos h1] at h; cases h
  · rw [if_neg h1] at h
    by_cases h2 : kE K = true
    · rw [if_pos h2] at h; cases h
    · rw [if_neg h2] at h
      by_cases h3 : fE (sE K S) S.length ≠ 0
      · rw [if_pos h3] at h; exact absurd h h3
      · rw [if_neg h3] at h
        by_cases h4 : ovr (pdOf K S) = true
        · rw [if_pos h4] at h; cases h
        · rw [if_neg h4] at h
          by_cases h5 : tE K.length T = true
          · rw [if_pos h5] at h; cases h
          · exact ⟨by omega, by omega, by omega, good_of (Decidable.not_not.1 h3), by simpa using h4, by simpa using h5, by simpa using h2⟩
theorem cf_zero {p : PV} {L : List Zn} (h : cfE p L = 0) : ckP p.K p.S p.T = 0 ∧ ∀ z ∈ L, inB p.n z.x = true := by
  unfold cfE at h
  by_cases h1 : ckP p.K p.S p.T ≠ 0
  · rw [if_pos h1] at h; exact absurd h h1
  · rw [if_neg h1] at h
    refine ⟨Decidable.not_not.1 h1, fun z hz => ?_⟩
    by_cases h2 : (L.any fun z => !inB p.n z.x) = true
    · rw [if_pos h2] at h; cases h
    · cases hb : inB p.n z.x
      · exact absurd (List.any_eq_true.2 ⟨z, hz, by rw [hb]; rfl⟩) h2
      · rfl
/-- The companies that are answered: none with an error. -/
def ctlL (r : Int) (LX : Nat → Bool) (n : Nat) : List Zn := if r = 0 then idx LX n else []
theorem box_c (p : PV) (gv gu : Nat) (w : World) : Blk3 (w.alloc (.cells #[.slice p.AS p.m p.cS, .slice (some ⟨gv, 0, none⟩) p.m p.m, .slice (some ⟨gu, 0, none⟩) p.n p.n] 63)) w.heap.size (.slice p.AS p.m p.cS) (.slice (some ⟨gv, 0, none⟩) p.m p.m) (.slice (some ⟨gu, 0, none⟩) p.n p.n) := Blk3.alloc w _ _ _ _

set_option maxRecDepth 20000 in
set_option maxHeartbeats 2000000 in
theorem pcontrolled_any (p : PV) (k : Nat) (o : Int) (LX : Nat → Bool) (w : World) (hp : p.At w) (hF : FitS p.S k) (hL : cfE p [⟨o⟩] = 0 → Least (pdOf p.K p.S) o.toNat LX) :
    Calls Try.prog 17 #[p.val, .int .i64 o] w fun e w' => ∃ v, e = .returned (.tuple #[v, .int .i64 (cfE p [⟨o⟩])]) ∧ OwnZn w' v (ctlL (cfE p [⟨o⟩]) LX p.n) ∧ (∀ x ∈ v.ownBlock.toList, w.heap.size ≤ x) ∧ Chg [] w w' := by
  have b1 := box_p p w
  have hch := chg_p p w
  have hsz : w.heap.size < (w.alloc (.cells #[.slice p.AK p.n p.cK, .slice p.AS p.m p.cS, .slice p.AT p.t p.cT] 26)).heap.size := b1.lt
  replace hp := hp.keep0 hch
  have c1 : Chg [] (w.alloc (.cells #[.slice p.AK p.n p.cK, .slice p.AS p.m p.cS, .slice p.AT p.t p.cT] 26)) ((w.alloc (.cells #[.slice p.AK p.n p.cK, .slice p.AS p.m p.cS, .slice p.AT p.t p.cT] 26)).alloc (.cells #[.int .i64 o] 3)) := (Chg.refl _ _).alloc _
  have hx := sZn_new (w.alloc (.cells #[.slice p.AK p.n p.cK, .slice p.AS p.m p.cS, .slice p.AT p.t p.cT] 26)) ⟨o⟩
  rw [World.size_alloc] at hx
  have b1c0 := b1.c0
  have b1c1 := b1.c1
  have b1c2 := b1.c2
  replace b1 := b1.keep0 c1
  replace hp := hp.keep0 c1
  replace hch := hch.then c1
  clear c1
  have HC := Lib.hid (fun w h1 h2 => countFor_any p k [⟨o⟩] 1 (some ⟨w.heap.size + 1, 0, none⟩) 1 w h1 hF rfl (by omega) h2)
  have HC2 := Lib.hid (fun A w h1 h2 => countFor_any p k [⟨o⟩] 1 A 1 w h1 hF rfl (by omega) h2)
  have HZ : Hid (cfE p [⟨o⟩] = 0 → ∃ a : Nat, o = (a : Int) ∧ a < p.n ∧ p.m ≤ 64 ∧ p.n ≤ 32 ∧ GoodS p.K p.S ∧ Least (pdOf p.K p.S) a LX) := Lib.hid fun h => by
    have h1 := cf_zero h
    obtain ⟨a, ha, hn⟩ := inB_nat (h1.2 ⟨o⟩ (by simp))
    have h2 := ck_zero h1.1
    rw [hp.kn, hp.sn] at h2
    have h3 := hL h
    rw [show o.toNat = a by have : o = (a : Int) := ha; omega] at h3
    exact ⟨a, ha, hn, h2.2.1, h2.1, h2.2.2.2.1, h3⟩
  have HB : Hid (cfE p [⟨o⟩] ≠ 0 → ctlL (cfE p [⟨o⟩]) LX p.n = []) := Lib.hid fun h => by unfold ctlL; rw [if_neg h]
  have HG : Hid (ctlL 0 LX p.n = idx LX p.n) := Lib.hid (if_pos rfl)
  obtain ⟨r, HR⟩ := name_it (cfE p [⟨o⟩])
  rw [HR.out] at HC HC2 HZ HB ⊢
  clear hL
  go_enter Try.func17, Try.ntmps17
  go_wp2_with fail
  refine (HC2.out _ _ hp hx).mono ?_
  intro e w1 hpost
  have hsz1 := hpost.ch.size
  replace hp := hp.keep0 hpost.ch
  replace hch := hch.then hpost.ch
  clear b1c0 b1c1 b1c2 hx
  by_cases h0 : r = 0
  · obtain ⟨gv, gu, rfl, hC, hgv, hgu⟩ := hpost.good h0
    obtain ⟨a, rfl, han, hm, hn, hGS, hLE⟩ := HZ.out h0
    subst h0
    have HCT := Lib.hid (fun w h1 h2 => controlled_any p k gv gu a LX w h1 h2 hm hn hGS hF hLE)
    have c4 : Chg [] w1 (w1.alloc (.cells #[.slice p.AS p.m p.cS, .slice (some ⟨gv, 0, none⟩) p.m p.m, .slice (some ⟨gu, 0, none⟩) p.n p.n] 63)) := (Chg.refl _ _).alloc _
    have b6 := box_c p gv gu w1
    replace hp := hp.keep0 c4
    replace hC := hC.keep0 c4
    replace hch := hch.then c4
    clear c4 hpost hgv hgu hsz1
    have b6c0 := b6.c0
    have b6c1 := b6.c1
    have b6c2 := b6.c2
    go_wp2_with fail
    refine (HCT.out _ hp hC).mono ?_
    rintro e w2 ⟨g, rfl, hX, hg, c1⟩
    have hwg := hch.size
    replace hch := hch.then c1
    clear c1 b6c0 b6c1 b6c2 b6
    go_wp2_with fail
    refine (list_any LX g p.n _ (by omega) hX).mono ?_
    rintro e w3 ⟨v, rfl, hown, hob, c1⟩
    have hwg2 := hch.size
    replace hch := hch.then c1
    have HO := Lib.hid hown
    have HOB : Hid (∀ x ∈ v.ownBlock.toList, w.heap.size ≤ x) := Lib.hid fun x hx => Nat.le_trans hwg2 (hob x hx)
    clear c1 hown hob
    go_wp2_with fail
    go_ret2
    exact ⟨v, rfl, by rw [HG.out]; exact HO.out, HOB.out, hch⟩
  · obtain rfl := hpost.bad h0
    have d1 : (r == 0) = false := by simp [h0]
    have d2 : (r != 0) = true := by simp [h0]
    have HBB := Lib.hid (HB.out h0)
    clear hpost
    go_wp2_with fail
    go_ret2
    exact ⟨_, rfl, by rw [HBB.out]; exact OwnZn.nil _, by simp [Value.ownBlock], hch.alloc _⟩

set_option maxRecDepth 20000 in
set_option maxHeartbeats 2000000 in
theorem pcontrols_any (p : PV) (k : Nat) (o b : Int) (LX : Nat → Bool) (w : World) (hp : p.At w) (hF : FitS p.S k) (hL : cfE p [⟨o⟩, ⟨b⟩] = 0 → Least (pdOf p.K p.S) o.toNat LX) :
    Calls Try.prog 19 #[p.val, .int .i64 o, .int .i64 b] w fun e w' => e = .returned (.tuple #[.bool (decide (cfE p [⟨o⟩, ⟨b⟩] = 0) && LX b.toNat), .int .i64 (cfE p [⟨o⟩, ⟨b⟩])]) ∧ Chg [] w w' := by
  have b1 := box_p p w
  have hch := chg_p p w
  replace hp := hp.keep0 hch
  have c1 : Chg [] (w.alloc (.cells #[.slice p.AK p.n p.cK, .slice p.AS p.m p.cS, .slice p.AT p.t p.cT] 26)) ((w.alloc (.cells #[.slice p.AK p.n p.cK, .slice p.AS p.m p.cS, .slice p.AT p.t p.cT] 26)).alloc (.cells #[.int .i64 o, .int .i64 b] 3)) := (Chg.refl _ _).alloc _
  have hx : SZn ((w.alloc (.cells #[.slice p.AK p.n p.cK, .slice p.AS p.m p.cS, .slice p.AT p.t p.cT] 26)).alloc (.cells #[.int .i64 o, .int .i64 b] 3)) (some ⟨w.heap.size + 1, 0, none⟩) [⟨o⟩, ⟨b⟩] := by
    have := BlkTi.alloc (w.alloc (.cells #[.slice p.AK p.n p.cK, .slice p.AS p.m p.cS, .slice p.AT p.t p.cT] 26)) (.int .i64 o) (.int .i64 b) 3
    rw [World.size_alloc] at this
    intro _
    refine ⟨_, 0, rfl, this.lt, fun j hj => ?_⟩
    rcases (by simp at hj; omega : j = 0 ∨ j = 1) with rfl | rfl
    · exact ⟨this.c0, this.lt⟩
    · exact ⟨this.c1, this.lt⟩
  have b1c0 := b1.c0
  have b1c1 := b1.c1
  have b1c2 := b1.c2
  replace b1 := b1.keep0 c1
  replace hp := hp.keep0 c1
  replace hch := hch.then c1
  clear c1
  have HC2 := Lib.hid (fun A w h1 h2 => countFor_any p k [⟨o⟩, ⟨b⟩] 2 A 2 w h1 hF rfl (by omega) h2)
  have HZ : Hid (cfE p [⟨o⟩, ⟨b⟩] = 0 → ∃ a c : Nat, o = (a : Int) ∧ b = (c : Int) ∧ a < p.n ∧ c < p.n ∧ p.m ≤ 64 ∧ p.n ≤ 32 ∧ GoodS p.K p.S ∧ Least (pdOf p.K p.S) a LX) := Lib.hid fun h => by
    have h1 := cf_zero h
    obtain ⟨a, ha, hn⟩ := inB_nat (h1.2 ⟨o⟩ (by simp))
    obtain ⟨c, hc, hcn⟩ := inB_nat (h1.2 ⟨b⟩ (by simp))
    have h2 := ck_zero h1.1
    rw [hp.kn, hp.sn] at h2
    have h3 := hL h
    rw [show o.toNat = a by have : o = (a : Int) := ha; omega] at h3
    exact ⟨a, c, ha, hc, hn, hcn, h2.2.1, h2.1, h2.2.2.2.1, h3⟩
  obtain ⟨r, HR⟩ := name_it (cfE p [⟨o⟩, ⟨b⟩])
  rw [HR.out] at HC2 HZ ⊢
  have HYG : Hid (r = 0 → (decide (r = 0) && LX b.toNat) = LX b.toNat) := Lib.hid fun h => by rw [h]; simp
  have HYB : Hid (r ≠ 0 → (decide (r = 0) && LX b.toNat) = false) := Lib.hid fun h => by simp [h]
  obtain ⟨y, HY⟩ := name_it (decide (r = 0) && LX b.toNat)
  rw [HY.out] at HYG HYB ⊢
  clear hL
  go_enter Try.func19, Try.ntmps19
  go_wp2_with fail
  refine (HC2.out _ _ hp hx).mono ?_
  intro e w1 hpost
  have hsz1 := hpost.ch.size
  replace hp := hp.keep0 hpost.ch
  replace hch := hch.then hpost.ch
  clear b1c0 b1c1 b1c2 hx
  by_cases h0 : r = 0
  · obtain ⟨gv, gu, rfl, hC, hgv, hgu⟩ := hpost.good h0
    obtain ⟨a, c, rfl, rfl, han, hcn, hm, hn, hGS, hLE⟩ := HZ.out h0
    subst h0
    have HCT := Lib.hid (fun w h1 h2 => controlled_any p k gv gu a LX w h1 h2 hm hn hGS hF hLE)
    have c4 : Chg [] w1 (w1.alloc (.cells #[.slice p.AS p.m p.cS, .slice (some ⟨gv, 0, none⟩) p.m p.m, .slice (some ⟨gu, 0, none⟩) p.n p.n] 63)) := (Chg.refl _ _).alloc _
    have b6 := box_c p gv gu w1
    replace hp := hp.keep0 c4
    replace hC := hC.keep0 c4
    replace hch := hch.then c4
    clear c4 hpost hgv hgu hsz1
    have b6c0 := b6.c0
    have b6c1 := b6.c1
    have b6c2 := b6.c2
    have HBB : Hid (y = LX c) := Lib.hid (by have := HYG.out rfl; rwa [Int.toNat_natCast] at this)
    go_wp2_with fail
    refine (HCT.out _ hp hC).mono ?_
    rintro e w2 ⟨g, rfl, hX, hg, c1⟩
    replace hch := hch.then c1
    clear c1 b6c0 b6c1 b6c2 b6
    have hxc : w2.cell? ⟨g, c, none⟩ = some (.bool (LX c)) := hX.cell c hcn
    have i1 : (0 : Int) ≤ (c : Int) := by omega
    have i2 : (c : Int) < (p.n : Int) := by omega
    go_wp2_with fail
    try go_quiet (fail)
    try go_wp2_with fail
    go_ret2
    exact ⟨ret_eq (by rw [HBB.out]; rfl), hch⟩
  · obtain rfl := hpost.bad h0
    have d1 : (r == 0) = false := by simp [h0]
    have d2 : (r != 0) = true := by simp [h0]
    have hy : y = false := HYB.out h0
    subst hy
    clear hpost
    go_wp2_with fail
    go_ret2
    exact ⟨rfl, hch.alloc _⟩
end Go.Proofs.Ytgdpcpbmjgaliaa
