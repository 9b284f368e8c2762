/-
  Walks of package rational: few of law 2.
-/
import Derived.Test.YtjmonodjnljhdaaDoorQ12
import Derived.Test.YtjmonodjnljhdaaDoorQR1
namespace Go.Proofs.YtjmonodjnljhdaaDoor
open Go.RowKit Nd

/-- Numbers laid in a block, one behind the other. -/
structure Rats (w : World) (g : Nat) (xs : List Q3) : Prop where
  lt : g < w.heap.size
  cells : ∀ j, j < xs.length → w.cell? ⟨g, j * 3, none⟩ = some (.bool (xs.getD j q0).neg) ∧ w.cell? ⟨g, j * 3 + 1, none⟩ = some (.string (xs.getD j q0).num) ∧ w.cell? ⟨g, j * 3 + 2, none⟩ = some (.string (xs.getD j q0).den)
theorem Rats.keep {gs : List Nat} {w w' : World} {g : Nat} {xs : List Q3} (h : Rats w g xs) (hc : Chg gs w w') (hg : g ∉ gs) : Rats w' g xs := by
  refine ⟨Nat.lt_of_lt_of_le h.lt hc.size, fun j hj => ?_⟩
  obtain ⟨a, b, c⟩ := h.cells j hj
  exact ⟨(hc.cell h.lt hg).trans a, (hc.cell h.lt hg).trans b, (hc.cell h.lt hg).trans c⟩

set_option maxRecDepth 20000 in
set_option maxHeartbeats 1000000 in
theorem fewRats_any (xs : List Q3) (g cap m : Nat) (w : World) (hm : m ≤ 1000) (hx : Rats w g xs) (hl : xs.length ≤ m) :
    Calls Tryd.prog 40 #[.slice (some ⟨g, 0, none⟩) xs.length cap, .int .i64 m] w fun e w' => e = .returned (.bool (fewQ xs)) ∧ Chg [] w w' := by
  have hch : Chg [] w w := Chg.refl _ _
  obtain ⟨n, HN⟩ := name_it xs.length
  obtain ⟨r, HR⟩ := name_it (fewQ xs)
  have hlen := HN
  rw [HN.out] at hl ⊢
  rw [HR.out]
  have hgt : decide ((m : Int) < (n : Int)) = false := by simp; omega
  have hgn : decide (m < n) = false := by simp; omega
  go_enter Tryd.func40, Tryd.ntmps40
  go_wp2_with fail
  first | rw [hgt] | rw [hgn] | skip
  clear hgt hgn
  go_loopw [6, 13] (fun bv iv wr => ∃ k : Nat, k ≤ n ∧ iv = .int .i64 k ∧ fewQ (xs.take k) = true ∧ Rats wr g xs ∧ Chg [] w wr) (fun _ iv _ => n - (intOf iv).toNat)
  case atStart => exact ⟨0, Nat.zero_le _, rfl, by simp [fewQ], hx, hch⟩
  case round =>
    clear hx hch
    obtain ⟨k, hk, rfl, hf, hx, hch⟩ := hrel
    have HF := Lib.hid hf
    clear hf
    by_cases hlt : k < n
    · obtain ⟨c0, c1, c2⟩ := hx.cells k (by rw [HN.out]; exact hlt)
      obtain ⟨s, HS⟩ := name_it (xs.getD k q0)
      rw [HS.out] at c0 c1 c2
      have hmem : s ∈ xs := by rw [← HS.out, getD_lt _ _ (by rw [HN.out]; exact hlt)]; exact List.getElem_mem _
      have hst : fewQ (xs.take (k + 1)) = (fewQ (xs.take k) && shortQ s) := by
        rw [take_snoc xs q0 k (by rw [HN.out]; exact hlt), HS.out]; simp [fewQ]
      have HM := Lib.hid hmem
      have HST := Lib.hid hst
      clear hmem hst
      go_wp2_with fail
      refine (Few_any s _).mono ?_
      rintro e w1 ⟨rfl, c1⟩
      have c2 := ((Chg.refl [] _).alloc (.cells #[.bool s.neg, .string s.num, .string s.den] 29)).then c1
      replace hx := hx.keep c2 (by simp)
      replace hch := hch.then c2
      clear c0 c1 c2
      cases hsh : shortQ s
      · have hr : r = false := by
          rw [← HR.out]; unfold fewQ; rw [List.all_eq_false]
          exact ⟨s, HM.out, by simp [hsh]⟩
        subst hr
        go_wp2_with fail
        go_ret
        exact ⟨rfl, hch⟩
      · go_wp2_with fail
        go_roundw
        case rel => exact ⟨k + 1, by omega, by go_num, by rw [HST.out, HF.out, hsh]; rfl, hx, hch⟩
        case measure => simp [intOf]; omega
    · have hr : r = true := by
        rw [← HR.out]; have := HF.out; rwa [List.take_of_length_le (by rw [HN.out]; omega)] at this
      subst hr
      go_wp2_with fail
      go_ret
      exact ⟨rfl, hch⟩

set_option maxRecDepth 20000 in
set_option maxHeartbeats 1000000 in
theorem few2_any (xs : List Q3) (g cap : Nat) (w : World) (hx : Rats w g xs) (hl : xs.length ≤ 8) :
    Calls Tryd.prog 15 #[.slice (some ⟨g, 0, none⟩) xs.length cap] w fun e w' => e = .returned (.bool (fewQ xs)) ∧ Chg [] w w' := by
  obtain ⟨n, HN⟩ := name_it xs.length
  rw [HN.out] at hl ⊢
  go_enter Tryd.func15, Tryd.ntmps15
  go_wp2_with fail
  rw [← HN.out]
  refine (fewRats_any xs g cap 8 w (by omega) hx (by rw [HN.out]; omega)).mono ?_
  rintro e w1 ⟨rfl, c1⟩
  rw [HN.out]
  go_wp2_with fail
  go_ret
  exact ⟨rfl, c1⟩

theorem Rats.one (w : World) (x : Q3) (e : TypeId) : Rats (w.alloc (.cells #[.bool x.neg, .string x.num, .string x.den] e)) w.heap.size [x] := by
  refine ⟨by simp, fun j hj => ?_⟩
  obtain rfl : j = 0 := by simpa using hj
  simp

set_option maxRecDepth 20000 in
set_option maxHeartbeats 1000000 in
theorem lvalid_any (x : Q3) (w : World) : Calls Tryd.prog 5 #[.agg #[.bool x.neg, .string x.num, .string x.den]] w fun e w' => e = .returned (.bool true) ∧ Chg [] w w' := by
  have hch : Chg [] w ((w.alloc (.cells #[.bool x.neg, .string x.num, .string x.den] 29)).alloc (.cells #[.bool x.neg, .string x.num, .string x.den] 29)) := ((Chg.refl _ _).alloc _).then ((Chg.refl _ _).alloc _)
  have b1 := (Blk3.alloc w (.bool x.neg) (.string x.num) (.string x.den) 29).keep ((Chg.refl [] _).alloc (.cells #[.bool x.neg, .string x.num, .string x.den] 29)) (by simp)
  have hr := Rats.one (w.alloc (.cells #[.bool x.neg, .string x.num, .string x.den] 29)) x 29
  rw [World.size_alloc] at hr
  cases hf : fewQ [x]
  · have HF := Lib.hid hf
    clear hf
    go_enter Tryd.func5, Tryd.ntmps5
    go_wp2_with fail
    refine (few2_any [x] (w.heap.size + 1) 1 _ hr (by simp)).mono ?_
    rintro e w1 ⟨rfl, c1⟩
    rw [HF.out]
    replace hch := hch.then c1
    clear c1
    go_wp2_with fail
    refine (awake2_any _).mono ?_
    rintro e w2 ⟨rfl, c1⟩
    replace hch := hch.then c1
    clear c1
    go_wp2_with fail
    go_ret
    exact ⟨rfl, hch⟩
  · have hss : x.num.size ≤ 24 ∧ x.den.size ≤ 24 := by simpa [fewQ, shortQ] using hf
    have HF := Lib.hid hf
    have SS := Lib.hid hss
    clear hf hss
    go_enter Tryd.func5, Tryd.ntmps5
    go_wp2_with fail
    refine (few2_any [x] (w.heap.size + 1) 1 _ hr (by simp)).mono ?_
    rintro e w1 ⟨rfl, c1⟩
    rw [HF.out]
    replace hch := hch.then c1
    replace b1 := b1.keep c1 (by simp)
    clear c1
    go_wp2_with fail
    have z1 : x.num.size ≤ 1099511627776 := by have := SS.out.1; omega
    have z2 : x.den.size ≤ 1099511627776 := by have := SS.out.2; omega
    obtain ⟨u1, U1⟩ := name_it w1
    rw [U1.out] at b1 hch ⊢
    replace b1 := b1.keep ((Chg.refl [] _).drew) (by simp)
    replace hch := hch.drew
    go_region_held3 (fun w' => w'.cell? ⟨w.heap.size, 0, none⟩ = some (.bool x.neg) ∧ w'.cell? ⟨w.heap.size, 1, none⟩ = some (.string x.num) ∧ w'.cell? ⟨w.heap.size, 2, none⟩ = some (.string x.den)) (first | exact ⟨b1.c0, b1.c1, b1.c2⟩ | exact ⟨by simp [go_sem, b1.c0], by simp [go_sem, b1.c1], by simp [go_sem, b1.c2]⟩) (first
        | (go_at_call 16
           (with_reducible refine (awake2_any _).mono ?_)
           rintro e w1 ⟨rfl, c1⟩
           replace b1 := b1.keep c1 (by simp)
           replace hch := hch.then c1
           clear c1)
        | (go_at_call 17
           (with_reducible refine (Valid_any x _ z1 z2).mono ?_)
           rintro e w1 ⟨rfl, c1⟩
           replace b1 := b1.keep c1 (by simp)
           replace hch := hch.then c1
           clear c1)
        | (go_at_call 18
           (with_reducible refine (rValid_any x _ z1 z2).mono ?_)
           rintro e w1 ⟨rfl, c1⟩
           replace b1 := b1.keep c1 (by simp)
           replace hch := hch.then c1
           clear c1))
    all_goals
      go_wp2_with fail
      go_ret
      exact ⟨ret_eq (by simp), hch⟩
end Go.Proofs.YtjmonodjnljhdaaDoor
