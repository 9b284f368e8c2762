/-
  Currency: valid quotes; few, awake; the laws CurrencyCheck, CurrencyRate, CurrencyConvert.
-/
import Derived.Test.YtkdcffcgedhllaaKX4
import Derived.Test.YtkdcffcgedhllaaKB
namespace Go.Proofs.Ytkdcffcgedhllaa
open Go.RowKit Nd

/-- Quotes without an error. -/
structure GoodQ (l : List Qt) : Prop where
  len : l.length ≤ 256
  cod : ∀ q ∈ l, codeB q.cd = true ∧ q.cd ≠ eur
  day : ∀ q ∈ l, isd q.dy = true
  pos : ∀ q ∈ l, 0 < ratOf q.rt
  one : ∀ i j, i < l.length → j < l.length → (l.getD i qt0).cd = (l.getD j qt0).cd → (l.getD i qt0).dy = (l.getD j qt0).dy → i = j
theorem sg_of_pos {q : Rat} (h : 0 < q) : sg q = 1 := by
  unfold sg
  rw [if_neg (by grind), if_neg (by grind)]
theorem good_chk {l : List Qt} (h : GoodQ l) : chkQ l = 0 := by
  unfold chkQ
  rw [if_neg (by have := h.len; omega)]
  refine fE_none fun i hi => ?_
  have hm := memQt hi
  unfold qE
  rw [cq_dup (h.cod _ hm).1 (h.cod _ hm).2 (h.day _ hm) (by rw [sg_of_pos (h.pos _ hm)]; omega)]
  have hd : dupL (l.take i) (l.getD i qt0) = false := by
    unfold dupL
    rw [List.any_eq_false]
    intro o ho hb
    obtain ⟨j, hj, rfl⟩ := List.getElem_of_mem ho
    rw [List.length_take] at hj
    simp only [Bool.and_eq_true, decide_eq_true_eq, List.getElem_take] at hb
    have e : l.getD j qt0 = l[j] := by rw [List.getD_eq_getElem?_getD, List.getElem?_eq_getElem (by omega), Option.getD_some]
    have := h.one j i (by omega) hi (by rw [e]; exact hb.1) (by rw [e]; exact hb.2)
    omega
  rw [hd]; rfl

/-- Whether raw quotes are short enough for a law. -/
def fewK (l : List Qt) : Bool := l.all fun s => shortQ s.rt && decide (s.cd.size ≤ 20)
theorem fewK_fits {l : List Qt} (h : fewK l = true) : FitQ l 24 := by
  have hh : ∀ s ∈ l, (s.rt.num.size ≤ 24 ∧ s.rt.den.size ≤ 24) ∧ s.cd.size ≤ 20 := fun s hs => by
    have := List.all_eq_true.1 h s hs
    unfold shortQ at this
    simpa only [Bool.and_eq_true, decide_eq_true_eq] using this
  exact ⟨by omega, by omega, fun s hs => (hh s hs).1, fun s hs => by have := (hh s hs).2; omega⟩

set_option maxRecDepth 20000 in
set_option maxHeartbeats 1000000 in
theorem kfew_any (l : List Qt) (n : Nat) (A : Option Addr) (cap : Nat) (w : World) (hn : l.length = n) (hx : SQt w A l) :
    Calls Try.prog 10 #[.slice A n cap] w fun e w' => e = .returned (.bool (decide (n ≤ 12) && fewK l)) ∧ Chg [] w w' := by
  have hch : Chg [] w w := Chg.refl _ _
  obtain ⟨r, HR⟩ := name_it (decide (n ≤ 12) && fewK l)
  rw [HR.out]
  have HN := Lib.hid hn
  clear hn
  by_cases hlen : n ≤ 12
  · have hR2 : Hid (r = fewK l) := Lib.hid (by rw [← HR.out]; simp [hlen])
    have d1 : decide ((12 : Int) < (n : Int)) = false := decide_eq_false (by omega)
    clear HR
    go_enter Try.func10, Try.ntmps10
    go_wp2_with fail
    clear d1
    go_loopw [10] (fun iv wr => ∃ k : Nat, k ≤ n ∧ iv = .int .i64 k ∧ fewK (l.take k) = true ∧ SQt wr A l ∧ Chg [] w wr) (fun iv _ => n - (intOf iv).toNat)
    case atStart => exact ⟨0, Nat.zero_le _, rfl, by simp [fewK], hx, hch⟩
    case round =>
      clear hx hch
      obtain ⟨k, hk, rfl, hf, hx, hch⟩ := hrel
      have HF := Lib.hid hf
      clear hf
      by_cases hlt : k < n
      · obtain ⟨g, o, rfl, hgl⟩ := hx.form (by rw [HN.out]; omega)
        have hc := hx.at_ (j := k) (by rw [HN.out]; exact hlt)
        have hmem := memQt (l := l) (j := k) (by rw [HN.out]; exact hlt)
        have hst : fewK (l.take (k + 1)) = (fewK (l.take k) && (shortQ (l.getD k qt0).rt && decide ((l.getD k qt0).cd.size ≤ 20))) := by
          rw [take_snocQt l k (by rw [HN.out]; exact hlt)]; simp [fewK]
        obtain ⟨s, HS⟩ := name_it (l.getD k qt0)
        rw [HS.out] at hc hmem hst
        have a0 := hc.c0
        have a1 := hc.c1
        have a2 := hc.c2
        have a3 := hc.c3
        have a4 := hc.c4
        have HM := Lib.hid hmem
        have HST := Lib.hid hst
        have c4 : Chg [] wr (wr.alloc (.cells #[.string s.cd, .int .i64 s.dy, .bool s.rt.neg, .string s.rt.num, .string s.rt.den] 33)) := (Chg.refl _ _).alloc _
        have b4 := BlkQt.alloc wr (.string s.cd) (.int .i64 s.dy) (.bool s.rt.neg) (.string s.rt.num) (.string s.rt.den) 33
        have HX1 := Lib.hid (hx.keep0 c4)
        replace hch := hch.then c4
        clear hx hc c4 hmem hst
        have k2 := b4.c2
        have k3 := b4.c3
        have k4 := b4.c4
        go_wp2_with fail
        refine (Few_any s.rt _).mono ?_
        rintro e w1 ⟨rfl, c1⟩
        have hx1 := HX1.out.keep0 c1
        replace hch := hch.then c1
        replace b4 := b4.keep0 c1
        clear c1 k2 k3 k4 a0 a1 a2 a3 a4
        have k0 := b4.c0
        cases hsh : shortQ s.rt
        · have hr : r = false := by
            rw [hR2.out]; unfold fewK; rw [List.all_eq_false]
            exact ⟨s, HM.out, by simp [hsh]⟩
          subst hr
          go_wp2_with fail
          go_ret
          exact ⟨rfl, hch⟩
        · by_cases h20 : s.cd.size ≤ 20
          · have d2 : decide ((20 : Int) < (s.cd.size : Int)) = false := decide_eq_false (by omega)
            have HST2 : Hid (fewK (l.take (k + 1)) = true) := Lib.hid (by rw [HST.out, HF.out, hsh]; simp [h20])
            go_wp2_with fail
            go_roundw
            case rel => exact ⟨k + 1, by omega, by go_num, HST2.out, hx1, hch⟩
            case measure => simp [intOf]; omega
          · have d2 : decide ((20 : Int) < (s.cd.size : Int)) = true := decide_eq_true (by omega)
            have hr : r = false := by
              rw [hR2.out]; unfold fewK; rw [List.all_eq_false]
              exact ⟨s, HM.out, by simp [hsh]; omega⟩
            subst hr
            go_wp2_with fail
            go_ret
            exact ⟨rfl, hch⟩
      · have hr : r = true := by
          rw [hR2.out]; have := HF.out; rwa [List.take_of_length_le (by rw [HN.out]; omega)] at this
        subst hr
        go_wp2_with fail
        go_ret
        exact ⟨rfl, hch⟩
  · have hr : r = false := by rw [← HR.out]; simp [hlen]
    subst hr
    have d1 : decide ((12 : Int) < (n : Int)) = true := decide_eq_true (by omega)
    clear HR hlen
    go_enter Try.func10, Try.ntmps10
    go_wp2_with fail
    go_ret
    exact ⟨rfl, hch⟩

def usd : ByteArray := ⟨#[85, 83, 68]⟩
def gbp : ByteArray := ⟨#[71, 66, 80]⟩
def jpy : ByteArray := ⟨#[74, 80, 89]⟩
theorem usd_ok : codeB usd = true ∧ usd ≠ eur := ⟨by decide, by decide⟩
theorem gbp_ok : codeB gbp = true ∧ gbp ≠ eur := ⟨by decide, by decide⟩
theorem jpy_ok : codeB jpy = true ∧ jpy ≠ eur := ⟨by decide, by decide⟩
theorem sQt_two (w : World) (s t : Qt) : SQt (w.alloc (.cells #[.string s.cd, .int .i64 s.dy, .bool s.rt.neg, .string s.rt.num, .string s.rt.den, .string t.cd, .int .i64 t.dy, .bool t.rt.neg, .string t.rt.num, .string t.rt.den] 33)) (some ⟨w.heap.size, 0, none⟩) [s, t] := by
  intro _
  refine ⟨_, 0, rfl, by simp, fun j hj => ?_⟩
  obtain rfl | rfl : j = 0 ∨ j = 1 := by simp at hj; omega
  · exact ⟨by simp, by simp, by simp, by simp, by simp, by simp⟩
  · exact ⟨by simp, by simp, by simp, by simp, by simp, by simp⟩
section
variable {z1 z2 : Q3} (h1 : 0 < ratOf z1) (h2 : 0 < ratOf z2)
include h1 h2
theorem ex_good : GoodQ [⟨usd, 5, z1⟩, ⟨usd, 2, z2⟩] := by
  refine ⟨by simp, ?_, ?_, ?_, ?_⟩
  · intro q hq
    simp only [List.mem_cons, List.not_mem_nil, or_false] at hq
    rcases hq with rfl | rfl <;> exact usd_ok
  · intro q hq
    simp only [List.mem_cons, List.not_mem_nil, or_false] at hq
    rcases hq with rfl | rfl <;> rfl
  · intro q hq
    simp only [List.mem_cons, List.not_mem_nil, or_false] at hq
    rcases hq with rfl | rfl
    · exact h1
    · exact h2
  · intro i j hi hj _ h
    simp only [List.length_cons, List.length_nil] at hi hj
    obtain rfl | rfl : i = 0 ∨ i = 1 := by omega
    · obtain rfl | rfl : j = 0 ∨ j = 1 := by omega
      · rfl
      · simp at h
    · obtain rfl | rfl : j = 0 ∨ j = 1 := by omega
      · simp at h
      · rfl
theorem ex_rt : (rtE [⟨usd, 5, z1⟩, ⟨usd, 2, z2⟩] usd 4 = 0 ∧ rtV [⟨usd, 5, z1⟩, ⟨usd, 2, z2⟩] usd 4 = z2) ∧ (rtE [⟨usd, 5, z1⟩, ⟨usd, 2, z2⟩] usd 5 = 0 ∧ rtV [⟨usd, 5, z1⟩, ⟨usd, 2, z2⟩] usd 5 = z1) ∧ rtE [⟨usd, 5, z1⟩, ⟨usd, 2, z2⟩] usd 1 = 9 := by
  have hc := good_chk (ex_good h1 h2)
  have hk : kno [⟨usd, 5, z1⟩, ⟨usd, 2, z2⟩] usd [(⟨usd, 5, z1⟩ : Qt), ⟨usd, 2, z2⟩].length = true := by simp [kno]
  have b4 : bst [⟨usd, 5, z1⟩, ⟨usd, 2, z2⟩] usd 4 [(⟨usd, 5, z1⟩ : Qt), ⟨usd, 2, z2⟩].length = 1 := by simp [bst]
  have b5 : bst [⟨usd, 5, z1⟩, ⟨usd, 2, z2⟩] usd 5 [(⟨usd, 5, z1⟩ : Qt), ⟨usd, 2, z2⟩].length = 0 := by simp [bst]
  have b1 : bst [⟨usd, 5, z1⟩, ⟨usd, 2, z2⟩] usd 1 [(⟨usd, 5, z1⟩ : Qt), ⟨usd, 2, z2⟩].length = -1 := by simp [bst]
  have r4 := rt_off (c := usd) (on_ok (d := 4) hc (by decide))
  have r5 := rt_off (c := usd) (on_ok (d := 5) hc (by decide))
  have r1 := rt_off (c := usd) (on_ok (d := 1) hc (by decide))
  refine ⟨⟨?_, ?_⟩, ⟨?_, ?_⟩, ?_⟩
  · rw [r4.1, (find_hit usd_ok.2 hk (by rw [b4]; decide)).1]
  · rw [r4.2, (find_hit usd_ok.2 hk (by rw [b4]; decide)).2, b4]; rfl
  · rw [r5.1, (find_hit usd_ok.2 hk (by rw [b5]; decide)).1]
  · rw [r5.2, (find_hit usd_ok.2 hk (by rw [b5]; decide)).2, b5]; rfl
  · rw [r1.1, (find_late usd_ok.2 hk (by rw [b1]; decide)).1]
end
end Go.Proofs.Ytkdcffcgedhllaa
