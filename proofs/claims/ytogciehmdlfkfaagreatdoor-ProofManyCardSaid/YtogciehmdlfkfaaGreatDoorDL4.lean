/-
  Laws of layer 9: Format.
-/
import Derived.Test.YtogciehmdlfkfaaGreatDoorHL
import Derived.Test.YtogciehmdlfkfaaGreatDoorDR5
namespace Go.Proofs.YtogciehmdlfkfaaGreatDoor
open Go.RowKit Nd

theorem fmB_size {x : Q3} (h : fits x 24) : small (fmB (ratOf x)) := by
  have hb : Bd 24 (ratOf x) := h.bd (by omega)
  have h0 := pow256_10 24
  have h1 := decL_len (Nat.lt_of_lt_of_le hb.1 h0) (by omega)
  have h2 := decL_len (Nat.lt_of_lt_of_le hb.2 h0) (by omega)
  have hl : (fmtL (ratOf x)).length ≤ 200 := by
    unfold fmtL
    split <;> split <;> simp only [List.length_append, List.length_cons, List.length_nil] <;> omega
  show (fmtL (ratOf x)).toArray.size ≤ 20000
  rw [List.size_toArray]; omega
theorem upB_rng {n top : Int} (h : upB n top = true) : 0 ≤ n ∧ n ≤ top := by
  unfold upB at h
  simpa using h
theorem chk_rng {p : Pf} (h : chkE p = 0) : upB p.es 7 = true ∧ upB p.cr 31 = true ∧ upB p.inc 1048576 = true ∧ upB p.rk 7 = true ∧ upB p.rf 1048576 = true := by
  have ho := chk_opt h
  have e : ∀ b : Bool, ¬ b = false → b = true := by decide
  unfold chkE at h
  split at h
  · exact absurd h (by decide)
  split at h
  · exact absurd h (by decide)
  rename_i h2
  split at h
  · exact absurd h (by decide)
  split at h
  · exact absurd h (by decide)
  split at h
  · exact absurd h (by decide)
  rename_i h5
  unfold optE at ho
  split at ho
  · exact absurd ho (by decide)
  split at ho
  · exact absurd ho (by decide)
  rename_i h6
  exact ⟨e _ fun k => h2 (Or.inl k), e _ fun k => h2 (Or.inr k), e _ fun k => h5 (Or.inl k), e _ fun k => h5 (Or.inr k), e _ fun k => h6 (Or.inl k)⟩
theorem short_doc {p : Pf} (h : shortP p = true) (hc : chkE p = 0) : DocP p := by
  have hf := short_fit h
  obtain ⟨r1, r2, r3, r4, r5⟩ := chk_rng hc
  have q1 := upB_rng r1
  have q2 := upB_rng r2
  have q3 := upB_rng r3
  have q4 := upB_rng r4
  have q5 := upB_rng r5
  unfold shortP shortQ at h
  simp only [Bool.and_eq_true, decide_eq_true_eq] at h
  obtain ⟨⟨h1, h2⟩, ⟨h3, h4⟩, _, _⟩ := h
  refine ⟨hf.1, hf.2.1, hf.2.2, fmB_size ⟨h1, h2⟩, fmB_size ⟨h3, h4⟩, by omega, by omega, by omega, by omega, by omega, fun hs => ?_⟩
  rcases chk_sec hc with h | h
  · exact absurd h hs
  · omega
theorem few_docs {xs : List Pf} (h : fewD xs = true) : Docs xs ∧ xs.length ≤ 6 ∧ ∀ p ∈ xs, small p.id ∧ small p.cd := by
  unfold fewD at h
  rw [Bool.and_eq_true, decide_eq_true_eq, List.all_eq_true] at h
  exact ⟨⟨fun p hp => (short_fit (h.2 p hp)).1, fun ha p hp => short_doc (h.2 p hp) (allE_zero ha p hp)⟩, h.1, fun p hp => (short_fit (h.2 p hp)).2⟩
set_option maxRecDepth 20000 in
set_option maxHeartbeats 8000000 in
theorem lpformat_any (xs : List Pf) (A : Option Addr) (c : Nat) (w : World) (hgl : Gl w) (hc : xs.length ≤ c) (hc2 : c ≤ 9223372036854775807) (hx : SPf w A xs) :
    Calls Tryz.prog 6 #[.slice A xs.length c] w fun e w' => e = .returned (.bool true) ∧ Chg [] w w' := by
  obtain ⟨n, HN⟩ := name_it xs.length
  rw [HN.out] at hc ⊢
  obtain ⟨f, HF⟩ := name_it (fewD xs)
  have HX := Lib.hid hx
  have HGL := Lib.hid hgl
  clear hx hgl
  cases f with
  | false =>
    go_enter Tryz.func6, Tryz.ntmps6
    go_wp2_with (first
      | (go_at_call 14
         refine (few9_any xs A n c _ HN.out HX.out).mono ?_
         rintro e w1 ⟨rfl, c1⟩
         rw [HF.out])
      | (go_at_call 11
         refine (awake9_any _ (HGL.out.keep0 c1)).mono ?_
         rintro e w3 ⟨rfl, c3⟩)
      | fail)
    go_ret
    exact ⟨rfl, c1.then c3⟩
  | true =>
    have HD := Lib.hid (few_docs HF.out)
    have HL6 : n ≤ 6 := by rw [← HN.out]; exact HD.out.2.1
    obtain ⟨T, HT⟩ := name_it (⟨(fmtT xs).toArray⟩ : ByteArray)
    obtain ⟨E, HE⟩ := name_it (fmtE xs)
    have q := str_eqB T T
    rw [decide_eq_true rfl] at q
    have dE : (E == E) = true := by simp
    go_enter Tryz.func6, Tryz.ntmps6
    go_wp2_with (first
      | (go_at_call 14
         refine (few9_any xs A n c _ HN.out HX.out).mono ?_
         rintro e w1 ⟨rfl, c1⟩
         rw [HF.out]
         have HX1 := Lib.hid (HX.out.keep0 c1)
         have HG1 := Lib.hid (HGL.out.keep0 c1))
      | (go_at_call 20
         refine (pFormat_any xs A n c _ HG1.out HN.out (by omega) hc hc2 HX1.out HD.out.1).mono ?_
         rintro e w2 ⟨rfl, c2⟩
         rw [HT.out, HE.out]
         have HX2 := Lib.hid (HX1.out.keep0 c2)
         have HG2 := Lib.hid (HG1.out.keep0 c2))
      | (go_at_call 21
         refine (rFormat_any xs A n c _ HG2.out HN.out (by omega) hc hc2 HX2.out HD.out.1 HD.out.2.2).mono ?_
         rintro e w3 ⟨rfl, c3⟩
         rw [HT.out, HE.out]
         have HG3 := Lib.hid (HG2.out.keep0 c3))
      | (go_at_call 11
         refine (awake9_any _ HG3.out).mono ?_
         rintro e w4 ⟨rfl, c4⟩)
      | fail)
    go_ret
    exact ⟨rfl, ((c1.then c2).then c3).then c4⟩
end Go.Proofs.YtogciehmdlfkfaaGreatDoor
