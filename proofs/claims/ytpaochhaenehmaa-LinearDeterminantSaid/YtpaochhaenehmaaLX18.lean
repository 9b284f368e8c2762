/-
  The reference's fixedRows.
-/
import Derived.Test.YtpaochhaenehmaaGY
namespace Go.Proofs.Ytpaochhaenehmaa
open Go.RowKit Nd
/-- A cell. -/
structure Cel (w : World) (g o : Nat) (v : Value) : Prop where
  lt : g < w.heap.size
  c : w.cell? ⟨g, o, none⟩ = some v
theorem Cel.keep {gs : List Nat} {w w' : World} {g o : Nat} {v : Value} (h : Cel w g o v) (hc : Chg gs w w') (hg : g ∉ gs) : Cel w' g o v :=
  ⟨Nat.lt_of_lt_of_le h.lt hc.size, (hc.cell (p := ⟨g, o, none⟩) h.lt hg).trans h.c⟩
theorem Cel.keep0 {w w' : World} {g o : Nat} {v : Value} (h : Cel w g o v) (hc : Chg [] w w') : Cel w' g o v := h.keep hc (by simp)
theorem Mtx.row {w : World} {g o : Nat} {M : List (List Q3)} (h : Mtx w (some ⟨g, o, none⟩) M) {i : Nat} (hi : i < M.length) :
    ∃ B c, Cel w g (o + i) (.slice B (M.getD i []).length c) ∧ (M.getD i []).length ≤ c ∧ c ≤ 9223372036854775807 ∧ Rds w B (M.getD i []) := by
  obtain ⟨g', o', he, hlt, hcell⟩ := h (by omega)
  simp only [Option.some.injEq, Addr.mk.injEq, and_true] at he
  obtain ⟨rfl, rfl⟩ := he
  obtain ⟨B, c, a, b, d, e⟩ := hcell i hi
  exact ⟨B, c, ⟨hlt, a⟩, b, d, e⟩
theorem Cel.st {w : World} {g o h i j k : Nat} {v : Value} (e : Cel w g o v) (hg : g ≠ h) (a b c : Value) : Cel (((w.setCell ⟨h, i, none⟩ a).setCell ⟨h, j, none⟩ b).setCell ⟨h, k, none⟩ c) g o v :=
  e.keep ((Chg.refl [h] w).store3o (.inl (by simp)) a b c) (by simpa using hg)

set_option maxRecDepth 20000 in
set_option maxHeartbeats 2000000 in
theorem rfixedRows_any (M : List (List Q3)) (A : Option Addr) (n m cap k : Nat) (w : World) (hl : M.length = n) (hrow : ∀ i, i < n → (M.getD i []).length = m) (hm0 : 0 < m) (hn : n ≤ 1000000) (hm : m ≤ 1000000) (hk : 1 ≤ k) (hk2 : k ≤ 4294967296) (hf : ∀ i, i < n → ∀ j, j < m → fits ((M.getD i []).getD j q0) k) (hx : Mtx w A M) :
    Calls Try.prog 28 #[.slice A n cap] w fun e w' => ∃ v M', e = .returned v ∧ MutV w' [] v M' ∧ Vals M' (matQ M) n m k ∧ (∀ x, x ∈ v.ownBlock.toList → w.heap.size ≤ x) ∧ Chg [] w w' := by
  have HX := Lib.hid hx
  have HF := Lib.hid hf
  have HL := Lib.hid hl
  have HROW := Lib.hid hrow
  have hch : Chg [] w w := Chg.refl _ _
  clear hx hf hl hrow
  go_enter Try.func28, Try.ntmps28
  go_wp2_with fail
  go_loopw [3, 4] (fun sv iv wr => ∃ (i : Nat) (M' : List (List Q3)), i ≤ n ∧ iv = .int .i64 i ∧ M'.length = i ∧ MutV wr [] sv M' ∧ (∀ r, r < M'.length → Row1 (M'.getD r []) (matQ M r) m k) ∧ (∀ x, x ∈ sv.ownBlock.toList → w.heap.size ≤ x) ∧ Chg [] w wr) (fun _ iv _ => n - (intOf iv).toNat)
  case atStart => exact ⟨0, [], Nat.zero_le _, rfl, rfl, MutV.nil _ _, fun j h => absurd h (by simp), by simp [Value.ownBlock], hch⟩
  case round =>
    clear hch
    obtain ⟨i, M', hi, rfl, hlM, hown, hok, hblk, hch⟩ := hrel
    have HOK := Lib.hid hok
    have HBK := Lib.hid hblk
    have HOW := Lib.hid hown
    clear hok hblk hown
    by_cases hlt : i < n
    · obtain ⟨g, o, rfl, _⟩ := HX.out.form (by rw [HL.out]; omega)
      obtain ⟨B, c, hc, _, _, hB⟩ := (HX.out.keep0 hch).row (i := i) (by rw [HL.out]; exact hlt)
      have hrl := HROW.out i hlt
      have HFI := Lib.hid (HF.out i hlt)
      have hQ : Hid (∀ j, matQ M i j = ratOf ((M.getD i []).getD j q0)) := Lib.hid fun j => rfl
      obtain ⟨row, HRW⟩ := name_it (M.getD i [])
      rw [HRW.out] at hc hB hrl HFI hQ
      rw [hrl] at hc
      have i1 : (0 : Int) ≤ (i : Int) := by omega
      have i2 : (i : Int) < (n : Int) := by omega
      have hcc := hc.c
      go_wp2_with fail
      refine (rFixed_any row B m c k _ hrl hm hk hk2 HFI.out hB).mono ?_
      rintro e w9 ⟨vr, zs, rfl, howr, hfr, hzs, c1⟩
      obtain ⟨gr, cr, rfl, hgr⟩ := hfr hm0
      have hzs2 : Row1 zs (matQ M i) m k := ⟨hzs.len, fun j hj => by rw [hQ.out j]; exact hzs.val j hj⟩
      have HZS := Lib.hid hzs2
      obtain ⟨A9, c9, he9, h91, h92, hrz⟩ := howr.rds
      simp only [Value.slice.injEq] at he9
      obtain ⟨rfl, -, rfl⟩ := he9
      rw [hzs.len] at h91
      have hblt := HOW.out.blt
      have own := HOW.out.keep0 c1
      replace hch := hch.then c1
      have hzr := hrz.keep0 ((Chg.refl [] w9).alloc (.cells #[.slice (some ⟨gr, 0, none⟩) m cr] 33))
      have hoff : Off (u3.ownBlock.toList ++ []) (some ⟨gr, 0, none⟩) := by
        intro a ha hm
        cases ha
        rw [List.append_nil] at hm
        have := hblt _ hm
        simp only at this
        omega
      have hcl : (w9.alloc (.cells #[.slice (some ⟨gr, 0, none⟩) m cr] 33)).cell? ⟨w9.heap.size, 0, none⟩ = some (.slice (some ⟨gr, 0, none⟩) m cr) := by simp
      clear c1 hcc hc hB howr hzs hzs2 hfr hrz
      go_wp2_with (at_builtin; refine wpList_appendM _ rfl (.tmp 11) (.tmp 17) rfl [] _ M' rfl (own.keep0 ((Chg.refl [] _).alloc _)) ⟨w9.heap.size, 0, none⟩ 1 (some ⟨gr, 0, none⟩) m cr zs rfl hcl HZS.out.len h91 h92 hzr (fun _ => hoff) (by omega) ?_)
      intro v1 w4 hv1 cv1 hb1
      have h9 := hch.size
      have HB1 : Hid (∀ x, x ∈ v1.ownBlock.toList → w.heap.size ≤ x) := by
        show ∀ _, _
        intro y hy
        rcases hb1 with h | h
        · rw [h] at hy; exact HBK.out y hy
        · rw [h] at hy; simp at hy; omega
      have hch4 := Lib.hid ((hch.alloc _).trans cv1 (fun y hy => .inr (HBK.out y hy)))
      have HOK1 := Lib.hid (snoc_all (P := fun r y => Row1 y (matQ M r) m k) HOK.out (by rw [hlM]; exact HZS.out))
      clear hch cv1 hb1 own hzr hoff hcl hblt
      go_wp2_with fail
      go_roundw
      case rel => exact ⟨i + 1, M' ++ [zs], by omega, by go_num, by simp [hlM], hv1, HOK1.out, HB1.out, hch4.out⟩
      case measure => simp [intOf]; omega
    · obtain rfl : i = n := by omega
      go_wp2_with fail
      go_ret
      exact ⟨u3, M', rfl, HOW.out, ⟨hlM, fun r hr => (HOK.out r (by omega)).len, fun r hr => (HOK.out r (by omega)).val⟩, HBK.out, hch⟩

end Go.Proofs.Ytpaochhaenehmaa
