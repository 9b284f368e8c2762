/-
  Of law 0: Steps.
-/
import Derived.Test.YtcfejphpflafiaaIX5
import Derived.Test.YtcfejphpflafiaaIB
namespace Go.Proofs.Ytcfejphpflafiaa
open Go.RowKit Nd

/-- The rate of a built step. -/
def r12 (k : Int) : Rat := ratQ k 100
theorem r12_bd {k : Int} (h : 0 ≤ k) (h2 : k < 12) : Bd 1 (r12 k) := Bd_sq (by omega) (by omega) (by omega)
theorem r12_nn {k : Int} (h : 0 ≤ k) : 0 ≤ r12 k := by
  unfold r12 ratQ
  rw [frac_eq h (by omega)]
  exact div_nonneg' (by exact_mod_cast h) (by decide)
theorem bldQ_at {r : Int → Rat} {d : Int} {L : List (Int × Int)} {i : Nat} (h : i < L.length) : bldQ r d (L.drop i) = (d + (L.getD i (0, 0)).1 % 60, r ((L.getD i (0, 0)).2 % 12)) :: bldQ r (d + (L.getD i (0, 0)).1 % 60 + 1) (L.drop (i + 1)) := by
  rw [List.drop_eq_getElem_cons h]
  have e : L.getD i (0, 0) = L[i] := by rw [List.getD_eq_getElem?_getD, List.getElem?_eq_getElem h, Option.getD_some]
  rw [e]; rfl
theorem take_getD {L : List (Int × Int)} {k i : Nat} (h : i < k) : (L.take k).getD i (0, 0) = L.getD i (0, 0) := by simp [List.getD_eq_getElem?_getD, h]
theorem slQ_one (xs : List St) (s : St) : slQ (xs ++ [s]) = slQ xs ++ [s.q] := by simp [slQ]
theorem sds_new (w : World) (s : St) : Sds (w.alloc (.cells #[.int .i64 s.fr, .bool s.rt.neg, .string s.rt.num, .string s.rt.den] 49)) (some ⟨w.heap.size, 0, none⟩) [s] := by
  have b := Blk4.alloc w (.int .i64 s.fr) (.bool s.rt.neg) (.string s.rt.num) (.string s.rt.den) 49
  intro _
  refine ⟨_, 0, rfl, b.lt, fun j hj => ?_⟩
  obtain rfl : j = 0 := by simp at hj; omega
  exact ⟨b.c0, b.c1, b.c2, b.c3, b.lt⟩
theorem step_append4 (w : World) {ops : Array Oper} {o : Oper} {a : Act} {K : Act → World → Prop} {Q : Exit → Act → World → Prop} {E : Prop} (hgd : o.guard = none) (s x : Operand) (ho : o.op = .call { callee := .builtin .append, args := #[s, x], argTypes := #[22, 22] })
    (v : Value) (xs : List St) (hs : a.eval s = v) (hown : Own4 w v xs) (ad : Addr) (c : Nat) (y : St) (hx : a.eval x = .slice (some ad) 1 c) (hr : Sds w (some ad) [y]) (hb : xs.length + 1 ≤ 1000000000)
    (h : ∀ v' w', Own4 w' v' (xs ++ [y]) → Chg v.ownBlock.toList w w' → (v'.ownBlock = v.ownBlock ∨ v'.ownBlock = some w.heap.size) → K (a.put o.dst v') w') :
    if Region.wanted o (yielded ops a.tmps) = true then Oper.wp Try.prog o a w K Q else E := by
  have hw : Region.wanted o (yielded ops a.tmps) = true := by simp [Region.wanted, hgd]
  rw [if_pos hw]
  exact wp_append4 w s x ho v xs hs hown ad c y hx hr hb h
structure Pr2 (w : World) (g o : Nat) (a b : Int) : Prop where
  a : w.cell? ⟨g, o, none⟩ = some (.int .u16 a)
  b : w.cell? ⟨g, o + 1, none⟩ = some (.int .u16 b)
  l : g < w.heap.size
theorem Pr2.keep {gs : List Nat} {w w' : World} {g o : Nat} {a b : Int} (h : Pr2 w g o a b) (hc : Chg gs w w') (hg : g ∉ gs) : Pr2 w' g o a b :=
  ⟨(hc.cell (p := ⟨g, o, none⟩) h.l hg).trans h.a, (hc.cell (p := ⟨g, o + 1, none⟩) h.l hg).trans h.b, Nat.lt_of_lt_of_le h.l hc.size⟩
theorem Pr2.keep0 {w w' : World} {g o : Nat} {a b : Int} (h : Pr2 w g o a b) (hc : Chg [] w w') : Pr2 w' g o a b := h.keep hc (by simp)
theorem RdP.keepL {gs : List Nat} {w w' : World} {A : Option Addr} {xs : List (Int × Int)} {N : Nat} (h : RdP w A xs) (hlow : 0 < xs.length → ∃ g o, A = some ⟨g, o, none⟩ ∧ g < N) (hc : Chg gs w w') (hg : ∀ x ∈ gs, N ≤ x) : RdP w' A xs := by
  intro hl
  obtain ⟨g, o, e, hlt⟩ := hlow hl
  exact h.keep hc (by intro a ha hm; rw [e] at ha; cases ha; have := hg _ hm; dsimp only at this; omega) hl

set_option maxRecDepth 20000 in
set_option maxHeartbeats 4000000 in
theorem steps_any (L : List (Int × Int)) (n : Nat) (A : Option Addr) (cap : Nat) (w : World) (hn : L.length = n) (hr : ∀ x ∈ L, (0 ≤ x.1 ∧ x.1 ≤ 65535) ∧ 0 ≤ x.2 ∧ x.2 ≤ 65535) (hx : RdP w A L) :
    Calls Try.prog 21 #[.slice A n cap] w fun e w' => ∃ v xs, e = .returned v ∧ Own4 w' v xs ∧ slQ xs = bldQ r12 0 (L.take 5) ∧ Fits xs 1 ∧ (∀ x ∈ v.ownBlock.toList, w.heap.size ≤ x) ∧ Chg [] w w' := by
  have HLOW : Hid (0 < L.length → ∃ g o, A = some ⟨g, o, none⟩ ∧ g < w.heap.size) := Lib.hid hx.form
  have hch : Chg [] w w := Chg.refl _ _
  have HN := Lib.hid hn
  have HR := Lib.hid hr
  have HL5 : Hid ((L.take 5).length = min 5 n) := Lib.hid (by rw [List.length_take, hn])
  clear hn hr
  go_enter Try.func21, Try.ntmps21
  go_wp2_with fail
  go_loopw [3, 4, 5] (fun ov dv iv wr => ∃ (i : Nat) (xs : List St) (d : Int), i ≤ n ∧ i ≤ 5 ∧ iv = .int .i64 i ∧ dv = .int .i64 d ∧ 0 ≤ d ∧ d ≤ 60 * i ∧ Own4 wr ov xs ∧ xs.length = i ∧ slQ xs ++ bldQ r12 d ((L.take 5).drop i) = bldQ r12 0 (L.take 5) ∧ (∀ s ∈ xs, fits s.rt 1) ∧ (∀ x ∈ ov.ownBlock.toList, w.heap.size ≤ x) ∧ RdP wr A L ∧ Chg [] w wr) (fun _ _ iv _ => n - (intOf iv).toNat)
  case atStart => exact ⟨0, [], 0, Nat.zero_le _, Nat.zero_le _, rfl, rfl, Int.le_refl _, Int.le_refl _, Own4.nil _, rfl, rfl, (fun s h => by cases h), (by simp [Value.ownBlock]), hx, hch⟩
  case round =>
    clear hx hch
    obtain ⟨i, xs, d, hi, hi5, rfl, rfl, hd0, hd1, hown, hxl, hq, hfit, hblk, hx, hch⟩ := hrel
    have HXL := Lib.hid hxl
    have HQ := Lib.hid hq
    have HFI := Lib.hid hfit
    have HBK := Lib.hid hblk
    clear hxl hq hfit hblk
    have hfin : ¬ (i < n ∧ i < 5) → slQ xs = bldQ r12 0 (L.take 5) ∧ Fits xs 1 := fun h => by
      refine ⟨?_, by omega, by omega, HFI.out⟩
      have h1 := HQ.out
      rw [List.drop_eq_nil_of_le (by rw [HL5.out]; omega)] at h1
      simpa [bldQ] using h1
    have HFIN := Lib.hid hfin
    clear hfin
    by_cases hlt : i < n
    · by_cases hlt5 : i < 5
      · obtain ⟨g, o, rfl, hgl⟩ := HLOW.out (by rw [HN.out]; omega)
        obtain ⟨p1, p2⟩ := hx.at_ (j := i) (by rw [HN.out]; exact hlt)
        have hstep := bldQ_at (r := r12) (d := d) (L := L.take 5) (i := i) (by rw [HL5.out]; omega)
        rw [take_getD hlt5] at hstep
        have hrx := HR.out (L.getD i (0, 0)) (by rw [List.getD_eq_getElem?_getD, List.getElem?_eq_getElem (by rw [HN.out]; exact hlt), Option.getD_some]; exact List.getElem_mem _)
        obtain ⟨a, HA⟩ := name_it (L.getD i (0, 0)).1
        obtain ⟨b, HB⟩ := name_it (L.getD i (0, 0)).2
        rw [HA.out] at p1 hstep hrx
        rw [HB.out] at p2 hstep hrx
        obtain ⟨⟨a1, a2⟩, b1, b2⟩ := hrx
        have f1 : a.tmod 60 = a % 60 := Int.tmod_eq_emod_of_nonneg a1
        have f2 : b.tmod 12 = b % 12 := Int.tmod_eq_emod_of_nonneg b1
        obtain ⟨a6, HA6⟩ := name_it (a % 60)
        obtain ⟨b6, HB6⟩ := name_it (b % 12)
        have a61 : 0 ≤ a6 := by rw [← HA6.out]; omega
        have a62 : a6 < 60 := by rw [← HA6.out]; omega
        have b61 : 0 ≤ b6 := by rw [← HB6.out]; omega
        have b62 : b6 < 12 := by rw [← HB6.out]; omega
        rw [HA6.out] at f1 hstep
        rw [HB6.out] at f2 hstep
        have HST := Lib.hid hstep
        have i1 : (0 : Int) ≤ (i : Int) := by omega
        have i2 : (i : Int) < (n : Int) := by omega
        clear hstep
        have w1e : IntKind.i64.wrap a6 = a6 := by rw [IntKind.wrap_i64]; omega
        have w2e : IntKind.i64.wrap (d + a6) = d + a6 := by rw [IntKind.wrap_i64]; omega
        have w3e : IntKind.i64.wrap b6 = b6 := by rw [IntKind.wrap_i64]; omega
        have hsz : w.heap.size ≤ wr.heap.size := hch.size
        go_wp2_with fail
        have hp : Pr2 wr g (o + i * 2) a b := ⟨p1, p2, by omega⟩
        clear p1 p2
        have c8 : Chg [] wr wr.drew := (Chg.refl _ _).drew
        replace hp := hp.keep0 c8
        replace hch := hch.then c8
        have HX := Lib.hid (hx.keep0 c8)
        have HOWN := Lib.hid (hown.keep0 c8)
        clear hx hown c8
        go_region_held3 (fun w' => w'.cell? ⟨g, o + i * 2, none⟩ = some (.int .u16 a) ∧ w'.cell? ⟨g, o + i * 2 + 1, none⟩ = some (.int .u16 b)) (first
          | exact ⟨hp.a, hp.b⟩
          | exact ⟨(hp.keep0 ((Chg.refl [] _).alloc _)).a, (hp.keep0 ((Chg.refl [] _).alloc _)).b⟩) (first
          | (go_at_call 31
             (with_reducible refine (ratio_any b6 100 _ (by omega) (by omega) (by omega) (by omega)).mono ?_)
             rintro e w3 ⟨z, rfl, hz, c1⟩
             have HZ : Hid (Val z (r12 b6) 1) := Lib.hid ⟨hz.enc, r12_bd b61 b62⟩
             replace hp := hp.keep0 c1
             have HX2 := Lib.hid (HX.out.keep0 c1)
             have HOWN2 := Lib.hid (HOWN.out.keep0 c1)
             replace hch := hch.then c1
             have hsz3 : wr.heap.size ≤ w3.heap.size := c1.size
             clear c1 hz)
          | (refine step_append4 _ (by rfl) _ _ (by rfl) u3 xs (by rfl) (HOWN2.out.keep0 ((Chg.refl [] _).alloc _)) _ 1 ⟨d + a6, z⟩ (by rfl) (sds_new _ ⟨d + a6, z⟩) (by rw [HXL.out]; omega) ?_
             intro v5 w5 own5 cv5 hv5
             have HO5 := Lib.hid own5
             have HBK5 : Hid (∀ x ∈ v5.ownBlock.toList, w.heap.size ≤ x) := Lib.hid fun x hx => by
               rcases hv5 with h5 | h5
               · rw [h5] at hx; exact HBK.out x hx
               · rw [h5] at hx; simp at hx; omega
             have c6 : Chg u3.ownBlock.toList w3 w5 := (((Chg.refl [] _).alloc _).mono (fun x hx => by cases hx)).trans cv5 (fun x hx => .inl hx)
             replace hp := hp.keep c6 (fun hm => by have := HBK.out _ hm; omega)
             have HX5 := Lib.hid (HX2.out.keepL HLOW.out c6 (fun x hx => HBK.out x hx))
             replace hch := hch.trans c6 (fun x hx => .inr (HBK.out x hx))
             clear own5 cv5 hv5 c6)
          | fail)
        all_goals
          have HL2 : Hid ((xs ++ [(⟨d + a6, z⟩ : St)]).length = i + 1) := Lib.hid (by rw [List.length_append, HXL.out]; rfl)
          have HQ2 : Hid (slQ (xs ++ [(⟨d + a6, z⟩ : St)]) ++ bldQ r12 (d + a6 + 1) ((L.take 5).drop (i + 1)) = bldQ r12 0 (L.take 5)) := Lib.hid (by
            rw [← HQ.out, HST.out, slQ_one, List.append_assoc]
            show _ ++ ([(d + a6, ratOf z)] ++ _) = _
            rw [HZ.out.num.rat]; rfl)
          have HF2 : Hid (∀ s ∈ xs ++ [(⟨d + a6, z⟩ : St)], fits s.rt 1) := Lib.hid fun s hs => by
            rcases List.mem_append.1 hs with h | h
            · exact HFI.out s h
            · rw [List.mem_singleton.1 h]; exact HZ.out.num.fit
          rcases HO5.out.form with ⟨_, h⟩ | ⟨g5, cap5, rfl, hlt5b, h1, h2, hs5⟩
          · exact absurd h (by simp)
          have hcell := (hs5.at_ (j := i) (by rw [HL2.out]; omega)).a
          have hgl : (xs ++ [(⟨d + a6, z⟩ : St)]).getD i s0 = ⟨d + a6, z⟩ := by
            rw [List.getD_eq_getElem?_getD, ← HXL.out, List.getElem?_append_right (Nat.le_refl _), Nat.sub_self]; rfl
          rw [hgl] at hcell
          have hcell : w5.cell? ⟨g5, 0 + i * 4, none⟩ = some (.int .i64 (d + a6)) := hcell
          have hcell2 : w5.cell? ⟨g5, i * 4, none⟩ = some (.int .i64 (d + a6)) := by rw [Nat.zero_add] at hcell; exact hcell
          have HO6 := HO5
          rw [HL2.out] at HO6 h1
          rw [HL2.out]
          have i3 : (i : Int) < ((i + 1 : Nat) : Int) := by omega
          have i4 : (i : Int) < (i : Int) + 1 := by omega
          clear hs5 hgl hp
          go_wp2_with fail
          go_roundw
          case rel => exact ⟨i + 1, xs ++ [⟨d + a6, z⟩], d + a6 + 1, by omega, by omega, by go_num, rfl, by omega, by omega, HO6.out, HL2.out, HQ2.out, HF2.out, HBK5.out, HX5.out, hch⟩
          case measure => simp [intOf]; omega
      · obtain rfl : i = 5 := by omega
        obtain ⟨h1, h2⟩ := HFIN.out (by omega)
        have H1 := Lib.hid h1
        have H2 := Lib.hid h2
        clear h1 h2
        go_wp2_with fail
        go_ret
        exact ⟨_, xs, rfl, hown, H1.out, H2.out, HBK.out, hch⟩
    · obtain rfl : i = n := by omega
      obtain ⟨h1, h2⟩ := HFIN.out (by omega)
      have H1 := Lib.hid h1
      have H2 := Lib.hid h2
      clear h1 h2
      go_wp2_with fail
      go_ret
      exact ⟨_, xs, rfl, hown, H1.out, H2.out, HBK.out, hch⟩
end Go.Proofs.Ytcfejphpflafiaa
