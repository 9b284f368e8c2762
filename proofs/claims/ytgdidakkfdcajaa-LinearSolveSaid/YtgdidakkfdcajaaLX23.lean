/-
  The reference's Solution, Solve.
-/
import Derived.Test.YtgdidakkfdcajaaLA22
import Derived.Test.YtgdidakkfdcajaaLM4
namespace Go.Proofs.Ytgdidakkfdcajaa
open Go.RowKit Nd

theorem wp_appendM (w : World) {o : Oper} {a : Act} {K : Act → World → Prop} {Q : Exit → Act → World → Prop} (s x : Operand) (ho : o.op = .call { callee := .builtin .append, args := #[s, x], argTypes := #[22, 22] })
    (gs : List Nat) (v : Value) (M : List (List Q3)) (hs : a.eval s = v) (hM : MutV w gs v M) (ad : Addr) (c : Nat) (B : Option Addr) (n cb : Nat) (xs : List Q3) (hx : a.eval x = .slice (some ad) 1 c) (hcell : w.cell? ad = some (.slice B n cb)) (hn : xs.length = n) (h1 : n ≤ cb) (h2 : cb ≤ 9223372036854775807) (hr : Rds w B xs) (hoff : 0 < xs.length → Off (v.ownBlock.toList ++ gs) B) (hb : M.length ≤ 1000000)
    (h : ∀ v' w', MutV w' gs v' (M ++ [xs]) → Chg v.ownBlock.toList w w' → (v'.ownBlock = v.ownBlock ∨ v'.ownBlock = some w.heap.size) → K (a.put o.dst v') w') : Oper.wp Try.prog o a w K Q := by
  subst hn
  obtain ⟨v', w', hrun, g2, g3, g4⟩ := run_appendM w o.type gs v M hM ad c B cb xs hcell h1 h2 hr hoff hb
  unfold Oper.wp execOp
  simp only [ho, resolve, invoke, builtin, Sem.run_bind, Sem.run_pure, Result.andThen_ok, List.map_toArray, List.map_cons, List.map_nil, hs, hx, hrun]
  exact h _ _ g2 g3 g4
theorem step_appendM (w : World) {ops : Array Oper} {o : Oper} {a : Act} {K : Act → World → Prop} {Q : Exit → Act → World → Prop} {E : Prop} (hgd : o.guard = none) (s x : Operand) (ho : o.op = .call { callee := .builtin .append, args := #[s, x], argTypes := #[22, 22] })
    (gs : List Nat) (v : Value) (M : List (List Q3)) (hs : a.eval s = v) (hM : MutV w gs v M) (ad : Addr) (c : Nat) (B : Option Addr) (n cb : Nat) (xs : List Q3) (hx : a.eval x = .slice (some ad) 1 c) (hcell : w.cell? ad = some (.slice B n cb)) (hn : xs.length = n) (h1 : n ≤ cb) (h2 : cb ≤ 9223372036854775807) (hr : Rds w B xs) (hoff : 0 < xs.length → Off (v.ownBlock.toList ++ gs) B) (hb : M.length ≤ 1000000)
    (h : ∀ v' w', MutV w' gs v' (M ++ [xs]) → Chg v.ownBlock.toList w w' → (v'.ownBlock = v.ownBlock ∨ v'.ownBlock = some w.heap.size) → K (a.put o.dst v') w') :
    if Region.wanted o (yielded ops a.tmps) = true then Oper.wp Try.prog o a w K Q else E := by
  have hw : Region.wanted o (yielded ops a.tmps) = true := by simp [Region.wanted, hgd]
  rw [if_pos hw]
  exact wp_appendM w s x ho gs v M hs hM ad c B n cb xs hx hcell hn h1 h2 hr hoff hb h

/-- What Solution answers. -/
def SolR (F : Nat → Nat → Rat) (n K : Nat) (e : Ending) (w' : World) : Prop :=
  if (ech F n n).2.length = n then ∃ v zs, e = .returned (.tuple #[v, .bool true]) ∧ Own3 w' v zs ∧ Row1 zs (fun r => (ech F n n).1 r n) n K
  else e = .returned (.tuple #[.slice none 0 0, .bool false])
theorem aug_vals {M2 Ma : List (List Q3)} {xs : List Q3} {Q : Nat → Nat → Rat} {p : Nat → Rat} {n k : Nat} (hv : Vals M2 Q n n k) (hx : Row1 xs p n k) (hl : Ma.length = n) (h : ∀ t, t < n → Ma.getD t [] = M2.getD t [] ++ [xs.getD t q0]) : Vals Ma (fun i j => if j < n then Q i j else p i) n (n + 1) k := by
  refine ⟨hl, fun i hi => by rw [h i hi, List.length_append, hv.row i hi]; rfl, fun i hi j hj => ?_⟩
  rw [h i hi]
  by_cases hjn : j < n
  · simp only [hjn, if_true]
    have := hv.val i hi j hjn
    rwa [show (M2.getD i [] ++ [xs.getD i q0]).getD j q0 = (M2.getD i []).getD j q0 by
      simp only [List.getD_eq_getElem?_getD]; rw [List.getElem?_append_left (by have := hv.row i hi; simp only [List.getD_eq_getElem?_getD] at this; omega)]]
  · obtain rfl : j = n := by omega
    simp only [Nat.lt_irrefl, if_false]
    have := hx.val i hi
    have e : (M2.getD i [] ++ [xs.getD i q0]).getD j q0 = xs.getD i q0 := by
      have h9 := hv.row i hi
      rw [getD_snocM, h9, if_pos rfl]
    rw [e]; exact this

set_option maxRecDepth 20000 in
set_option maxHeartbeats 8000000 in
theorem rSolution_any (M2 : List (List Q3)) (xs : List Q3) (Q : Nat → Nat → Rat) (p : Nat → Rat) (G : Nat → Nat → Rat) (n k : Nat) (A B : Option Addr) (cap cb : Nat) (w : World) (hGe : G = fun i j => if j < n then Q i j else p i) (hv : Vals M2 Q n n k) (hx : Row1 xs p n k) (hn0 : 0 < n) (hn : n ≤ 900) (hk : 1 ≤ k) (hb : KR k (n + 1) ≤ 4294967296) (hM : Mtx w A M2) (hB : Rds w B xs) :
    Calls Try.prog 58 #[.slice A n cap, .slice B n cb] w fun e w' => SolR G n (KR k (n + 1)) e w' ∧ Chg [] w w' := by
  have hch : Chg [] w w := Chg.refl _ _
  have HV := Lib.hid hv
  have HXR := Lib.hid hx
  have HKB := Lib.hid hb
  obtain ⟨ga, oa, rfl, hga⟩ := hM.form (by rw [hv.len]; exact hn0)
  obtain ⟨gb, ob, rfl, hgb⟩ := hB.form (by rw [hx.len]; exact hn0)
  have HX := Lib.hid hM
  have HBX := Lib.hid hB
  have HGE := Lib.hid hGe
  clear hv hx hM hB hb hGe
  go_enter Try.func58, Try.ntmps58
  go_wp2_with fail
  go_loopw [6, 7] (fun mv iv wr => ∃ (i : Nat) (Ma : List (List Q3)), i ≤ n ∧ iv = .int .i64 i ∧ MutV wr [] mv Ma ∧ Ma.length = i ∧ (∀ t, t < i → Ma.getD t [] = M2.getD t [] ++ [xs.getD t q0]) ∧ (∀ x, x ∈ mv.ownBlock.toList → w.heap.size ≤ x) ∧ Chg [] w wr) (fun _ iv _ => n - (intOf iv).toNat)
  case atStart => exact ⟨0, [], Nat.zero_le _, rfl, MutV.nil _ _, rfl, fun t h => absurd h (by omega), by simp [Value.ownBlock], hch⟩
  case round =>
    clear hch
    obtain ⟨i, Ma, hi, rfl, hmv, hml, hrows, hblk, hch⟩ := hrel
    have HML := Lib.hid hml
    have HRO := Lib.hid hrows
    have HBK := Lib.hid hblk
    clear hml hrows hblk
    by_cases hlt : i < n
    · obtain ⟨Br, cr, hc, hcr1, hcr2, hBr⟩ := (HX.out.keep0 hch).row (i := i) (by rw [HV.out.len]; exact hlt)
      have e2 := (HBX.out.keep0 hch).el (j := i) (by rw [HXR.out.len]; exact hlt)
      have hrl := HV.out.row i hlt
      obtain ⟨row, HRW⟩ := name_it (M2.getD i [])
      rw [HRW.out] at hc hBr hrl hcr1
      rw [hrl] at hc
      have HRL := Lib.hid hrl
      obtain ⟨x2, HX2⟩ := name_it (xs.getD i q0)
      rw [HX2.out] at e2
      have i1 : (0 : Int) ≤ (i : Int) := by omega
      have i2 : (i : Int) < (n : Int) := by omega
      clear hrl hcr1 hcr2
      have e2a := e2.a
      have e2b := e2.b
      have e2c := e2.c
      have hcc := hc.c
      go_wp2_with fail
      clear e2a e2b e2c hcc
      have c8 : Chg [] wr wr.drew := (Chg.refl _ _).drew
      replace e2 := e2.keep0 c8
      replace hc := hc.keep0 c8
      replace hmv := hmv.keep0 c8
      replace hBr := hBr.keep0 c8
      replace hch := hch.then c8
      clear c8
      have HE2 := Lib.hid e2
      have HC := Lib.hid hc
      have HMV := Lib.hid hmv
      have HBLT : Hid (∀ x, x ∈ u6.ownBlock.toList → x < wr.heap.size) := Lib.hid hmv.blt
      have HBR := Lib.hid hBr
      have hsz0 : w.heap.size ≤ wr.heap.size := hch.size
      have hgar : ga < wr.heap.size := Nat.lt_of_lt_of_le hga hsz0
      have hgbr : gb < wr.heap.size := Nat.lt_of_lt_of_le hgb hsz0
      clear hmv hBr
      go_region_held3 (fun w' => w'.cell? ⟨ga, oa + i, none⟩ = some (.slice Br n cr) ∧ w'.cell? ⟨gb, ob + i * 3, none⟩ = some (.bool x2.neg) ∧ w'.cell? ⟨gb, ob + i * 3 + 1, none⟩ = some (.string x2.num) ∧ w'.cell? ⟨gb, ob + i * 3 + 2, none⟩ = some (.string x2.den)) (first
          | exact ⟨hc.c, e2.a, e2.b, e2.c⟩
          | exact ⟨(hc.keep0 ((Chg.refl [] _).alloc _)).c, (e2.keep0 ((Chg.refl [] _).alloc _)).a, (e2.keep0 ((Chg.refl [] _).alloc _)).b, (e2.keep0 ((Chg.refl [] _).alloc _)).c⟩) (first
          | (refine step_append3 _ (by rfl) _ _ (by rfl) (.slice none 0 0) [] (by rfl) (Own3.nil _) Br n cr row (by rfl) HRL.out (by first | exact HBR.out | exact HBR.out.keep0 ((Chg.refl [] _).alloc _)) (by simp; omega) ?_
             intro v1 w1 own1 cv1 hv1
             have hcd1 : Chg [] wr.drew w1 := by first | exact cv1 | exact ((Chg.refl [] _).alloc _).then cv1
             have HV1 : Hid (∀ x, x ∈ v1.ownBlock.toList → wr.heap.size ≤ x) := Lib.hid fun x hx => by
               rcases hv1 with h5 | h5
               · rw [h5] at hx; simp [Value.ownBlock] at hx
               · rw [h5] at hx; simp at hx; omega
             have own1b := Lib.hid own1
             have HCV1 := Lib.hid cv1
             replace hc := HC.out.keep0 hcd1
             replace e2 := HE2.out.keep0 hcd1
             have HCD1 := Lib.hid hcd1
             clear own1 cv1 hv1 hcd1)
          | (refine step_append3 _ (by rfl) _ _ (by rfl) v1 ([] ++ row) (by rfl) (by first | exact own1b.out.keep0 ((Chg.refl [] _).alloc _) | exact own1b.out) _ 1 1 [x2] (by rfl) rfl (by first | exact rds_one _ x2 | exact (rds_one _ x2).keep0 HCV1.out | exact ((rds_one wr x2).keep0 ((Chg.refl [] _).drew)).keep0 HCV1.out) (by rw [List.nil_append, HRL.out]; omega) ?_
             intro v2 w2 own2 cv2 hv2
             have hcd2 : Chg [] wr.drew w2 := by first | exact (HCD1.out.then ((Chg.refl [] _).alloc _)).trans cv2 (fun x hx => .inr (HV1.out x hx)) | exact HCD1.out.trans cv2 (fun x hx => .inr (HV1.out x hx))
             replace hc := HC.out.keep0 hcd2
             replace e2 := HE2.out.keep0 hcd2
             have HCD2 := Lib.hid hcd2
             have hsz2 : wr.heap.size ≤ w2.heap.size := hcd2.size
             have HV2 : Hid (∀ x, x ∈ v2.ownBlock.toList → wr.heap.size ≤ x ∧ x < w2.heap.size) := Lib.hid fun x hx => by
               refine ⟨?_, ?_⟩
               · rcases hv2 with h5 | h5
                 · rw [h5] at hx; exact HV1.out x hx
                 · rw [h5] at hx; simp at hx; have := HCD1.out.size; simp at this; omega
               · exact (World.ownsRow.lt own2 x (by simpa using hx)).2
             obtain ⟨B2, c2, rfl, hc21, hc22, hr2⟩ := own2.rds
             have HR2 := Lib.hid hr2
             clear own2 cv2 hv2 hcd2 hr2)
          | (refine step_appendM _ (by rfl) _ _ (by rfl) [] u6 Ma (by rfl) ((HMV.out.keep0 HCD2.out).keep0 ((Chg.refl [] _).alloc _)) ⟨w2.heap.size, 0, none⟩ 1 B2 _ c2 ([] ++ row ++ [x2]) (by rfl) (by simp) rfl hc21 hc22 (HR2.out.keep0 ((Chg.refl [] _).alloc _)) (fun _ a ha hm => by
               subst ha
               have h6 := HV2.out a.block (by simp [Value.ownBlock])
               rw [List.append_nil] at hm
               have h7 := HBLT.out _ hm
               omega) (by rw [HML.out]; omega) ?_
             intro v3 w3 hv3 cv3 hb3
             have HCD3 : Hid (Chg u6.ownBlock.toList wr.drew w3) := Lib.hid (((HCD2.out.then ((Chg.refl [] _).alloc _)).mono (fun x hx => by cases hx)).trans cv3 (fun x hx => .inl hx))
             replace hc := HC.out.keep HCD3.out (fun hm => by have := HBK.out _ hm; omega)
             replace e2 := HE2.out.keep HCD3.out (fun hm => by have := HBK.out _ hm; omega)
             have HB3 := Lib.hid hb3
             have HMV3 := Lib.hid hv3
             clear cv3 hb3 hv3))
      all_goals
        have HML3 : Hid ((Ma ++ [[] ++ row ++ [x2]]).length = i + 1) := Lib.hid (by rw [List.length_append, HML.out]; rfl)
        have HRO3 : Hid (∀ t, t < i + 1 → (Ma ++ [[] ++ row ++ [x2]]).getD t [] = M2.getD t [] ++ [xs.getD t q0]) := Lib.hid fun t ht => by
          rw [getD_snocM, HML.out]
          by_cases e : t = i
          · rw [if_pos e, e, HRW.out, HX2.out, List.nil_append]
          · rw [if_neg e]; exact HRO.out t (by omega)
        have HBK3 : Hid (∀ x, x ∈ v3.ownBlock.toList → w.heap.size ≤ x) := Lib.hid fun x hx => by
          rcases HB3.out with h5 | h5
          · rw [h5] at hx; exact HBK.out x hx
          · rw [h5] at hx; have h7 := HCD2.out.size; simp at hx h7; omega
        have hch3 : Chg [] w w3 := (hch.mono (fun x hx => by cases hx)).trans HCD3.out (fun x hx => .inr (HBK.out x hx))
        clear hch hc e2
        go_wp2_with fail
        go_roundw
        case rel => exact ⟨i + 1, _, by omega, by go_num, HMV3.out, HML3.out, HRO3.out, HBK3.out, hch3⟩
        case measure => simp [intOf]; omega
    · obtain rfl : n = i := by omega
      have hG : Hid (Vals Ma G n (n + 1) k) := Lib.hid (by rw [HGE.out]; exact aug_vals HV.out HXR.out HML.out HRO.out)
      obtain ⟨A3, c3, rfl, _, _, hM3⟩ := hmv.mtx
      rw [HML.out]
      have HM3 := Lib.hid hM3
      have n0 : ((n : Int) == 0) = false := by simp; omega
      have hn1 : (0 : Int) < (n : Int) := by omega
      clear hmv hM3
      go_wp2_with fail
      refine (rechelon_any Ma G n (n + 1) k A3 c3 _ hG.out hn0 (by omega) (by omega) (by omega) hk HKB.out HM3.out).mono ?_
      rintro e w1 ⟨v2, g, cp, M', h, c, rfl, hD, hO, hV, c1⟩
      replace hch := hch.then c1
      have HD := Lib.hid hD
      have HVV := Lib.hid hV
      clear c1 hD hV
      obtain ⟨A4, c4, rfl, hr4⟩ := hO.rdi
      by_cases hfull : (ech G n n).2.length = n
      · obtain ⟨s1, s2⟩ := sol_ok hn0 hfull
        have HS1 := Lib.hid s1
        rw [s1] at hr4 s2 ⊢
        clear s1 hO
        have HFL := Lib.hid hfull
        obtain ⟨g4, rfl, _, a4⟩ := hr4 (by rw [HFL.out]; exact hn0)
        have a5 := a4 (n - 1) (by rw [HFL.out]; omega)
        rw [HFL.out]
        obtain ⟨q, HQ⟩ := name_it ((ech G n n).2.getD (n - 1) 0)
        rw [HQ.out] at a5 s2
        have d1 : decide ((n : Int) ≤ (q : Int)) = false := decide_eq_false (by omega)
        have d1n : decide (n ≤ q) = false := decide_eq_false (by omega)
        have d2 : decide ((n : Int) < (n : Int)) = false := decide_eq_false (by omega)
        have d3 : decide (n < n) = false := decide_eq_false (by omega)
        have ec : ((n - 1 : Nat) : Int) = (n : Int) - 1 := by omega
        have hidx : 0 ≤ (n : Int) - 1 := by omega
        have hidx2 : ((n : Int) - 1).toNat = n - 1 := by omega
        clear a4 hfull
        go_wp2_with fail
        clear a5 hr4
        go_loopw [10, 11] (fun xv iv wr => ∃ (i : Nat) (zs : List Q3), i ≤ n ∧ iv = .int .i64 i ∧ Own3 wr xv zs ∧ zs.length = i ∧ (∀ t, t < i → Val (zs.getD t q0) ((ech G n n).1 t n) (KR k (n + 1))) ∧ (∀ x, x ∈ xv.ownBlock.toList → w1.heap.size ≤ x) ∧ Chg [] w1 wr) (fun _ iv _ => n - (intOf iv).toNat)
        case atStart => exact ⟨0, [], Nat.zero_le _, rfl, Own3.nil _, rfl, fun t h => absurd h (by omega), by simp [Value.ownBlock], Chg.refl _ _⟩
        case round =>
          obtain ⟨i, zs, hi, rfl, hown, hzl, hzv, hzb, hc1⟩ := hrel
          have HZL := Lib.hid hzl
          have HZV := Lib.hid hzv
          have HZB := Lib.hid hzb
          clear hzl hzv hzb
          by_cases hlt : i < n
          · have hcel := (HD.out.keep0 hc1).cel hlt
            have hnum := (HD.out.keep0 hc1).nums hlt
            have hrl := HVV.out.row i hlt
            have hval := HVV.out.val i hlt n (by omega)
            rw [HS1.out] at hval
            have e1 := hnum.el (j := n) (by rw [hrl]; omega)
            obtain ⟨z, HZ⟩ := name_it ((M'.getD i []).getD n q0)
            rw [HZ.out] at e1 hval
            have HVL := Lib.hid hval
            obtain ⟨hg, HGG⟩ := name_it (h i)
            obtain ⟨cg, HCG⟩ := name_it (c i)
            rw [HGG.out] at hcel e1
            rw [HCG.out] at hcel
            have i1 : (0 : Int) ≤ (i : Int) := by omega
            have i2 : (i : Int) < (n : Int) := by omega
            have i3 : (n : Int) < ((n + 1 : Nat) : Int) := by omega
            have i4 : (0 : Int) ≤ (n : Int) := by omega
            have hsz1 := hc1.size
            clear hnum hrl hval
            have e1a := e1.a
            have e1b := e1.b
            have e1c := e1.c
            have hcelc := hcel.c
            go_wp2_with (at_builtin; refine wpList_append3 _ rfl (.tmp 62) (.tmp 71) rfl _ zs rfl (hown.keep0 ((Chg.refl [] _).alloc _)) _ 1 1 [z] rfl rfl (rds_one _ z) (by rw [HZL.out]; omega) ?_)
            intro v5 w5 own5 cv5 hv5
            have HZL5 : Hid ((zs ++ [z]).length = i + 1) := Lib.hid (by rw [List.length_append, HZL.out]; rfl)
            have HZV5 : Hid (∀ t, t < i + 1 → Val ((zs ++ [z]).getD t q0) ((ech G n n).1 t n) (KR k (n + 1))) := Lib.hid fun t ht => by
              rw [getD_snocM, HZL.out]
              by_cases e : t = i
              · rw [if_pos e, e]; exact HVL.out
              · rw [if_neg e]; exact HZV.out t (by omega)
            have HZB5 : Hid (∀ x, x ∈ v5.ownBlock.toList → w1.heap.size ≤ x) := Lib.hid fun x hx => by
              rcases hv5 with h5 | h5
              · rw [h5] at hx; exact HZB.out x hx
              · rw [h5] at hx; simp at hx; omega
            have hc5 := (hc1.alloc _).trans cv5 (fun x hx => .inr (HZB.out x hx))
            clear hv5 cv5 hown hc1
            clear e1a e1b e1c hcelc
            clear e1 hcel
            go_wp2_with fail
            go_roundw
            case rel => trace_state; exact ⟨i + 1, _, by omega, by go_num, own5, HZL5.out, HZV5.out, HZB5.out, hc5⟩
            case measure => simp [intOf]; omega
          · obtain rfl : n = i := by omega
            have HRES : Hid (∃ v zs, (Ending.returned (.tuple #[u10, .bool true]) = .returned (.tuple #[v, .bool true])) ∧ Own3 wr v zs ∧ Row1 zs (fun r => (ech G n n).1 r n) n (KR k (n + 1))) := Lib.hid ⟨u10, zs, rfl, hown, HZL.out, HZV.out⟩
            go_wp2_with fail
            go_ret2
            refine ⟨?_, hch.then hc1⟩
            unfold SolR
            rw [if_pos HFL.out]
            exact HRES.out
      · have HNF := Lib.hid hfull
        have hle := (ech_holds G n n).len
        have hsg := sol_sing (f := G) (n := n) (by omega)
        have hRS : Hid (SolR G n (KR k (n + 1)) (.returned (.tuple #[.slice none 0 0, .bool false])) w1) := Lib.hid (by unfold SolR; rw [if_neg HNF.out])
        obtain ⟨L, HL⟩ := name_it (ech G n (n + 1)).2.length
        rw [HL.out] at hsg ⊢
        clear hfull hle hO
        by_cases hl : L < n
        · have d1 : decide ((L : Int) < (n : Int)) = true := decide_eq_true (by omega)
          have d2 : decide (L < n) = true := decide_eq_true hl
          clear hsg hl hr4
          go_wp2_with fail
          go_ret2
          exact ⟨hRS.out, hch⟩
        · obtain ⟨h1, h2⟩ := hsg.resolve_left hl
          have d1 : decide ((L : Int) < (n : Int)) = false := decide_eq_false (by omega)
          have d2 : decide (L < n) = false := decide_eq_false hl
          obtain ⟨g4, rfl, _, a4⟩ := hr4 (by rw [HL.out]; omega)
          have a5 := a4 (n - 1) (by rw [HL.out]; omega)
          obtain ⟨q, HQ⟩ := name_it ((ech G n (n + 1)).2.getD (n - 1) 0)
          rw [HQ.out] at a5 h2
          obtain rfl := h1
          have d3 : decide ((L : Int) ≤ (q : Int)) = true := decide_eq_true (by omega)
          have d3n : decide (L ≤ q) = true := decide_eq_true (by omega)
          have ec : ((L - 1 : Nat) : Int) = (L : Int) - 1 := by omega
          have hidx : 0 ≤ (L : Int) - 1 := by omega
          have hidx2 : ((L : Int) - 1).toNat = L - 1 := by omega
          clear a4 hsg hl h2
          go_wp2_with fail
          go_ret2
          exact ⟨hRS.out, hch⟩
end Go.Proofs.Ytgdidakkfdcajaa
