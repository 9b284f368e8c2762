/-
  Slices of ints of the program's own: append, sort, compact; closed.
-/
import Derived.Maps.AppendAt
import Derived.Test.YtfmbekdhkilflaaC2
import Derived.Test.YtfmbekdhkilflaaCS
namespace Go.Proofs.Ytfmbekdhkilflaa
open Go.RowKit Go.Sort

theorem info_split {i : Option TypeInfo} {a : Option Value} {b c : Nat} (h : i.map (fun i => (i.zero, i.size, i.bytes)) = some (a, b, c)) : ∃ j, i = some j ∧ j.zero = a ∧ j.size = b ∧ j.bytes = c := by
  cases i with
  | none => cases h
  | some j => simp at h; exact ⟨j, rfl, h.1, h.2.1, h.2.2⟩
theorem Try.infoInt : (Try.prog.info? 3).map (fun i => (i.zero, i.size, i.bytes)) = some (some (.int .i64 0), 1, 8) := by kernel_rfl

/-- 'append(s, x)' of one cell to a slice of the program's own. -/
theorem wpList_append1 (w : World) {ops : Array Oper} {rest : List Oper} {o : Oper} {a : Act} {Q : Exit → Act → World → Prop} (t e : TypeId) (i : TypeInfo) (z : Value) (bytes : Nat) (ht : Try.prog.underlying t = some (.slice e)) (hi : Try.prog.info? e = some i) (hz : i.zero = some z) (hsize : i.size = 1) (hby : i.bytes = bytes) (hzs : z.cells.size = 1) (hbb : bytes ≤ 1000)
    (hgd : o.guard = none) (s x : Operand) (ho : o.op = .call { callee := .builtin .append, args := #[s, x], argTypes := #[t, t] })
    (v : Value) (n : Nat) (hs : List Value) (hs0 : a.eval s = v) (hown : w.ownsRow 0 e 1 v n hs) (ad : Addr) (c : Nat) (u : Value) (hx : a.eval x = .slice (some ad) 1 c) (hcell : w.cell? ad = some u) (h1 : u.oneCell' = true) (hb : n ≤ 1000000)
    (h : ∀ v' w', w'.ownsRow 0 e 1 v' (n + 1) (hs ++ [u]) → Chg v.ownBlock.toList w w' → (v'.ownBlock = v.ownBlock ∨ v'.ownBlock = some w.heap.size) → wpList Try.prog ops Q rest (a.put o.dst v') w') : wpList Try.prog ops Q (o :: rest) a w := by
  refine wpList_plain hgd fun K hK => ?_
  have hbs : (n + 1) * bytes ≤ 1000001 * 1000 := Nat.mul_le_mul (by omega) hbb
  obtain ⟨v', w', hrun, g2, g3, _, g5⟩ := run_append_own_at (P := Try.prog) w 0 t o.type e i z 1 bytes ht hi hz hsize hby hzs (by omega) v n hs hown ad 1 c [u] rfl
    (fun j y hu => by
      cases j with
      | zero => simp at hu; subst hu; rw [show ad.add 0 = ad from by simp [Addr.add]]; exact hcell
      | succ j => simp at hu) (by intro y hu; simp at hu; subst hu; exact h1) (by simp only [maxLen]; omega) (by omega) (Nat.zero_le _)
  unfold Oper.wp execOp
  simp only [ho, resolve, invoke, builtin, Sem.run_bind, Sem.run_pure, Result.andThen_ok, List.map_toArray, List.map_cons, List.map_nil, hs0, hx, hrun]
  exact hK _ _ (h v' w' g2 (Chg.of_grownv g3 (fun k hk => by rw [hk]; simp)) g5)

/-- Ints as values. -/
def valz (L : List Int) : List Value := L.map (Value.int .i64)
theorem valz_length (L : List Int) : (valz L).length = L.length := by simp [valz]
theorem valz_get (L : List Int) (j : Nat) (h : j < L.length) : (valz L)[j]? = some (.int .i64 (L.getD j 0)) := by simp [valz, h]
/-- A slice of ints, the program's own, nil let in. -/
def OwnZ (w : World) (v : Value) (L : List Int) : Prop := w.ownsRow 0 3 1 v L.length (valz L)
theorem OwnZ.form {w : World} {v : Value} {L : List Int} (h : OwnZ w v L) : (v = .slice none 0 0 ∧ L = []) ∨ ∃ g cap cur, v = .slice (some ⟨g, 0, none⟩) L.length cap ∧ w.heap[g]? = some (.cells cur 3 (0, 0)) ∧ L.length ≤ cap ∧ cap ≤ maxLen ∧ cur.size = cap ∧ cur.toList.take L.length = valz L := by
  rcases h.2 with ⟨rfl, h3⟩ | ⟨g, cap, cur, rfl, _, h1, h2, h3, h4, h5⟩
  · exact .inl ⟨rfl, List.eq_nil_of_length_eq_zero h3⟩
  · exact .inr ⟨g, cap, cur, rfl, h1, h2, h3, by simpa using h4, by simpa using h5⟩
theorem OwnZ.nil (w : World) : OwnZ w (.slice none 0 0) [] := World.ownsRow_nil _ _ _ _
theorem OwnZ.mk {w : World} {g cap : Nat} {cur : Array Value} {L : List Int} (h1 : w.heap[g]? = some (.cells cur 3 (0, 0))) (h2 : L.length ≤ cap) (h3 : cap ≤ maxLen) (h4 : cur.size = cap) (h5 : cur.toList.take L.length = valz L) : OwnZ w (.slice (some ⟨g, 0, none⟩) L.length cap) L :=
  ⟨by simp [valz], .inr ⟨g, cap, cur, rfl, Nat.zero_le _, h1, h2, h3, by simpa using h4, by simpa using h5⟩⟩
theorem OwnZ.keep {gs : List Nat} {w w' : World} {v : Value} {L : List Int} (h : OwnZ w v L) (hc : Chg gs w w') (hg : ∀ x, x ∈ v.ownBlock.toList → x ∉ gs) : OwnZ w' v L := by
  rcases h.form with ⟨rfl, rfl⟩ | ⟨g, cap, cur, rfl, h1, h2, h3, h4, h5⟩
  · exact OwnZ.nil _
  · exact OwnZ.mk ((hc.block g (Array.getElem?_eq_some_iff.1 h1).1 (hg g (by simp [Value.ownBlock]))).trans h1) h2 h3 h4 h5
theorem OwnZ.keep0 {w w' : World} {v : Value} {L : List Int} (h : OwnZ w v L) (hc : Chg [] w w') : OwnZ w' v L := h.keep hc (fun _ _ => by simp)
theorem OwnZ.empty (w : World) : OwnZ (w.alloc (.cells #[] 3)) (.slice (some ⟨w.heap.size, 0, none⟩) 0 0) [] :=
  OwnZ.mk (cur := #[]) (by show (w.heap.push _)[w.heap.size]? = _; simp) (Nat.le_refl _) (by simp [maxLen]) rfl rfl
theorem OwnZ.holds {w : World} {g cap n : Nat} {L : List Int} (h : OwnZ w (.slice (some ⟨g, 0, none⟩) n cap) L) : Holds (Value.int .i64) w g 0 L.toArray ∧ g < w.heap.size ∧ n = L.length ∧ L.length ≤ cap := by
  rcases h.form with ⟨h0, rfl⟩ | ⟨g', cap', cur, hv, h1, h2, h3, h4, h5⟩
  · simp at h0
  · simp only [Value.slice.injEq, Option.some.injEq, Addr.mk.injEq, and_true] at hv
    obtain ⟨rfl, rfl, rfl⟩ := hv
    refine ⟨fun j hj => ?_, (Array.getElem?_eq_some_iff.1 h1).1, rfl, h2⟩
    have hj' : j < L.length := by simpa using hj
    refine ⟨?_, by simp [World.frozen?, h1]⟩
    have h6 : (cur.toList.take L.length)[j]? = (valz L)[j]? := by rw [h5]
    rw [List.getElem?_take_of_lt hj', valz_get L j hj'] at h6
    simp only [World.cell?, h1, Nat.zero_add]
    rw [Array.getElem?_toList] at h6
    rw [h6]
    simp [hj', List.getD_eq_getElem?_getD]
theorem OwnZ.rdz {w : World} {v : Value} {L : List Int} (h : OwnZ w v L) : ∃ A cap, v = .slice A L.length cap ∧ RdZ w A L := by
  rcases h.form with ⟨rfl, rfl⟩ | ⟨g, cap, cur, rfl, h1, h2, h3, h4, h5⟩
  · exact ⟨none, 0, rfl, fun h => absurd h (by simp)⟩
  · obtain ⟨hH, hl, _, _⟩ := (OwnZ.mk (L := L) h1 h2 h3 h4 h5).holds
    refine ⟨_, cap, rfl, fun _ => ⟨g, 0, rfl, hl, fun j hj => ?_⟩⟩
    rw [(hH j (by simpa using hj)).1]
    simp [hj, List.getD_eq_getElem?_getD]
theorem OwnZ.take {w : World} {g cap : Nat} {L : List Int} (h : OwnZ w (.slice (some ⟨g, 0, none⟩) L.length cap) L) (n : Nat) (hn : n ≤ L.length) : OwnZ w (.slice (some ⟨g, 0, none⟩) n cap) (L.take n) := by
  rcases h.form with ⟨h0, rfl⟩ | ⟨g', cap', cur, hv, h1, h2, h3, h4, h5⟩
  · simp at h0
  · simp only [Value.slice.injEq, Option.some.injEq, Addr.mk.injEq, and_true, true_and] at hv
    obtain ⟨rfl, rfl⟩ := hv
    have hl : (L.take n).length = n := by simp; omega
    have := OwnZ.mk (L := L.take n) h1 (by omega) h3 h4 (by
      rw [hl]
      have e : valz (L.take n) = (valz L).take n := by simp [valz, List.map_take]
      rw [e, ← h5, List.take_take]
      congr 1
      omega)
    rwa [hl] at this
/-- Behind a call that lays the row anew. -/
theorem OwnZ.put {w : World} {g cap q : Nat} {L T : List Int} (os : Array Obj) (h : OwnZ w (.slice (some ⟨g, 0, none⟩) L.length cap) L) (hl : T.length = L.length) :
    OwnZ (grow (putRow (Value.int .i64) (Sort.ahead w q) g 0 T.toArray) os) (.slice (some ⟨g, 0, none⟩) T.length cap) T := by
  rcases h.form with ⟨h0, rfl⟩ | ⟨g', cap', cur, hv, h1, h2, h3, h4, h5⟩
  · simp at h0
  · simp only [Value.slice.injEq, Option.some.injEq, Addr.mk.injEq, and_true, true_and] at hv
    obtain ⟨rfl, rfl⟩ := hv
    have hg : g < w.heap.size := (Array.getElem?_eq_some_iff.1 h1).1
    refine OwnZ.mk (cur := putCells (Value.int .i64) 0 T.toArray cur) ?_ (by omega) h3 (by simp [putCells, h4]) ?_
    · rw [heap_grow_old _ _ (by simpa using hg)]
      simp [putRow, mapBlock, Sort.ahead, Array.getElem?_modify, h1, onCells]
    · apply List.ext_getElem?
      intro j
      by_cases hj : j < T.length
      · rw [List.getElem?_take_of_lt hj, Array.getElem?_toList]
        simp [putCells, valz, hj, show j < cur.size by omega]
      · rw [List.getElem?_take_eq_none (by omega), List.getElem?_eq_none (by simp [valz]; omega)]
theorem Chg.put (w : World) (g q : Nat) (T : List Int) (os : Array Obj) : Chg [g] w (grow (putRow (Value.int .i64) (Sort.ahead w q) g 0 T.toArray) os) := by
  refine ⟨rfl, rfl, rfl, by simp, fun k hk hne => ?_⟩
  rw [heap_grow_old _ _ (by simpa using hk)]
  have : g ≠ k := fun e => hne (by simp [e])
  simp [putRow, mapBlock, Sort.ahead, Array.getElem?_modify, this]

/-- slices.Sort of a slice of the program's own. -/
theorem sortZ_any (g cap n : Nat) (L : List Int) (w : World) (h : OwnZ w (.slice (some ⟨g, 0, none⟩) n cap) L) (hn : L.length ≤ 1000000) :
    Calls Try.prog 35 #[.slice (some ⟨g, 0, none⟩) n cap] w fun e w' => e = .returned (.tuple #[]) ∧ OwnZ w' (.slice (some ⟨g, 0, none⟩) n cap) (L.mergeSort fun x y => decide (x ≤ y)) ∧ Chg [g] w w' := by
  obtain ⟨h1, h2, rfl, h4⟩ := h.holds
  refine (Try.sort_int g 0 cap L w h1 h2 (by omega)).mono ?_
  rintro e w' ⟨rfl, q, os, rfl⟩
  refine ⟨rfl, ?_, Chg.put w g q _ os⟩
  have := h.put (q := q) (T := L.mergeSort fun x y => decide (x ≤ y)) os (List.length_mergeSort _)
  rwa [List.length_mergeSort] at this
/-- slices.Compact of a slice of the program's own. -/
theorem compactZ_any (g cap n : Nat) (L : List Int) (w : World) (h : OwnZ w (.slice (some ⟨g, 0, none⟩) n cap) L) (hn : L.length ≤ 1000000) :
    Calls Try.prog 36 #[.slice (some ⟨g, 0, none⟩) n cap] w fun e w' => e = .returned (.slice (some ⟨g, 0, none⟩) (Lib.compact L).length cap) ∧ OwnZ w' (.slice (some ⟨g, 0, none⟩) (Lib.compact L).length cap) (Lib.compact L) ∧ Chg [g] w w' := by
  obtain ⟨h1, h2, rfl, h4⟩ := h.holds
  refine (Try.compact_int g 0 cap L w h1 (by omega) h4).mono ?_
  rintro e w' ⟨rfl, q, rfl⟩
  have hle : (Lib.compact L).length ≤ L.length := comp_len _ _
  have hlen : (Lib.compact L ++ List.replicate (L.length - (Lib.compact L).length) 0).length = L.length := by simp; omega
  refine ⟨rfl, ?_, by have := Chg.put w g q (Lib.compact L ++ List.replicate (L.length - (Lib.compact L).length) 0) #[]; rwa [grow_empty] at this⟩
  have := h.put (q := q) (T := Lib.compact L ++ List.replicate (L.length - (Lib.compact L).length) 0) #[] hlen
  rw [grow_empty] at this
  have h5 := this.take (Lib.compact L).length (by rw [hlen]; exact hle)
  rwa [List.take_left] at h5

theorem filt_snoc (zs : List Int) (a b : Int) (k : Nat) (hk : k < zs.length) : filt (zs.take (k + 1)) a b = filt (zs.take k) a b ++ (if decide (a ≤ zs.getD k 0) && decide (zs.getD k 0 < b) && wkd (zs.getD k 0) then [zs.getD k 0] else []) := by
  rw [List.take_succ_eq_append_getElem hk]
  unfold filt
  rw [List.filter_append]
  have e : zs.getD k 0 = zs[k] := by rw [List.getD_eq_getElem?_getD, List.getElem?_eq_getElem hk]; rfl
  rw [e]
  congr 1
  by_cases c : (decide (a ≤ zs[k]) && decide (zs[k] < b) && wkd zs[k]) = true
  · rw [if_pos c, List.filter_cons_of_pos (p := fun z => decide (a ≤ z) && decide (z < b) && wkd z) c]; rfl
  · rw [if_neg c, List.filter_cons_of_neg (p := fun z => decide (a ≤ z) && decide (z < b) && wkd z) c]; rfl

/-- What a slice that the program made is, and that it is new since the world w. -/
def NewZ (w w' : World) (v : Value) (L : List Int) : Prop := OwnZ w' v L ∧ (∀ x, x ∈ v.ownBlock.toList → w.heap.size ≤ x) ∧ Chg [] w w'
set_option maxRecDepth 20000 in
set_option maxHeartbeats 2000000 in
theorem closed_any (zs : List Int) (a b : Int) (n : Nat) (A : Option Addr) (cap : Nat) (w : World) (hl : zs.length = n) (hn : n ≤ 1000) (hz : ∀ x, x ∈ zs → I64 x) (hx : RdZ w A zs) :
    Calls Try.prog 32 #[.int .i64 a, .int .i64 b, .slice A n cap] w fun e w' => ∃ v, e = .returned v ∧ NewZ w w' v (clo zs a b) := by
  obtain ⟨iI, hiI, hzI0, hzI1, hzI2⟩ := info_split Try.infoInt
  have HZ := Lib.hid hz
  have HL := Lib.hid hl
  have HX0 := Lib.hid hx
  have hch : Chg [] w w := Chg.refl _ _
  clear hz hl hx
  go_enter Try.func32, Try.ntmps32
  go_wp2_with fail
  go_loopw [7, 13] (fun lv iv wr => ∃ (k : Nat), k ≤ n ∧ iv = .int .i64 k ∧ OwnZ wr lv (filt (zs.take k) a b) ∧ (∀ x, x ∈ lv.ownBlock.toList → w.heap.size ≤ x) ∧ lv ≠ .slice none 0 0 ∧ Chg [] w wr) (fun _ iv _ => n - (intOf iv).toNat)
  case atStart =>
    have c1 : Chg [] w (w.alloc (.cells #[] 3)) := hch.alloc _
    exact ⟨0, Nat.zero_le _, rfl, OwnZ.empty w, by simp [Value.ownBlock], by simp, c1⟩
  case round =>
    clear hch
    obtain ⟨k, hk, rfl, hown, hnew, hne, hch⟩ := hrel
    have hx := HX0.out.keep0 hch
    have HN := Lib.hid hne
    have HO := Lib.hid hown
    have HW := Lib.hid hnew
    clear hne hown hnew
    by_cases hlt : k < n
    · obtain ⟨g, o, rfl, hg, a0⟩ := hx (by rw [HL.out]; omega)
      have a1 := a0 k (by rw [HL.out]; exact hlt)
      have HS := Lib.hid (filt_snoc zs a b k (by rw [HL.out]; exact hlt))
      have hzi := HZ.out (zs.getD k 0) (getD_mem (by rw [HL.out]; exact hlt))
      obtain ⟨z, HZZ⟩ := name_it (zs.getD k 0)
      rw [HZZ.out] at a1 HS hzi
      have i1 : (0 : Int) ≤ (k : Int) := by omega
      have i2 : (k : Int) < (n : Int) := by omega
      clear a0
      have HI := Lib.hid hzi
      clear hzi
      have SKIP : Hid (¬ (a ≤ z ∧ z < b ∧ wkd z = true) → filt (zs.take (k + 1)) a b = filt (zs.take k) a b) := Lib.hid fun h => by
        rw [HS.out, if_neg (fun h9 => h (by simpa [and_assoc] using h9)), List.append_nil]
      by_cases h1 : a ≤ z
      · have d1 : decide (a ≤ z) = true := decide_eq_true h1
        by_cases h2 : z < b
        · have d2 : decide (z < b) = true := decide_eq_true h2
          cases h3 : wkd z with
          | false =>
            have HB := Lib.hid h3
            have HS2 := Lib.hid (SKIP.out (fun h => by rw [HB.out] at h; simp at h))
            clear h1 h2 h3
            go_wp2_with (go_at_call 27; refine (isWeekday_any z _ false HI.out HB.out).mono ?_; rintro e w' ⟨rfl, hw⟩; obtain rfl := hw.symm; clear hw)
            go_roundw
            case rel => exact ⟨k + 1, by omega, by go_num, by rw [HS2.out]; exact HO.out, HW.out, HN.out, hch⟩
            case measure => simp [intOf]; omega
          | true =>
            have HB := Lib.hid h3
            have HS2 : Hid (filt (zs.take (k + 1)) a b = filt (zs.take k) a b ++ [z]) := Lib.hid (by rw [HS.out, if_pos (by rw [d1, d2, HB.out]; rfl)])
            clear h1 h2 h3
            obtain ⟨M, HM⟩ := name_it (filt (zs.take k) a b)
            have hlen : M.length ≤ 1000 := by
              rw [← HM.out]
              have h9 := filt_len (zs.take k) a b
              rw [List.length_take] at h9; omega
            have c10 : Chg [] wr (wr.alloc (.cells #[.int .i64 z] 3)) := (Chg.refl _ _).alloc _
            have hown := HO.out.keep0 c10
            unfold OwnZ at hown
            rw [HM.out] at hown
            have hch4 := hch.then c10
            have hsz4 := hch.size
            have hcl : (wr.alloc (.cells #[.int .i64 z] 3)).cell? ⟨wr.heap.size, 0, none⟩ = some (.int .i64 z) := by simp
            clear hch c10
            go_wp2_with (first | (go_at_call 27; refine (isWeekday_any z _ true HI.out HB.out).mono ?_; rintro e w' ⟨rfl, hw⟩; obtain rfl := hw.symm; clear hw) | (at_builtin; (refine wpList_append1 _ 25 3 iI _ 8 Try.underlying25 hiI hzI0 hzI1 hzI2 rfl (by omega) rfl (.tmp 29) (.tmp 31) rfl _ M.length (valz M) rfl hown ⟨wr.heap.size, 0, none⟩ 1 (.int .i64 z) rfl hcl rfl (by omega) ?_)))
            intro v2 w5 own2 cv2 hv2
            have hO5 : Hid (OwnZ w5 v2 (M ++ [z])) := Lib.hid (by
              unfold OwnZ
              rw [List.length_append, List.length_singleton]
              have e : valz (M ++ [z]) = valz M ++ [.int .i64 z] := by simp [valz]
              rw [e]
              exact own2)
            have HW5 : Hid (∀ x, x ∈ v2.ownBlock.toList → w.heap.size ≤ x) := Lib.hid fun x hx => by
              rcases hv2 with h5 | h5
              · rw [h5] at hx; exact HW.out x hx
              · rw [h5] at hx; simp at hx; omega
            have HN5 : Hid (v2 ≠ .slice none 0 0) := Lib.hid (by
              rcases hO5.out.form with ⟨_, h6⟩ | ⟨g6, c6, cu6, rfl, _⟩
              · simp at h6
              · simp)
            have hch5 := Lib.hid (hch4.trans cv2 (fun x hx => .inr (HW.out x hx)))
            clear hch4 cv2 hv2 own2 hown hcl
            go_wp2_with fail
            go_roundw
            case rel => exact ⟨k + 1, by omega, by go_num, by rw [HS2.out, HM.out]; exact hO5.out, HW5.out, HN5.out, hch5.out⟩
            case measure => simp [intOf]; omega
        · have d2 : decide (z < b) = false := decide_eq_false h2
          have HS2 := Lib.hid (SKIP.out (fun h => h2 h.2.1))
          have HB : Hid (wkd z = wkd z) := Lib.hid rfl
          clear h1 h2
          go_wp2_with (go_at_call 27; refine (isWeekday_any z _ (wkd z) HI.out HB.out).mono ?_; rintro e w' ⟨rfl, hw⟩; obtain rfl := hw.symm; clear hw)
          go_roundw
          case rel => exact ⟨k + 1, by omega, by go_num, by rw [HS2.out]; exact HO.out, HW.out, HN.out, hch⟩
          case measure => simp [intOf]; omega
      · have d1 : decide (a ≤ z) = false := decide_eq_false h1
        have HS2 := Lib.hid (SKIP.out (fun h => h1 h.1))
        have HB : Hid (wkd z = wkd z) := Lib.hid rfl
        clear h1
        go_wp2_with (go_at_call 27; refine (isWeekday_any z _ (wkd z) HI.out HB.out).mono ?_; rintro e w' ⟨rfl, hw⟩; obtain rfl := hw.symm; clear hw)
        go_roundw
        case rel => exact ⟨k + 1, by omega, by go_num, by rw [HS2.out]; exact HO.out, HW.out, HN.out, hch⟩
        case measure => simp [intOf]; omega
    · obtain rfl : k = n := by omega
      have e9 : zs.take k = zs := List.take_of_length_le (by rw [HL.out]; omega)
      have HO2 := HO.out
      rw [e9] at HO2
      clear e9
      rcases HO2.form with ⟨h6, _⟩ | ⟨g, cp, cur, rfl, hcur, _, _, _, _⟩
      · exact absurd h6 HN.out
      · have hgf : w.heap.size ≤ g := HW.out g (by simp [Value.ownBlock])
        have HO3 := Lib.hid HO2
        have hFL : (filt zs a b).length ≤ 1000 := by have := filt_len zs a b; have := HL.out; omega
        clear hcur HO2
        obtain ⟨M, HM⟩ := name_it (filt zs a b)
        rw [HM.out] at hFL
        have HO4 : Hid (OwnZ wr (.slice (some ⟨g, 0, none⟩) M.length cp) M) := Lib.hid (by have := HO3.out; rw [HM.out] at this; exact this)
        have e1 : (filt zs a b).length = M.length := by rw [HM.out]
        obtain ⟨m, Hm⟩ := name_it M.length
        rw [Hm.out] at HO4 e1 hFL
        rw [e1]
        clear e1 HX0 hx
        go_wp2_with (first
          | (go_at_call 35; refine (sortZ_any g cp m M _ HO4.out (by have := Hm.out; omega)).mono ?_; rintro e w1 ⟨rfl, o1, c1⟩; have O1 := Lib.hid o1; have C1 := Lib.hid c1; clear o1 c1)
          | (go_at_call 36; refine (compactZ_any g cp m _ _ O1.out (by rw [List.length_mergeSort]; have := Hm.out; omega)).mono ?_; rintro e w2 ⟨rfl, o2, c2⟩; have O2 := Lib.hid o2; have C2 := Lib.hid c2; clear o2 c2))
        go_ret
        refine ⟨_, rfl, ?_, ?_, ?_⟩
        · show OwnZ w2 _ (Lib.compact ((filt zs a b).mergeSort fun x y => decide (x ≤ y)))
          rw [HM.out]
          exact O2.out
        · intro x hx
          simp [Value.ownBlock] at hx
          omega
        · exact (hch.trans C1.out (fun x hx => by simp at hx; subst hx; exact .inr hgf)).trans C2.out (fun x hx => by simp at hx; subst hx; exact .inr hgf)
end Go.Proofs.Ytfmbekdhkilflaa
