/-
  Several parts put together: DX8, DX9, DX3, DX10.
-/
import Derived.Test.YtogciehmdlfkfaaGreatDoorHC
import Derived.Test.YtogciehmdlfkfaaGreatDoorHB
/- Part DX8. -/

namespace Go.Proofs.YtogciehmdlfkfaaGreatDoor
open Go.RowKit Nd

def begE (l : List Pf) (id : ByteArray) : Int := if nameB id = false then 11 else if l.any (fun p => decide (p.id = id)) then 12 else if 64 ≤ l.length then 2 else 0
theorem own_off {v : Value} {N g : Nat} (h : ∀ x, x ∈ v.ownBlock.toList → x ≠ g ∧ N ≤ x) : OffV [g] v := by
  intro k hk hm
  simp at hm
  exact (h k (by rw [hk]; simp)).1 hm
theorem not_own {v : Value} {N g : Nat} (h : ∀ x, x ∈ v.ownBlock.toList → x ≠ g ∧ N ≤ x) : g ∉ v.ownBlock.toList := fun hm => (h g hm).1 rfl
set_option maxRecDepth 20000 in
set_option maxHeartbeats 2000000 in
theorem begin_any (W w : World) (g : Nat) (v : Value) (l : List Pf) (id : ByteArray) (hb : Box W.heap.size w g v ⟨l, 0⟩) (hch : Chg [] W w) :
    Calls Tryz.prog 63 #[.pointer (some ⟨g, 0, none⟩), .string id] w fun e w' => e = .returned (.int .i64 (begE l id)) ∧ (begE l id = 0 → ∃ v', Box W.heap.size w' g v' ⟨l ++ [newP id], 0⟩) ∧ Chg [] W w' := by
  obtain ⟨A, cap, rfl, hcap, hcap2, hsp⟩ := hb.own.rds
  simp only at hcap hsp
  obtain ⟨L, HL⟩ := name_it l.length
  rw [HL.out] at hb hcap
  have h64 := hb.l64
  simp only at h64
  rw [HL.out] at h64
  have HB := Lib.hid hb
  have HSP := Lib.hid hsp
  clear hsp
  obtain ⟨E, HE⟩ := name_it (begE l id)
  have HEE : Hid (E = begE l id) := HE.out.symm
  rw [HE.out]
  unfold begE at HEE
  obtain ⟨a, HA⟩ := name_it (nameB id)
  obtain ⟨b, HBB⟩ := name_it (l.any fun p => decide (p.id = id))
  rw [HA.out, HBB.out, HL.out] at HEE
  cases a with
  | false =>
    have HR : Hid (E = 11) := by show _ = _; rw [HEE.out]; simp
    clear hb
    go_enter Tryz.func63, Tryz.ntmps63
    go_wp2_with (first
      | (go_at_call 12; refine (isName_any id _).mono ?_; rintro e w3 ⟨rfl, c3⟩; rw [HA.out])
      | fail)
    go_ret
    exact ⟨ret_eq (by rw [HR.out]; rfl), fun h => (by rw [HR.out] at h; cases h), hch.then c3⟩
  | true =>
    have y0 := hb.b.c0
    have yl := hb.b.lt
    clear hb
    cases b with
    | true =>
      have HR : Hid (E = 12) := by show _ = _; rw [HEE.out]; simp
      go_enter Tryz.func63, Tryz.ntmps63
      go_wp2_with (first
        | (go_at_call 12; refine (isName_any id _).mono ?_; rintro e w3 ⟨rfl, c3⟩; rw [HA.out]; have hb := HB.out.keep0 c3; have y0 := hb.b.c0; have yl := hb.b.lt; clear hb)
        | (go_at_call 69; refine (hasID_any l A L cap id _ HL.out (by omega) (HSP.out.keep0 c3)).mono ?_; rintro e w4 ⟨rfl, c4⟩; rw [HBB.out])
        | fail)
      go_ret
      exact ⟨ret_eq (by rw [HR.out]; rfl), fun h => (by rw [HR.out] at h; cases h), (hch.then c3).then c4⟩
    | false =>
      by_cases hL : 64 ≤ L
      · have HR : Hid (E = 2) := by show _ = _; rw [HEE.out]; simp [hL]
        have d1 : decide (64 ≤ (L : Int)) = true := by simp; omega
        go_enter Tryz.func63, Tryz.ntmps63
        go_wp2_with (first
          | (go_at_call 12; refine (isName_any id _).mono ?_; rintro e w3 ⟨rfl, c3⟩; rw [HA.out]; have hb := HB.out.keep0 c3; have y0 := hb.b.c0; have yl := hb.b.lt; clear hb)
          | (go_at_call 69; refine (hasID_any l A L cap id _ HL.out (by omega) (HSP.out.keep0 c3)).mono ?_; rintro e w4 ⟨rfl, c4⟩; rw [HBB.out]; have hb := (HB.out.keep0 c3).keep0 c4; have y0 := hb.b.c0; have yl := hb.b.lt; clear hb)
          | fail)
        go_ret
        exact ⟨ret_eq (by rw [HR.out]; rfl), fun h => (by rw [HR.out] at h; cases h), (hch.then c3).then c4⟩
      · have HR : Hid (E = 0) := by show _ = _; rw [HEE.out]; simp [hL]
        have d1 : decide (64 ≤ (L : Int)) = false := by simp; omega
        go_enter Tryz.func63, Tryz.ntmps63
        go_wp2_with (first
          | (go_at_call 12; refine (isName_any id _).mono ?_; rintro e w3 ⟨rfl, c3⟩; rw [HA.out]; have hb := HB.out.keep0 c3; have y0 := hb.b.c0; have yl := hb.b.lt; clear hb)
          | (go_at_call 69; refine (hasID_any l A L cap id _ HL.out (by omega) (HSP.out.keep0 c3)).mono ?_; rintro e w4 ⟨rfl, c4⟩; rw [HBB.out]; have HB4 := Lib.hid ((HB.out.keep0 c3).keep0 c4); have hch4 := (hch.then c3).then c4; have y0 := HB4.out.b.c0; have yl := HB4.out.b.lt)
          | (at_builtin
             refine wpList_appendPf _ rfl (.tmp 27) (.tmp 30) rfl (.slice A L cap) l rfl (HB4.out.own.keep0 ((Chg.refl [] _).alloc _)) _ 1 ⟨id, 0, 0, ⟨#[]⟩, q0, 0, 0, q0, 0, -1⟩ rfl (sPf_new _ ⟨id, 0, 0, ⟨#[]⟩, q0, 0, 0, q0, 0, -1⟩) (by rw [HL.out]; omega) ?_
             intro v5 w5 own5 cv5 hv5
             obtain ⟨A5, c5, rfl, h51, h52, h53⟩ := own5.rds
             have hb5 := ((HB4.out.keep0 ((Chg.refl [] w4).alloc (.cells #[.string id, .int .i64 0, .int .i64 0, .string ⟨#[]⟩, .bool false, .string ⟨#[]⟩, .string ⟨#[]⟩, .int .i64 0, .int .i64 0, .bool false, .string ⟨#[]⟩, .string ⟨#[]⟩, .int .i64 0, .int .i64 (-1)] 27))).b).keep cv5 (not_own HB4.out.ne)
             have y0 := hb5.c0
             have yf := hb5.f0
             have yl := hb5.lt)
          | fail)
        go_ret
        have e5 : (l ++ [(⟨id, 0, 0, ⟨#[]⟩, q0, 0, 0, q0, 0, -1⟩ : Pf)]).length = l.length + 1 := by simp
        rw [e5] at own5 hv5
        have gN := HB4.out.gN
        have ne := HB4.out.ne
        have hsz := hch4.size
        have ne5 : ∀ x, x ∈ (Value.slice A5 (l.length + 1) c5).ownBlock.toList → x ≠ g ∧ W.heap.size ≤ x := by
          intro x hx
          rcases hv5 with h5 | h5
          · rw [h5] at hx; exact ne x hx
          · rw [h5] at hx
            simp at hx
            have := HB4.out.b.lt
            omega
        refine ⟨ret_eq (by rw [HR.out]; rfl), fun _ => ⟨.slice A5 (l.length + 1) c5, hb5.st0 _, OwnPf.keep own5 ((Chg.refl [g] _).setCell (.inl (by simp)) _) (own_off ne5), ne5, gN, by show (-1:Int) ≤ 0; omega, by show (0:Int) ≤ 7; omega, ?_⟩, ?_⟩
        · show (l ++ [newP id]).length ≤ 64
          rw [List.length_append, HL.out]
          show L + 1 ≤ 64
          omega
        · exact ((hch4.alloc _).trans cv5 (fun x hx => .inr (ne x hx).2)).setCell (.inr gN) _
end Go.Proofs.YtogciehmdlfkfaaGreatDoor

/- Part DX9. -/

namespace Go.Proofs.YtogciehmdlfkfaaGreatDoor
open Go.RowKit Nd

theorem word_size (s : ByteArray) (j : Nat) : ((wordsB s).getD j wd0).size ≤ s.size := by
  have key : ∀ (c : UInt8) (l : List UInt8), ∀ x ∈ spl c l, x.length ≤ l.length := by
    intro c l
    induction l with
    | nil => intro x hx; simp [spl] at hx; simp [hx]
    | cons a l ih =>
      intro x hx
      unfold spl at hx
      split at hx
      · rcases List.mem_cons.1 hx with rfl | hx
        · simp
        · have := ih x hx; simp; omega
      · cases hs : spl c l with
        | nil => exact absurd hs (spl_ne c l)
        | cons h t =>
          rw [hs] at hx ih
          rcases List.mem_cons.1 hx with rfl | hx
          · have := ih h (by simp); simpa using this
          · have := ih x (by simp [hx]); simp; omega
  by_cases h : j < (wordsB s).length
  · have hm := memWd h
    obtain ⟨l, hl, e⟩ := List.mem_map.1 hm
    have h1 := key 32 _ l hl
    rw [size_len] at h1
    rw [← e]
    show l.toArray.size ≤ _
    rw [List.size_toArray]; exact h1
  · rw [List.getD_eq_getElem?_getD, List.getElem?_eq_none (by omega)]
    exact Nat.zero_le _
/-- A line is read: the error E, and without one the reader R. -/
structure ReadPo (W : World) (g : Nat) (E : Int) (R : Rdr) (e : Ending) (w' : World) : Prop where
  out : e = .returned (.int .i64 E)
  box : E = 0 → ∃ v', Box W.heap.size w' g v' R
  chg : Chg [] W w'
theorem fol_ne {a k : Int} (h : folB a k = true) (h1 : 1 ≤ k) : a ≠ -1 := by
  unfold folB at h
  rw [if_neg (by omega)] at h
  split at h
  · have := of_decide_eq_true h; omega
  · have := of_decide_eq_true h; omega
set_option maxRecDepth 20000 in
set_option maxHeartbeats 4000000 in
theorem read_any (W w : World) (g : Nat) (v : Value) (r : Rdr) (line : ByteArray) (ended : Bool) (hb : Box W.heap.size w g v r) (hl1 : r.k ≠ -1 → 1 ≤ r.l.length) (hch : Chg [] W w) (hgl : Gl w) (hz : line.size ≤ 4294967280) :
    Calls Tryz.prog 39 #[.pointer (some ⟨g, 0, none⟩), .string line, .bool ended] w (ReadPo W g (lineE r line ended) (lineR r line)) := by
  obtain ⟨E, HE⟩ := name_it (lineE r line ended)
  obtain ⟨R, HR⟩ := name_it (lineR r line)
  rw [HE.out, HR.out]
  have HEE : Hid (E = lineE r line ended) := HE.out.symm
  have HRR : Hid (R = lineR r line) := HR.out.symm
  clear HE HR
  unfold lineE at HEE
  unfold lineR at HRR
  have HWZ := Lib.hid (word_size line)
  obtain ⟨ws, HWS⟩ := name_it (wordsB line)
  rw [HWS.out] at HEE HRR HWZ
  obtain ⟨n, HN⟩ := name_it ws.length
  have hn : n ≤ 4294967290 := by
    rw [← HN.out, ← HWS.out, wordsB_len]
    have := Lib.countB_le ⟨#[32]⟩ (by decide) line.size line (Nat.le_refl _)
    omega
  obtain ⟨K, HK⟩ := name_it (kindW ws)
  rw [HK.out] at HEE HRR
  have HSP : ∀ W', Calls Tryz.prog 60 #[.string line, .string ⟨#[32]⟩] W' fun e w' => ∃ g, e = .returned (.slice (some ⟨g, 0, none⟩) n n) ∧ W'.heap.size ≤ g ∧ SWd w' (some ⟨g, 0, none⟩) ws ∧ Chg [] W' w' := by
    intro W'
    have := split1 line W' (by omega)
    rw [HWS.out, HN.out] at this
    exact this
  have HKD : ∀ (W' : World) (A : Option Addr), SWd W' A ws → Gl W' → Calls Tryz.prog 61 #[.slice A n n] W' fun e w' => e = .returned (.int .i64 K) ∧ Chg [] W' w' := by
    intro W' A h1 h2
    have := kindOf_any ws A n n W' HN.out (by omega) h1 h2
    rw [HK.out] at this
    exact this
  have HSPH := Lib.hid HSP
  have HKDH := Lib.hid HKD
  have HB := Lib.hid hb
  have HGL := Lib.hid hgl
  have HL1 := Lib.hid hl1
  have hK1 := kindW_range ws
  rw [HK.out] at hK1
  obtain ⟨hK1, hK7⟩ := hK1
  clear HSP HKD hgl hl1
  have gl := hb.b.lt
  have gN := hb.gN
  clear hb
  cases ended with
  | false =>
    have hE : Hid (E = 10) := by show _ = _; rw [HEE.out, if_pos (.inl rfl)]
    clear HEE HRR
    go_enter Tryz.func39, Tryz.ntmps39
    go_wp2_with (first
      | (go_at_call 60; refine (HSPH.out _).mono ?_; rintro e w3 ⟨g1, rfl, hg1, hsw, c3⟩; have HSW3 := Lib.hid hsw; clear hsw)
      | (go_at_call 61; refine (HKDH.out _ _ HSW3.out (HGL.out.keep0 c3)).mono ?_; rintro e w4 ⟨rfl, c4⟩; have HB4 := Lib.hid ((HB.out.keep0 c3).keep0 c4); have HSW4 := Lib.hid (HSW3.out.keep0 c4); have hch4 := (hch.then c3).then c4)
      | fail)
    go_ret
    exact ⟨ret_eq (by rw [hE.out]; rfl), fun h => (by rw [hE.out] at h; cases h), hch4⟩
  | true =>
    by_cases hk : K = -1
    · subst hk
      have hE : Hid (E = 10) := by show _ = _; rw [HEE.out, if_pos (.inr (.inl rfl))]
      clear HEE HRR
      go_enter Tryz.func39, Tryz.ntmps39
      go_wp2_with (first
        | (go_at_call 60; refine (HSPH.out _).mono ?_; rintro e w3 ⟨g1, rfl, hg1, hsw, c3⟩; have HSW3 := Lib.hid hsw; clear hsw)
        | (go_at_call 61; refine (HKDH.out _ _ HSW3.out (HGL.out.keep0 c3)).mono ?_; rintro e w4 ⟨rfl, c4⟩; have HB4 := Lib.hid ((HB.out.keep0 c3).keep0 c4); have HSW4 := Lib.hid (HSW3.out.keep0 c4); have hch4 := (hch.then c3).then c4)
        | fail)
      go_ret
      exact ⟨ret_eq (by rw [hE.out]; rfl), fun h => (by rw [hE.out] at h; cases h), hch4⟩
    · have dk : (K == -1) = false := by simpa using hk
      obtain ⟨f, HFB⟩ := name_it (folB r.k K)
      rw [HFB.out] at HEE
      cases f with
      | false =>
        have hE : Hid (E = 10) := by show _ = _; rw [HEE.out, if_pos (.inr (.inr rfl))]
        clear HEE HRR hk
        go_enter Tryz.func39, Tryz.ntmps39
        go_wp2_with (first
          | (go_at_call 60; refine (HSPH.out _).mono ?_; rintro e w3 ⟨g1, rfl, hg1, hsw, c3⟩; have HSW3 := Lib.hid hsw; clear hsw)
          | (go_at_call 61; refine (HKDH.out _ _ HSW3.out (HGL.out.keep0 c3)).mono ?_; rintro e w4 ⟨rfl, c4⟩; have HB4 := Lib.hid ((HB.out.keep0 c3).keep0 c4); have HSW4 := Lib.hid (HSW3.out.keep0 c4); have hch4 := (hch.then c3).then c4)
          | (go_at_call 62; refine (mayFollow_any _ _ g v r _ HB4.out).mono ?_; rintro e w5 ⟨rfl, rfl⟩; rw [HFB.out])
          | fail)
        go_ret
        exact ⟨ret_eq (by rw [hE.out]; rfl), fun h => (by rw [hE.out] at h; cases h), hch4⟩
      | true =>
        have hEE : Hid (E = if K = 0 then (if nameB (ws.getD 1 wd0) = false then 11 else if r.l.any (fun p => decide (p.id = ws.getD 1 wd0)) then 12 else if 64 ≤ r.l.length then 2 else 0) else setE K ws) := by
          show _ = _; rw [HEE.out, if_neg (by simp [hk])]
        clear HEE
        by_cases h0 : K = 0
        · subst h0
          have hE : Hid (begE r.l (ws.getD 1 wd0) = E) := by show _ = _; rw [hEE.out, if_pos rfl]; rfl
          have hR : Hid (⟨r.l ++ [newP (ws.getD 1 wd0)], 0⟩ = R) := by show _ = _; rw [HRR.out, if_pos rfl]
          have hn2 := kind_len HK.out (by omega)
          rw [if_neg (by omega), if_neg (by omega), HN.out] at hn2
          subst hn2
          clear hEE HRR hk
          obtain ⟨x, HX⟩ := name_it (ws.getD 1 wd0)
          rw [HX.out] at hE hR
          have HBG : Hid (∀ w', Box W.heap.size w' g v ⟨r.l, 0⟩ → Chg [] W w' → Calls Tryz.prog 63 #[.pointer (some ⟨g, 0, none⟩), .string x] w' (ReadPo W g E R)) := by
            show ∀ _, _
            intro w' h1 h2
            refine (begin_any W w' g v r.l x h1 h2).mono ?_
            rintro e w'' ⟨rfl, hx, hc⟩
            rw [hE.out] at hx ⊢
            rw [hR.out] at hx
            exact ⟨rfl, hx, hc⟩
          go_enter Tryz.func39, Tryz.ntmps39
          go_wp2_with (first
            | (go_at_call 60; refine (HSPH.out _).mono ?_; rintro e w3 ⟨g1, rfl, hg1, hsw, c3⟩; have HSW3 := Lib.hid hsw; clear hsw)
            | (go_at_call 61; refine (HKDH.out _ _ HSW3.out (HGL.out.keep0 c3)).mono ?_; rintro e w4 ⟨rfl, c4⟩; have HB4 := Lib.hid ((HB.out.keep0 c3).keep0 c4); have HSW4 := Lib.hid (HSW3.out.keep0 c4); have hch4 := (hch.then c3).then c4)
            | (go_at_call 62; refine (mayFollow_any _ _ g v r _ HB4.out).mono ?_; rintro e w5 ⟨rfl, rfl⟩; rw [HFB.out]; have y1 := HB4.out.b.c1; have z1 := HB4.out.b.f1; have x1 := (HSW4.out.at_ (j := 1) (by have := HN.out; omega)).c0; rw [HX.out, Nat.zero_add, Nat.mul_one] at x1; have gl4 := HB4.out.b.lt; have g1g : g1 ≠ g := by omega)
            | fail)
          have B5 : Box W.heap.size (w5.setCell ⟨g, 1, none⟩ (.int .i64 0)) g v ⟨r.l, 0⟩ := ⟨HB4.out.b.st1 _, HB4.out.own.keep ((Chg.refl [g] _).setCell (.inl (by simp)) _) (own_off HB4.out.ne), HB4.out.ne, gN, by show (-1:Int) ≤ 0; omega, by show (0:Int) ≤ 7; omega, HB4.out.l64⟩
          have hch5 := hch4.setCell (p := ⟨g, 1, none⟩) (.inr gN) (.int .i64 0)
          refine (HBG.out _ B5 hch5).mono ?_
          rintro e w6 ⟨rfl, hx, hc⟩
          go_wp2_with fail
          go_ret
          exact ⟨ret_eq rfl, hx, hc⟩
        · have h1 : 1 ≤ K := by omega
          have hE : Hid (setE K ws = E) := by show _ = _; rw [hEE.out, if_neg h0]
          have hR : Hid (⟨r.l.set (r.l.length - 1) (setP (r.l.getD (r.l.length - 1) pf0) K ws), K⟩ = R) := by show _ = _; rw [HRR.out, if_neg h0]
          have hne : r.k ≠ -1 := fol_ne HFB.out h1
          have hlen := HL1.out hne
          have d0 : (K == 0) = false := by simpa using h0
          clear hEE HRR hk h0 hne
          obtain ⟨gv, cap, rfl, hgv⟩ : ∃ gv cap, v = .slice (some ⟨gv, 0, none⟩) r.l.length cap ∧ gv < w.heap.size := by
            rcases HB.out.own.form with ⟨_, h2⟩ | ⟨gv, cap, e, h2, _⟩
            · rw [h2] at hlen; simp at hlen
            · exact ⟨gv, cap, e, h2⟩
          obtain ⟨i, hi⟩ : ∃ i, r.l.length = i + 1 := ⟨r.l.length - 1, by omega⟩
          have HI := Lib.hid hi
          rw [hi] at HB hR
          rw [Nat.add_sub_cancel] at hR
          have hi64 : i + 1 ≤ 64 := by have := HB.out.l64; omega
          have hgg : gv ≠ g ∧ W.heap.size ≤ gv := HB.out.ne gv (by simp [Value.ownBlock])
          obtain ⟨hgg, hgW⟩ := hgg
          obtain ⟨P, HP⟩ := name_it (setP (r.l.getD i pf0) K ws)
          rw [HP.out] at hR
          have HCS : Hid (∀ (W' : World) (g1 : Nat), OwnPf W' (.slice (some ⟨gv, 0, none⟩) (i + 1) cap) r.l → SWd W' (some ⟨g1, 0, none⟩) ws → g1 ≠ gv → Calls Tryz.prog 64 #[.pointer (some ⟨gv, i * 14, none⟩), .int .i64 K, .slice (some ⟨g1, 0, none⟩) n n] W' (SetPo r.l i gv (i + 1) cap E P W')) := by
            show ∀ _, _
            intro W' g1 hW hS hne
            have := set_any r.l i gv (i * 14) (i + 1) cap ws (some ⟨g1, 0, none⟩) n n W' hW HI.out (by rw [HI.out]; omega) rfl hS (by intro a ha; cases ha; simpa using hne) HN.out (fun j => Nat.le_trans (HWZ.out j) (by omega)) K HK.out h1
            rw [hE.out, HP.out] at this; exact this
          clear hlen hi
          go_enter Tryz.func39, Tryz.ntmps39
          go_wp2_with (first
            | (go_at_call 60; refine (HSPH.out _).mono ?_; rintro e w3 ⟨g1, rfl, hg1, hsw, c3⟩; have HSW3 := Lib.hid hsw; clear hsw)
            | (go_at_call 61; refine (HKDH.out _ _ HSW3.out (HGL.out.keep0 c3)).mono ?_; rintro e w4 ⟨rfl, c4⟩; have HB4 := Lib.hid ((HB.out.keep0 c3).keep0 c4); have HSW4 := Lib.hid (HSW3.out.keep0 c4); have hch4 := (hch.then c3).then c4)
            | (go_at_call 62; refine (mayFollow_any _ _ g _ r _ HB4.out).mono ?_; rintro e w5 ⟨rfl, rfl⟩; rw [HFB.out]; have y1 := HB4.out.b.c1; have z1 := HB4.out.b.f1; have gl4 := HB4.out.b.lt; have g1g : g1 ≠ g := by omega)
            | fail)
          have b6 := HB4.out.b.st1 (.int .i64 K)
          have cS : Chg [g] w5 (w5.setCell ⟨g, 1, none⟩ (.int .i64 K)) := (Chg.refl [g] _).setCell (.inl (by simp)) _
          have HO6 := Lib.hid (HB4.out.own.keep cS (own_off HB4.out.ne))
          have HS6 := Lib.hid (HSW4.out.keep cS (by intro a ha; cases ha; simpa using g1g))
          have hch6 := hch4.setCell (p := ⟨g, 1, none⟩) (.inr gN) (.int .i64 K)
          have g1v : g1 ≠ gv := by
            have := hgv; omega
          have HG1V := Lib.hid g1v
          have HGG := Lib.hid hgg
          have HNE := Lib.hid HB4.out.ne
          have HL64 := Lib.hid HB4.out.l64
          obtain ⟨w6, HW6⟩ := name_it (w5.setCell ⟨g, 1, none⟩ (.int .i64 K))
          rw [HW6.out] at b6 HO6 HS6 hch6 ⊢
          clear cS y1 z1 gl4 hch4 g1v hgg g1g
          have c8 : Chg [] w6 w6.drew := (Chg.refl _ _).drew
          replace b6 := b6.keep0 c8
          replace HO6 := Lib.hid (HO6.out.keep0 c8)
          replace HS6 := Lib.hid (HS6.out.keep0 c8)
          replace hch6 := hch6.then c8
          clear c8
          have e1 : ((i : Int) + 1 - 1) = (i : Int) := by omega
          have e2 : IntKind.i64.wrap ((i : Int) + 1 - 1) = (i : Int) := by rw [IntKind.wrap_i64]; omega
          have e3 : IntKind.i64.wrap (((i + 1 : Nat) : Int) - 1) = (i : Int) := by rw [IntKind.wrap_i64]; omega
          have e7 : IntKind.i64.wrap (i : Int) = (i : Int) := by rw [IntKind.wrap_i64]; omega
          have e4 : decide ((i : Int) < (i : Int) + 1) = true := by simp; omega
          have e5 : (0 : Int) ≤ (i : Int) := by omega
          have e6 : (i : Int) < (i : Int) + 1 := by omega
          go_region_held3 (fun w' => w'.cell? ⟨g, 0, none⟩ = some (.slice (some ⟨gv, 0, none⟩) (i + 1) cap)) (first | exact b6.c0) (first
            | (go_at_call 64
               refine (HCS.out _ _ HO6.out HS6.out HG1V.out).mono ?_
               rintro e w7 ⟨p', rfl, hp, hs, c9⟩
               replace b6 := b6.keep c9 (by have := HGG.out; simp; omega)
               have HPQ := Lib.hid hp
               have HS7 := Lib.hid hs
               have hch7 := hch6.trans c9 (fun x hx => .inr (by simp at hx; omega))
               clear hp hs)
            | fail)
          go_wp2_with fail
          go_ret
          refine ⟨ret_eq rfl, fun h => ⟨.slice (some ⟨gv, 0, none⟩) (i + 1) cap, ?_⟩, hch7⟩
          rw [← hR.out]
          refine ⟨b6, ?_, HNE.out, gN, hK1, hK7, ?_⟩
          · have := HS7.out
            rw [HPQ.out h] at this
            exact this
          · show (r.l.set i P).length ≤ 64
            rw [List.length_set]; exact HL64.out
end Go.Proofs.YtogciehmdlfkfaaGreatDoor

/- Part DX3. -/

namespace Go.Proofs.YtogciehmdlfkfaaGreatDoor
open Go.RowKit Nd

theorem long_eq (s : ByteArray) (k : Nat) (hk : Lib.countByte s.data.toList 10 = k) : longB s.data.toList = (decide (8192 < s.size) || decide ((512 : Int) < k + (if s.size ≠ 0 ∧ Lib.hasSuffix s.data.toList [10] = false then 1 else 0))) := by
  have h1 := lnE_count s.data.toList
  have h2 : s.data.toList ≠ [] ↔ s.size ≠ 0 := by
    rw [← size_len]
    cases s.data.toList <;> simp
  unfold longB
  rw [size_len]
  congr 1
  rw [Bool.eq_iff_iff, decide_eq_true_iff, decide_eq_true_iff, ← hk]
  simp only [h2] at h1
  unfold Lib.countByte
  omega
set_option maxRecDepth 20000 in
theorem isLong_any (s : ByteArray) (w : World) (hs : s.size ≤ 4294967280) :
    Calls Tryz.prog 37 #[.string s] w fun e w' => e = .returned (.bool (longB s.data.toList)) ∧ Chg [] w w' := by
  obtain ⟨k, HK⟩ := name_it (Lib.countByte s.data.toList 10)
  have HL := Lib.hid (long_eq s k HK.out)
  have hk : k ≤ s.size := by rw [← HK.out, ← size_len]; exact List.count_le_length
  obtain ⟨L, HLL⟩ := name_it (longB s.data.toList)
  rw [HLL.out] at HL ⊢
  by_cases h1 : 8192 < s.size
  · have d1 : decide (8192 < (s.size : Int)) = true := by simp; omega
    have HR : Hid (L = true) := by show _ = _; rw [HL.out, decide_eq_true h1]; rfl
    go_enter Tryz.func37, Tryz.ntmps37
    go_wp2_with fail
    go_ret
    exact ⟨ret_eq (by rw [HR.out]; rfl), Chg.refl _ _⟩
  · have d1 : decide (8192 < (s.size : Int)) = false := by simp; omega
    by_cases h0 : s.size = 0
    · have d0 : s.toList.isEmpty = true := by rw [str_emp]; simpa using h0
      have HR : Hid (L = decide ((512 : Int) < k)) := by show _ = _; rw [HL.out, decide_eq_false h1, if_neg (by simp [h0])]; simp
      go_enter Tryz.func37, Tryz.ntmps37
      go_wp2_with (go_at_call 57; refine (Tryz.strings_Count_one s 10 _).mono ?_; rintro e w3 ⟨rfl, rfl⟩; rw [HK.out])
      go_ret
      exact ⟨ret_eq (by rw [HR.out]; rfl), Chg.refl _ _⟩
    · have d0 : s.toList.isEmpty = false := by rw [str_emp]; simpa using h0
      obtain ⟨f, HF⟩ := name_it (Lib.hasSuffix s.data.toList [10])
      cases f with
      | true =>
        have HR : Hid (L = decide ((512 : Int) < k)) := by show _ = _; rw [HL.out, decide_eq_false h1, HF.out, if_neg (by simp)]; simp
        go_enter Tryz.func37, Tryz.ntmps37
        go_wp2_with (first
          | (go_at_call 57; refine (Tryz.strings_Count_one s 10 _).mono ?_; rintro e w3 ⟨rfl, rfl⟩; rw [HK.out])
          | (go_at_call 58; refine (Tryz.strings_HasSuffix s ⟨#[10]⟩ _ (by omega)).mono ?_; rintro e w3 ⟨rfl, rfl⟩; rw [show Lib.hasSuffix s.data.toList (⟨#[10]⟩ : ByteArray).data.toList = true from HF.out])
          | fail)
        go_ret
        exact ⟨ret_eq (by rw [HR.out]; rfl), Chg.refl _ _⟩
      | false =>
        have HR : Hid (L = decide ((512 : Int) < k + 1)) := by show _ = _; rw [HL.out, decide_eq_false h1, HF.out, if_pos ⟨h0, rfl⟩]; simp
        go_enter Tryz.func37, Tryz.ntmps37
        go_wp2_with (first
          | (go_at_call 57; refine (Tryz.strings_Count_one s 10 _).mono ?_; rintro e w3 ⟨rfl, rfl⟩; rw [HK.out])
          | (go_at_call 58; refine (Tryz.strings_HasSuffix s ⟨#[10]⟩ _ (by omega)).mono ?_; rintro e w3 ⟨rfl, rfl⟩; rw [show Lib.hasSuffix s.data.toList (⟨#[10]⟩ : ByteArray).data.toList = false from HF.out])
          | fail)
        go_ret
        exact ⟨ret_eq (by rw [HR.out]; rfl), Chg.refl _ _⟩
/-- Numbers of a document that are not great. -/
structure FitP (p : Pf) : Prop where
  a : fits p.am 4000
  r : fits p.rt 4000
set_option maxRecDepth 20000 in
theorem isLongNumber_any (x : Q3) (w : World) (hx : fits x 4000) :
    Calls Tryz.prog 46 #[.agg #[.bool x.neg, .string x.num, .string x.den]] w fun e w' => e = .returned (.bool false) ∧ Chg [] w w' := by
  have b1 := Blk3.alloc w (.bool x.neg) (.string x.num) (.string x.den) 25
  have hch : Chg [] w (w.alloc (.cells #[.bool x.neg, .string x.num, .string x.den] 25)) := (Chg.refl _ _).alloc _
  obtain ⟨h1, h2⟩ := hx
  have d1 : decide (8192 < (x.num.size : Int) + x.den.size) = false := by simp; omega
  have b1c0 := b1.c0
  have b1c1 := b1.c1
  have b1c2 := b1.c2
  have b1f0 := b1.f0
  have b1f1 := b1.f1
  have b1f2 := b1.f2
  have b1l := b1.lt
  go_enter Tryz.func46, Tryz.ntmps46
  go_wp2_with fail
  go_ret
  exact ⟨rfl, hch⟩
set_option maxRecDepth 20000 in
set_option maxHeartbeats 8000000 in
theorem checkOptional_any (p : Pf) (w : World) (hf : FitP p) :
    Calls Tryz.prog 33 #[.agg #[.string p.id, .int .i64 p.es, .int .i64 p.cr, .string p.cd, .bool p.am.neg, .string p.am.num, .string p.am.den, .int .i64 p.inc, .int .i64 p.rk, .bool p.rt.neg, .string p.rt.num, .string p.rt.den, .int .i64 p.rf, .int .i64 p.sec]] w fun e w' => e = .returned (.int .i64 (optE p)) ∧ Chg [] w w' := by
  have b := BlkPf.alloc w (.string p.id) (.int .i64 p.es) (.int .i64 p.cr) (.string p.cd) (.bool p.am.neg) (.string p.am.num) (.string p.am.den) (.int .i64 p.inc) (.int .i64 p.rk) (.bool p.rt.neg) (.string p.rt.num) (.string p.rt.den) (.int .i64 p.rf) (.int .i64 p.sec) 27
  have hch : Chg [] w (w.alloc (.cells #[.string p.id, .int .i64 p.es, .int .i64 p.cr, .string p.cd, .bool p.am.neg, .string p.am.num, .string p.am.den, .int .i64 p.inc, .int .i64 p.rk, .bool p.rt.neg, .string p.rt.num, .string p.rt.den, .int .i64 p.rf, .int .i64 p.sec] 27)) := (Chg.refl _ _).alloc _
  have HN := Lib.hid (Num.of_fits hf.r (by omega))
  clear hf
  obtain ⟨E, HE⟩ := name_it (optE p)
  have HEE : Hid (E = optE p) := HE.out.symm
  rw [HE.out]
  unfold optE at HEE
  obtain ⟨S, HS⟩ := name_it (sg (ratOf p.rt))
  obtain ⟨U, HU⟩ := name_it (upB p.rf 1048576)
  obtain ⟨V, HV⟩ := name_it (upB p.sec 7)
  rw [HS.out, HU.out, HV.out] at HEE
  by_cases h1 : S < 0
  · have HR : Hid (E = 7) := by show _ = _; rw [HEE.out, if_pos h1]
    have d1 := decide_eq_true h1
    clear h1
    go_enter Tryz.func33, Tryz.ntmps33
    have k0 := b.c0
    have k1 := b.c1
    have k2 := b.c2
    have k3 := b.c3
    have k4 := b.c4
    have k5 := b.c5
    have k6 := b.c6
    have k7 := b.c7
    have k8 := b.c8
    have k9 := b.c9
    have k10 := b.c10
    have k11 := b.c11
    have k12 := b.c12
    have k13 := b.c13
    have kl := b.lt
    go_wp2_with (first
      | (go_at_call 32; refine (SignN p.rt (ratOf p.rt) 4000 _ HN.out (by omega)).mono ?_; rintro e w3 ⟨rfl, c3⟩; rw [HS.out]; replace b := b.keep c3 (by simp); replace hch := hch.then c3; clear c3; have k0 := b.c0; have k1 := b.c1; have k2 := b.c2; have k3 := b.c3; have k4 := b.c4; have k5 := b.c5; have k6 := b.c6; have k7 := b.c7; have k8 := b.c8; have k9 := b.c9; have k10 := b.c10; have k11 := b.c11; have k12 := b.c12; have k13 := b.c13; have kl := b.lt)
      | fail)
    go_ret
    exact ⟨ret_eq (by rw [HR.out]; rfl), hch⟩
  · have N1 := Lib.hid h1
    have d1 := decide_eq_false h1
    clear h1
    cases U with
    | false =>
      have HR : Hid (E = 1) := by show _ = _; rw [HEE.out, if_neg N1.out, if_pos (.inl rfl)]
      go_enter Tryz.func33, Tryz.ntmps33
      have k0 := b.c0
      have k1 := b.c1
      have k2 := b.c2
      have k3 := b.c3
      have k4 := b.c4
      have k5 := b.c5
      have k6 := b.c6
      have k7 := b.c7
      have k8 := b.c8
      have k9 := b.c9
      have k10 := b.c10
      have k11 := b.c11
      have k12 := b.c12
      have k13 := b.c13
      have kl := b.lt
      go_wp2_with (first
        | (go_at_call 32; refine (SignN p.rt (ratOf p.rt) 4000 _ HN.out (by omega)).mono ?_; rintro e w3 ⟨rfl, c3⟩; rw [HS.out]; replace b := b.keep c3 (by simp); replace hch := hch.then c3; clear c3; have k0 := b.c0; have k1 := b.c1; have k2 := b.c2; have k3 := b.c3; have k4 := b.c4; have k5 := b.c5; have k6 := b.c6; have k7 := b.c7; have k8 := b.c8; have k9 := b.c9; have k10 := b.c10; have k11 := b.c11; have k12 := b.c12; have k13 := b.c13; have kl := b.lt)
        | (go_at_call 30; refine (isUpTo_any _ _ _).mono ?_; rintro e w3 ⟨rfl, rfl⟩; first | rw [HU.out])
        | fail)
      go_ret
      exact ⟨ret_eq (by rw [HR.out]; rfl), hch⟩
    | true =>
      by_cases h2 : S = 0
      · have d2 : (S == 0) = true := by simpa using h2
        by_cases h3 : p.rf = 0
        · have d3 : (p.rf != 0) = false := by simpa using h3
          have HEF : Hid (E = if p.sec ≠ -1 ∧ V = false then 1 else 0) := by show _ = _; rw [HEE.out, if_neg N1.out, if_neg (by simp [h3])]
          clear h2 h3
          by_cases h4 : p.sec = -1
          · have d4 : (p.sec != -1) = false := by simpa using h4
            have HR : Hid (E = 0) := by show _ = _; rw [HEF.out, if_neg (by simp [h4])]
            clear h4
            go_enter Tryz.func33, Tryz.ntmps33
            have k0 := b.c0
            have k1 := b.c1
            have k2 := b.c2
            have k3 := b.c3
            have k4 := b.c4
            have k5 := b.c5
            have k6 := b.c6
            have k7 := b.c7
            have k8 := b.c8
            have k9 := b.c9
            have k10 := b.c10
            have k11 := b.c11
            have k12 := b.c12
            have k13 := b.c13
            have kl := b.lt
            go_wp2_with (first
              | (go_at_call 32; refine (SignN p.rt (ratOf p.rt) 4000 _ HN.out (by omega)).mono ?_; rintro e w3 ⟨rfl, c3⟩; rw [HS.out]; replace b := b.keep c3 (by simp); replace hch := hch.then c3; clear c3; have k0 := b.c0; have k1 := b.c1; have k2 := b.c2; have k3 := b.c3; have k4 := b.c4; have k5 := b.c5; have k6 := b.c6; have k7 := b.c7; have k8 := b.c8; have k9 := b.c9; have k10 := b.c10; have k11 := b.c11; have k12 := b.c12; have k13 := b.c13; have kl := b.lt)
              | (go_at_call 30; refine (isUpTo_any _ _ _).mono ?_; rintro e w3 ⟨rfl, rfl⟩; first | rw [HU.out])
              | fail)
            go_ret
            exact ⟨ret_eq (by rw [HR.out]; rfl), hch⟩
          · have d4 : (p.sec != -1) = true := by simpa using h4
            cases V with
            | false =>
              have HR : Hid (E = 1) := by show _ = _; rw [HEF.out, if_pos ⟨h4, rfl⟩]
              clear h4
              go_enter Tryz.func33, Tryz.ntmps33
              have k0 := b.c0
              have k1 := b.c1
              have k2 := b.c2
              have k3 := b.c3
              have k4 := b.c4
              have k5 := b.c5
              have k6 := b.c6
              have k7 := b.c7
              have k8 := b.c8
              have k9 := b.c9
              have k10 := b.c10
              have k11 := b.c11
              have k12 := b.c12
              have k13 := b.c13
              have kl := b.lt
              go_wp2_with (first
                | (go_at_call 32; refine (SignN p.rt (ratOf p.rt) 4000 _ HN.out (by omega)).mono ?_; rintro e w3 ⟨rfl, c3⟩; rw [HS.out]; replace b := b.keep c3 (by simp); replace hch := hch.then c3; clear c3; have k0 := b.c0; have k1 := b.c1; have k2 := b.c2; have k3 := b.c3; have k4 := b.c4; have k5 := b.c5; have k6 := b.c6; have k7 := b.c7; have k8 := b.c8; have k9 := b.c9; have k10 := b.c10; have k11 := b.c11; have k12 := b.c12; have k13 := b.c13; have kl := b.lt)
                | (go_at_call 30; refine (isUpTo_any _ _ _).mono ?_; rintro e w3 ⟨rfl, rfl⟩; first | rw [HU.out] | rw [HV.out])
                | fail)
              go_ret
              exact ⟨ret_eq (by rw [HR.out]; rfl), hch⟩
            | true =>
              have HR : Hid (E = 0) := by show _ = _; rw [HEF.out, if_neg (by simp)]
              clear h4
              go_enter Tryz.func33, Tryz.ntmps33
              have k0 := b.c0
              have k1 := b.c1
              have k2 := b.c2
              have k3 := b.c3
              have k4 := b.c4
              have k5 := b.c5
              have k6 := b.c6
              have k7 := b.c7
              have k8 := b.c8
              have k9 := b.c9
              have k10 := b.c10
              have k11 := b.c11
              have k12 := b.c12
              have k13 := b.c13
              have kl := b.lt
              go_wp2_with (first
                | (go_at_call 32; refine (SignN p.rt (ratOf p.rt) 4000 _ HN.out (by omega)).mono ?_; rintro e w3 ⟨rfl, c3⟩; rw [HS.out]; replace b := b.keep c3 (by simp); replace hch := hch.then c3; clear c3; have k0 := b.c0; have k1 := b.c1; have k2 := b.c2; have k3 := b.c3; have k4 := b.c4; have k5 := b.c5; have k6 := b.c6; have k7 := b.c7; have k8 := b.c8; have k9 := b.c9; have k10 := b.c10; have k11 := b.c11; have k12 := b.c12; have k13 := b.c13; have kl := b.lt)
                | (go_at_call 30; refine (isUpTo_any _ _ _).mono ?_; rintro e w3 ⟨rfl, rfl⟩; first | rw [HU.out] | rw [HV.out])
                | fail)
              go_ret
              exact ⟨ret_eq (by rw [HR.out]; rfl), hch⟩
        · have d3 : (p.rf != 0) = true := by simpa using h3
          have HR : Hid (E = 1) := by show _ = _; rw [HEE.out, if_neg N1.out, if_pos (.inr ⟨h2, h3⟩)]
          clear h2 h3
          go_enter Tryz.func33, Tryz.ntmps33
          have k0 := b.c0
          have k1 := b.c1
          have k2 := b.c2
          have k3 := b.c3
          have k4 := b.c4
          have k5 := b.c5
          have k6 := b.c6
          have k7 := b.c7
          have k8 := b.c8
          have k9 := b.c9
          have k10 := b.c10
          have k11 := b.c11
          have k12 := b.c12
          have k13 := b.c13
          have kl := b.lt
          go_wp2_with (first
            | (go_at_call 32; refine (SignN p.rt (ratOf p.rt) 4000 _ HN.out (by omega)).mono ?_; rintro e w3 ⟨rfl, c3⟩; rw [HS.out]; replace b := b.keep c3 (by simp); replace hch := hch.then c3; clear c3; have k0 := b.c0; have k1 := b.c1; have k2 := b.c2; have k3 := b.c3; have k4 := b.c4; have k5 := b.c5; have k6 := b.c6; have k7 := b.c7; have k8 := b.c8; have k9 := b.c9; have k10 := b.c10; have k11 := b.c11; have k12 := b.c12; have k13 := b.c13; have kl := b.lt)
            | (go_at_call 30; refine (isUpTo_any _ _ _).mono ?_; rintro e w3 ⟨rfl, rfl⟩; first | rw [HU.out])
            | fail)
          go_ret
          exact ⟨ret_eq (by rw [HR.out]; rfl), hch⟩
      · have d2 : (S == 0) = false := by simpa using h2
        have HEF : Hid (E = if p.sec ≠ -1 ∧ V = false then 1 else 0) := by show _ = _; rw [HEE.out, if_neg N1.out, if_neg (by simp [h2])]
        clear h2
        by_cases h4 : p.sec = -1
        · have d4 : (p.sec != -1) = false := by simpa using h4
          have HR : Hid (E = 0) := by show _ = _; rw [HEF.out, if_neg (by simp [h4])]
          clear h4
          go_enter Tryz.func33, Tryz.ntmps33
          have k0 := b.c0
          have k1 := b.c1
          have k2 := b.c2
          have k3 := b.c3
          have k4 := b.c4
          have k5 := b.c5
          have k6 := b.c6
          have k7 := b.c7
          have k8 := b.c8
          have k9 := b.c9
          have k10 := b.c10
          have k11 := b.c11
          have k12 := b.c12
          have k13 := b.c13
          have kl := b.lt
          go_wp2_with (first
            | (go_at_call 32; refine (SignN p.rt (ratOf p.rt) 4000 _ HN.out (by omega)).mono ?_; rintro e w3 ⟨rfl, c3⟩; rw [HS.out]; replace b := b.keep c3 (by simp); replace hch := hch.then c3; clear c3; have k0 := b.c0; have k1 := b.c1; have k2 := b.c2; have k3 := b.c3; have k4 := b.c4; have k5 := b.c5; have k6 := b.c6; have k7 := b.c7; have k8 := b.c8; have k9 := b.c9; have k10 := b.c10; have k11 := b.c11; have k12 := b.c12; have k13 := b.c13; have kl := b.lt)
            | (go_at_call 30; refine (isUpTo_any _ _ _).mono ?_; rintro e w3 ⟨rfl, rfl⟩; first | rw [HU.out])
            | fail)
          go_ret
          exact ⟨ret_eq (by rw [HR.out]; rfl), hch⟩
        · have d4 : (p.sec != -1) = true := by simpa using h4
          cases V with
          | false =>
            have HR : Hid (E = 1) := by show _ = _; rw [HEF.out, if_pos ⟨h4, rfl⟩]
            clear h4
            go_enter Tryz.func33, Tryz.ntmps33
            have k0 := b.c0
            have k1 := b.c1
            have k2 := b.c2
            have k3 := b.c3
            have k4 := b.c4
            have k5 := b.c5
            have k6 := b.c6
            have k7 := b.c7
            have k8 := b.c8
            have k9 := b.c9
            have k10 := b.c10
            have k11 := b.c11
            have k12 := b.c12
            have k13 := b.c13
            have kl := b.lt
            go_wp2_with (first
              | (go_at_call 32; refine (SignN p.rt (ratOf p.rt) 4000 _ HN.out (by omega)).mono ?_; rintro e w3 ⟨rfl, c3⟩; rw [HS.out]; replace b := b.keep c3 (by simp); replace hch := hch.then c3; clear c3; have k0 := b.c0; have k1 := b.c1; have k2 := b.c2; have k3 := b.c3; have k4 := b.c4; have k5 := b.c5; have k6 := b.c6; have k7 := b.c7; have k8 := b.c8; have k9 := b.c9; have k10 := b.c10; have k11 := b.c11; have k12 := b.c12; have k13 := b.c13; have kl := b.lt)
              | (go_at_call 30; refine (isUpTo_any _ _ _).mono ?_; rintro e w3 ⟨rfl, rfl⟩; first | rw [HU.out] | rw [HV.out])
              | fail)
            go_ret
            exact ⟨ret_eq (by rw [HR.out]; rfl), hch⟩
          | true =>
            have HR : Hid (E = 0) := by show _ = _; rw [HEF.out, if_neg (by simp)]
            clear h4
            go_enter Tryz.func33, Tryz.ntmps33
            have k0 := b.c0
            have k1 := b.c1
            have k2 := b.c2
            have k3 := b.c3
            have k4 := b.c4
            have k5 := b.c5
            have k6 := b.c6
            have k7 := b.c7
            have k8 := b.c8
            have k9 := b.c9
            have k10 := b.c10
            have k11 := b.c11
            have k12 := b.c12
            have k13 := b.c13
            have kl := b.lt
            go_wp2_with (first
              | (go_at_call 32; refine (SignN p.rt (ratOf p.rt) 4000 _ HN.out (by omega)).mono ?_; rintro e w3 ⟨rfl, c3⟩; rw [HS.out]; replace b := b.keep c3 (by simp); replace hch := hch.then c3; clear c3; have k0 := b.c0; have k1 := b.c1; have k2 := b.c2; have k3 := b.c3; have k4 := b.c4; have k5 := b.c5; have k6 := b.c6; have k7 := b.c7; have k8 := b.c8; have k9 := b.c9; have k10 := b.c10; have k11 := b.c11; have k12 := b.c12; have k13 := b.c13; have kl := b.lt)
              | (go_at_call 30; refine (isUpTo_any _ _ _).mono ?_; rintro e w3 ⟨rfl, rfl⟩; first | rw [HU.out] | rw [HV.out])
              | fail)
            go_ret
            exact ⟨ret_eq (by rw [HR.out]; rfl), hch⟩
set_option maxRecDepth 20000 in
set_option maxHeartbeats 8000000 in
theorem Check_any (p : Pf) (w : World) (hf : FitP p) :
    Calls Tryz.prog 15 #[.agg #[.string p.id, .int .i64 p.es, .int .i64 p.cr, .string p.cd, .bool p.am.neg, .string p.am.num, .string p.am.den, .int .i64 p.inc, .int .i64 p.rk, .bool p.rt.neg, .string p.rt.num, .string p.rt.den, .int .i64 p.rf, .int .i64 p.sec]] w fun e w' => e = .returned (.int .i64 (chkE p)) ∧ Chg [] w w' := by
  have b := BlkPf.alloc w (.string p.id) (.int .i64 p.es) (.int .i64 p.cr) (.string p.cd) (.bool p.am.neg) (.string p.am.num) (.string p.am.den) (.int .i64 p.inc) (.int .i64 p.rk) (.bool p.rt.neg) (.string p.rt.num) (.string p.rt.den) (.int .i64 p.rf) (.int .i64 p.sec) 27
  have hch : Chg [] w (w.alloc (.cells #[.string p.id, .int .i64 p.es, .int .i64 p.cr, .string p.cd, .bool p.am.neg, .string p.am.num, .string p.am.den, .int .i64 p.inc, .int .i64 p.rk, .bool p.rt.neg, .string p.rt.num, .string p.rt.den, .int .i64 p.rf, .int .i64 p.sec] 27)) := (Chg.refl _ _).alloc _
  have HN := Lib.hid (Num.of_fits hf.a (by omega))
  have HFF := Lib.hid hf
  clear hf
  obtain ⟨E, HE⟩ := name_it (chkE p)
  have HEE : Hid (E = chkE p) := HE.out.symm
  rw [HE.out]
  unfold chkE at HEE
  obtain ⟨a1, H1⟩ := name_it (nameB p.id)
  obtain ⟨a2, H2⟩ := name_it (upB p.es 7)
  obtain ⟨a3, H3⟩ := name_it (upB p.cr 31)
  obtain ⟨a4, H4⟩ := name_it (codeB p.cd)
  obtain ⟨S, HS⟩ := name_it (sg (ratOf p.am))
  obtain ⟨a5, H5⟩ := name_it (upB p.inc 1048576)
  obtain ⟨a6, H6⟩ := name_it (upB p.rk 7)
  obtain ⟨O, HO⟩ := name_it (optE p)
  rw [H1.out, H2.out, H3.out, H4.out, HS.out, H5.out, H6.out, HO.out] at HEE
  cases a1 with
  | false =>
    have HR : Hid (E = 11) := by show _ = _; rw [HEE.out]; simp
    go_enter Tryz.func15, Tryz.ntmps15
    have k0 := b.c0
    have k1 := b.c1
    have k2 := b.c2
    have k3 := b.c3
    have k4 := b.c4
    have k5 := b.c5
    have k6 := b.c6
    have k7 := b.c7
    have k8 := b.c8
    have k9 := b.c9
    have k10 := b.c10
    have k11 := b.c11
    have k12 := b.c12
    have k13 := b.c13
    have kl := b.lt
    go_wp2_with (first
      | (go_at_call 12; refine (isName_any p.id _).mono ?_; rintro e w3 ⟨rfl, c3⟩; rw [H1.out]; replace b := b.keep c3 (by simp); replace hch := hch.then c3; clear c3; have k0 := b.c0; have k1 := b.c1; have k2 := b.c2; have k3 := b.c3; have k4 := b.c4; have k5 := b.c5; have k6 := b.c6; have k7 := b.c7; have k8 := b.c8; have k9 := b.c9; have k10 := b.c10; have k11 := b.c11; have k12 := b.c12; have k13 := b.c13; have kl := b.lt)
      | fail)
    go_ret
    exact ⟨ret_eq (by rw [HR.out]; rfl), hch⟩
  | true =>
    cases a2 with
    | false =>
      have HR : Hid (E = 1) := by show _ = _; rw [HEE.out]; simp
      go_enter Tryz.func15, Tryz.ntmps15
      have k0 := b.c0
      have k1 := b.c1
      have k2 := b.c2
      have k3 := b.c3
      have k4 := b.c4
      have k5 := b.c5
      have k6 := b.c6
      have k7 := b.c7
      have k8 := b.c8
      have k9 := b.c9
      have k10 := b.c10
      have k11 := b.c11
      have k12 := b.c12
      have k13 := b.c13
      have kl := b.lt
      go_wp2_with (first
        | (go_at_call 12; refine (isName_any p.id _).mono ?_; rintro e w3 ⟨rfl, c3⟩; rw [H1.out]; replace b := b.keep c3 (by simp); replace hch := hch.then c3; clear c3; have k0 := b.c0; have k1 := b.c1; have k2 := b.c2; have k3 := b.c3; have k4 := b.c4; have k5 := b.c5; have k6 := b.c6; have k7 := b.c7; have k8 := b.c8; have k9 := b.c9; have k10 := b.c10; have k11 := b.c11; have k12 := b.c12; have k13 := b.c13; have kl := b.lt)
        | (go_at_call 30; refine (isUpTo_any _ _ _).mono ?_; rintro e w3 ⟨rfl, rfl⟩; first | rw [H2.out])
        | fail)
      go_ret
      exact ⟨ret_eq (by rw [HR.out]; rfl), hch⟩
    | true =>
      cases a3 with
      | false =>
        have HR : Hid (E = 1) := by show _ = _; rw [HEE.out]; simp
        go_enter Tryz.func15, Tryz.ntmps15
        have k0 := b.c0
        have k1 := b.c1
        have k2 := b.c2
        have k3 := b.c3
        have k4 := b.c4
        have k5 := b.c5
        have k6 := b.c6
        have k7 := b.c7
        have k8 := b.c8
        have k9 := b.c9
        have k10 := b.c10
        have k11 := b.c11
        have k12 := b.c12
        have k13 := b.c13
        have kl := b.lt
        go_wp2_with (first
          | (go_at_call 12; refine (isName_any p.id _).mono ?_; rintro e w3 ⟨rfl, c3⟩; rw [H1.out]; replace b := b.keep c3 (by simp); replace hch := hch.then c3; clear c3; have k0 := b.c0; have k1 := b.c1; have k2 := b.c2; have k3 := b.c3; have k4 := b.c4; have k5 := b.c5; have k6 := b.c6; have k7 := b.c7; have k8 := b.c8; have k9 := b.c9; have k10 := b.c10; have k11 := b.c11; have k12 := b.c12; have k13 := b.c13; have kl := b.lt)
          | (go_at_call 30; refine (isUpTo_any _ _ _).mono ?_; rintro e w3 ⟨rfl, rfl⟩; first | rw [H2.out] | rw [H3.out])
          | fail)
        go_ret
        exact ⟨ret_eq (by rw [HR.out]; rfl), hch⟩
      | true =>
        cases a4 with
        | false =>
          have HR : Hid (E = 8) := by show _ = _; rw [HEE.out]; simp
          go_enter Tryz.func15, Tryz.ntmps15
          have k0 := b.c0
          have k1 := b.c1
          have k2 := b.c2
          have k3 := b.c3
          have k4 := b.c4
          have k5 := b.c5
          have k6 := b.c6
          have k7 := b.c7
          have k8 := b.c8
          have k9 := b.c9
          have k10 := b.c10
          have k11 := b.c11
          have k12 := b.c12
          have k13 := b.c13
          have kl := b.lt
          go_wp2_with (first
            | (go_at_call 12; refine (isName_any p.id _).mono ?_; rintro e w3 ⟨rfl, c3⟩; rw [H1.out]; replace b := b.keep c3 (by simp); replace hch := hch.then c3; clear c3; have k0 := b.c0; have k1 := b.c1; have k2 := b.c2; have k3 := b.c3; have k4 := b.c4; have k5 := b.c5; have k6 := b.c6; have k7 := b.c7; have k8 := b.c8; have k9 := b.c9; have k10 := b.c10; have k11 := b.c11; have k12 := b.c12; have k13 := b.c13; have kl := b.lt)
            | (go_at_call 30; refine (isUpTo_any _ _ _).mono ?_; rintro e w3 ⟨rfl, rfl⟩; first | rw [H2.out] | rw [H3.out])
            | (go_at_call 31; refine (isCode_any p.cd _).mono ?_; rintro e w3 ⟨rfl, c3⟩; rw [H4.out]; replace b := b.keep c3 (by simp); replace hch := hch.then c3; clear c3; have k0 := b.c0; have k1 := b.c1; have k2 := b.c2; have k3 := b.c3; have k4 := b.c4; have k5 := b.c5; have k6 := b.c6; have k7 := b.c7; have k8 := b.c8; have k9 := b.c9; have k10 := b.c10; have k11 := b.c11; have k12 := b.c12; have k13 := b.c13; have kl := b.lt)
            | fail)
          go_ret
          exact ⟨ret_eq (by rw [HR.out]; rfl), hch⟩
        | true =>
          by_cases h1 : S < 0
          · have HR : Hid (E = 7) := by show _ = _; rw [HEE.out]; simp [h1]
            have d1 := decide_eq_true h1
            clear h1
            go_enter Tryz.func15, Tryz.ntmps15
            have k0 := b.c0
            have k1 := b.c1
            have k2 := b.c2
            have k3 := b.c3
            have k4 := b.c4
            have k5 := b.c5
            have k6 := b.c6
            have k7 := b.c7
            have k8 := b.c8
            have k9 := b.c9
            have k10 := b.c10
            have k11 := b.c11
            have k12 := b.c12
            have k13 := b.c13
            have kl := b.lt
            go_wp2_with (first
              | (go_at_call 12; refine (isName_any p.id _).mono ?_; rintro e w3 ⟨rfl, c3⟩; rw [H1.out]; replace b := b.keep c3 (by simp); replace hch := hch.then c3; clear c3; have k0 := b.c0; have k1 := b.c1; have k2 := b.c2; have k3 := b.c3; have k4 := b.c4; have k5 := b.c5; have k6 := b.c6; have k7 := b.c7; have k8 := b.c8; have k9 := b.c9; have k10 := b.c10; have k11 := b.c11; have k12 := b.c12; have k13 := b.c13; have kl := b.lt)
              | (go_at_call 30; refine (isUpTo_any _ _ _).mono ?_; rintro e w3 ⟨rfl, rfl⟩; first | rw [H2.out] | rw [H3.out])
              | (go_at_call 31; refine (isCode_any p.cd _).mono ?_; rintro e w3 ⟨rfl, c3⟩; rw [H4.out]; replace b := b.keep c3 (by simp); replace hch := hch.then c3; clear c3; have k0 := b.c0; have k1 := b.c1; have k2 := b.c2; have k3 := b.c3; have k4 := b.c4; have k5 := b.c5; have k6 := b.c6; have k7 := b.c7; have k8 := b.c8; have k9 := b.c9; have k10 := b.c10; have k11 := b.c11; have k12 := b.c12; have k13 := b.c13; have kl := b.lt)
              | (go_at_call 32; refine (SignN p.am (ratOf p.am) 4000 _ HN.out (by omega)).mono ?_; rintro e w3 ⟨rfl, c3⟩; rw [HS.out]; replace b := b.keep c3 (by simp); replace hch := hch.then c3; clear c3; have k0 := b.c0; have k1 := b.c1; have k2 := b.c2; have k3 := b.c3; have k4 := b.c4; have k5 := b.c5; have k6 := b.c6; have k7 := b.c7; have k8 := b.c8; have k9 := b.c9; have k10 := b.c10; have k11 := b.c11; have k12 := b.c12; have k13 := b.c13; have kl := b.lt)
              | fail)
            go_ret
            exact ⟨ret_eq (by rw [HR.out]; rfl), hch⟩
          · have d1 := decide_eq_false h1
            cases a5 with
            | false =>
              have HR : Hid (E = 1) := by show _ = _; rw [HEE.out]; simp [h1]
              clear h1
              go_enter Tryz.func15, Tryz.ntmps15
              have k0 := b.c0
              have k1 := b.c1
              have k2 := b.c2
              have k3 := b.c3
              have k4 := b.c4
              have k5 := b.c5
              have k6 := b.c6
              have k7 := b.c7
              have k8 := b.c8
              have k9 := b.c9
              have k10 := b.c10
              have k11 := b.c11
              have k12 := b.c12
              have k13 := b.c13
              have kl := b.lt
              go_wp2_with (first
                | (go_at_call 12; refine (isName_any p.id _).mono ?_; rintro e w3 ⟨rfl, c3⟩; rw [H1.out]; replace b := b.keep c3 (by simp); replace hch := hch.then c3; clear c3; have k0 := b.c0; have k1 := b.c1; have k2 := b.c2; have k3 := b.c3; have k4 := b.c4; have k5 := b.c5; have k6 := b.c6; have k7 := b.c7; have k8 := b.c8; have k9 := b.c9; have k10 := b.c10; have k11 := b.c11; have k12 := b.c12; have k13 := b.c13; have kl := b.lt)
                | (go_at_call 30; refine (isUpTo_any _ _ _).mono ?_; rintro e w3 ⟨rfl, rfl⟩; first | rw [H2.out] | rw [H3.out] | rw [H5.out])
                | (go_at_call 31; refine (isCode_any p.cd _).mono ?_; rintro e w3 ⟨rfl, c3⟩; rw [H4.out]; replace b := b.keep c3 (by simp); replace hch := hch.then c3; clear c3; have k0 := b.c0; have k1 := b.c1; have k2 := b.c2; have k3 := b.c3; have k4 := b.c4; have k5 := b.c5; have k6 := b.c6; have k7 := b.c7; have k8 := b.c8; have k9 := b.c9; have k10 := b.c10; have k11 := b.c11; have k12 := b.c12; have k13 := b.c13; have kl := b.lt)
                | (go_at_call 32; refine (SignN p.am (ratOf p.am) 4000 _ HN.out (by omega)).mono ?_; rintro e w3 ⟨rfl, c3⟩; rw [HS.out]; replace b := b.keep c3 (by simp); replace hch := hch.then c3; clear c3; have k0 := b.c0; have k1 := b.c1; have k2 := b.c2; have k3 := b.c3; have k4 := b.c4; have k5 := b.c5; have k6 := b.c6; have k7 := b.c7; have k8 := b.c8; have k9 := b.c9; have k10 := b.c10; have k11 := b.c11; have k12 := b.c12; have k13 := b.c13; have kl := b.lt)
                | fail)
              go_ret
              exact ⟨ret_eq (by rw [HR.out]; rfl), hch⟩
            | true =>
              cases a6 with
              | false =>
                have HR : Hid (E = 1) := by show _ = _; rw [HEE.out]; simp [h1]
                clear h1
                go_enter Tryz.func15, Tryz.ntmps15
                have k0 := b.c0
                have k1 := b.c1
                have k2 := b.c2
                have k3 := b.c3
                have k4 := b.c4
                have k5 := b.c5
                have k6 := b.c6
                have k7 := b.c7
                have k8 := b.c8
                have k9 := b.c9
                have k10 := b.c10
                have k11 := b.c11
                have k12 := b.c12
                have k13 := b.c13
                have kl := b.lt
                go_wp2_with (first
                  | (go_at_call 12; refine (isName_any p.id _).mono ?_; rintro e w3 ⟨rfl, c3⟩; rw [H1.out]; replace b := b.keep c3 (by simp); replace hch := hch.then c3; clear c3; have k0 := b.c0; have k1 := b.c1; have k2 := b.c2; have k3 := b.c3; have k4 := b.c4; have k5 := b.c5; have k6 := b.c6; have k7 := b.c7; have k8 := b.c8; have k9 := b.c9; have k10 := b.c10; have k11 := b.c11; have k12 := b.c12; have k13 := b.c13; have kl := b.lt)
                  | (go_at_call 30; refine (isUpTo_any _ _ _).mono ?_; rintro e w3 ⟨rfl, rfl⟩; first | rw [H2.out] | rw [H3.out] | rw [H5.out] | rw [H6.out])
                  | (go_at_call 31; refine (isCode_any p.cd _).mono ?_; rintro e w3 ⟨rfl, c3⟩; rw [H4.out]; replace b := b.keep c3 (by simp); replace hch := hch.then c3; clear c3; have k0 := b.c0; have k1 := b.c1; have k2 := b.c2; have k3 := b.c3; have k4 := b.c4; have k5 := b.c5; have k6 := b.c6; have k7 := b.c7; have k8 := b.c8; have k9 := b.c9; have k10 := b.c10; have k11 := b.c11; have k12 := b.c12; have k13 := b.c13; have kl := b.lt)
                  | (go_at_call 32; refine (SignN p.am (ratOf p.am) 4000 _ HN.out (by omega)).mono ?_; rintro e w3 ⟨rfl, c3⟩; rw [HS.out]; replace b := b.keep c3 (by simp); replace hch := hch.then c3; clear c3; have k0 := b.c0; have k1 := b.c1; have k2 := b.c2; have k3 := b.c3; have k4 := b.c4; have k5 := b.c5; have k6 := b.c6; have k7 := b.c7; have k8 := b.c8; have k9 := b.c9; have k10 := b.c10; have k11 := b.c11; have k12 := b.c12; have k13 := b.c13; have kl := b.lt)
                  | fail)
                go_ret
                exact ⟨ret_eq (by rw [HR.out]; rfl), hch⟩
              | true =>
                have HR : Hid (E = O) := by show _ = _; rw [HEE.out]; simp [h1]
                clear h1
                go_enter Tryz.func15, Tryz.ntmps15
                have k0 := b.c0
                have k1 := b.c1
                have k2 := b.c2
                have k3 := b.c3
                have k4 := b.c4
                have k5 := b.c5
                have k6 := b.c6
                have k7 := b.c7
                have k8 := b.c8
                have k9 := b.c9
                have k10 := b.c10
                have k11 := b.c11
                have k12 := b.c12
                have k13 := b.c13
                have kl := b.lt
                go_wp2_with (first
                  | (go_at_call 12; refine (isName_any p.id _).mono ?_; rintro e w3 ⟨rfl, c3⟩; rw [H1.out]; replace b := b.keep c3 (by simp); replace hch := hch.then c3; clear c3; have k0 := b.c0; have k1 := b.c1; have k2 := b.c2; have k3 := b.c3; have k4 := b.c4; have k5 := b.c5; have k6 := b.c6; have k7 := b.c7; have k8 := b.c8; have k9 := b.c9; have k10 := b.c10; have k11 := b.c11; have k12 := b.c12; have k13 := b.c13; have kl := b.lt)
                  | (go_at_call 30; refine (isUpTo_any _ _ _).mono ?_; rintro e w3 ⟨rfl, rfl⟩; first | rw [H2.out] | rw [H3.out] | rw [H5.out] | rw [H6.out])
                  | (go_at_call 31; refine (isCode_any p.cd _).mono ?_; rintro e w3 ⟨rfl, c3⟩; rw [H4.out]; replace b := b.keep c3 (by simp); replace hch := hch.then c3; clear c3; have k0 := b.c0; have k1 := b.c1; have k2 := b.c2; have k3 := b.c3; have k4 := b.c4; have k5 := b.c5; have k6 := b.c6; have k7 := b.c7; have k8 := b.c8; have k9 := b.c9; have k10 := b.c10; have k11 := b.c11; have k12 := b.c12; have k13 := b.c13; have kl := b.lt)
                  | (go_at_call 32; refine (SignN p.am (ratOf p.am) 4000 _ HN.out (by omega)).mono ?_; rintro e w3 ⟨rfl, c3⟩; rw [HS.out]; replace b := b.keep c3 (by simp); replace hch := hch.then c3; clear c3; have k0 := b.c0; have k1 := b.c1; have k2 := b.c2; have k3 := b.c3; have k4 := b.c4; have k5 := b.c5; have k6 := b.c6; have k7 := b.c7; have k8 := b.c8; have k9 := b.c9; have k10 := b.c10; have k11 := b.c11; have k12 := b.c12; have k13 := b.c13; have kl := b.lt)
                  | (go_at_call 33; refine (checkOptional_any p _ HFF.out).mono ?_; rintro e w3 ⟨rfl, c3⟩; rw [HO.out]; replace b := b.keep c3 (by simp); replace hch := hch.then c3; clear c3; have k0 := b.c0; have k1 := b.c1; have k2 := b.c2; have k3 := b.c3; have k4 := b.c4; have k5 := b.c5; have k6 := b.c6; have k7 := b.c7; have k8 := b.c8; have k9 := b.c9; have k10 := b.c10; have k11 := b.c11; have k12 := b.c12; have k13 := b.c13; have kl := b.lt)
                  | fail)
                go_ret
                exact ⟨ret_eq (by rw [HR.out]; rfl), hch⟩
end Go.Proofs.YtogciehmdlfkfaaGreatDoor

/- Part DX10. -/

namespace Go.Proofs.YtogciehmdlfkfaaGreatDoor
open Go.RowKit Nd

theorem ba_eta0 (x : ByteArray) : (⟨x.data.toList.toArray⟩ : ByteArray) = x := by simp
theorem readL_cons (x : ByteArray) (e : Bool) (t : List (List UInt8 × Bool)) (r : Rdr) (n : Int) : readL ((x.data.toList, e) :: t) r n = if lineE r x e ≠ 0 then ([], n + 1, lineE r x e) else readL t (lineR r x) (n + 1) := by
  rw [readL, ba_eta0]
theorem line_l1 {r : Rdr} {x : ByteArray} {e : Bool} (h : lineE r x e = 0) (h1 : r.k ≠ -1 → 1 ≤ r.l.length) : 1 ≤ (lineR r x).l.length := by
  unfold lineE at h
  split at h
  · cases h
  · rename_i hn
    unfold lineR
    split
    · simp
    · rename_i h0
      simp only [not_or] at hn
      obtain ⟨_, hk, hf⟩ := hn
      have hr := kindW_range (wordsB x)
      have := h1 (fol_ne (k := kindW (wordsB x)) (by simpa using hf) (by omega))
      simpa using this
/-- What Parse answers. -/
structure ParsePo (w : World) (R : List Pf × Int × Int) (e : Ending) (w' : World) : Prop where
  out : ∃ A cap, e = .returned (.tuple #[.slice A R.1.length cap, .int .i64 R.2.1, .int .i64 R.2.2]) ∧ R.1.length ≤ cap ∧ cap ≤ 9223372036854775807 ∧ SPf w' A R.1 ∧ Chg [] w w'
theorem ParsePo.err {w w' : World} {R : List Pf × Int × Int} {e : Ending} {n k : Int} (hR : R = ([], n, k)) (he : e = .returned (.tuple #[.slice none 0 0, .int .i64 n, .int .i64 k])) (hc : Chg [] w w') : ParsePo w R e w' := by
  subst hR
  exact ⟨none, 0, he, Nat.le_refl _, by omega, SPf.nil _ _, hc⟩
set_option maxRecDepth 20000 in
set_option maxHeartbeats 4000000 in
theorem pParse_any (s : ByteArray) (w : World) (hgl : Gl w) (hs : s.size ≤ 4294967280) :
    Calls Tryz.prog 17 #[.string s] w (ParsePo w (parseT s.data.toList)) := by
  obtain ⟨R, HR⟩ := name_it (parseT s.data.toList)
  have HRR : Hid (R = parseT s.data.toList) := HR.out.symm
  rw [HR.out]
  unfold parseT at HRR
  obtain ⟨b, HB⟩ := name_it (longB s.data.toList)
  rw [HB.out] at HRR
  have HGL := Lib.hid hgl
  have h9 := hgl.lt
  clear hgl HR
  cases b with
  | true =>
    have hR : Hid (R = ([], 0, 2)) := by show _ = _; rw [HRR.out, if_pos rfl]
    clear HRR
    go_enter Tryz.func17, Tryz.ntmps17
    go_wp2_with (go_at_call 37; refine (isLong_any s _ hs).mono ?_; rintro e w3 ⟨rfl, c3⟩; rw [HB.out])
    go_ret3
    exact ParsePo.err hR.out rfl c3
  | false =>
    have hR : Hid (R = readL (lnE s.data.toList) ⟨[], -1⟩ 0) := by show _ = _; rw [HRR.out, if_neg (by simp)]
    clear HRR
    go_enter Tryz.func17, Tryz.ntmps17
    go_wp2_with fail
    refine (isLong_any s _ hs).mono ?_
    rintro e w3 ⟨rfl, c3⟩
    rw [HB.out]
    have HG3 := Lib.hid (HGL.out.keep0 c3)
    have b0 := Blk2.alloc w3 (.slice none 0 0) (.int .i64 (-1)) 62
    have hch : Chg [] w (w3.alloc (.cells #[.slice none 0 0, .int .i64 (-1)] 62)) := c3.alloc _
    have HG4 := Lib.hid (HG3.out.keep0 ((Chg.refl [] w3).alloc (.cells #[.slice none 0 0, .int .i64 (-1)] 62)))
    have h93 := HG3.out.lt
    have HG00 := Lib.hid HGL.out
    clear HGL HG3
    go_wp2_with fail
    obtain ⟨g, HGG⟩ := name_it w3.heap.size
    have hgw : Hid (w.heap.size ≤ g) := by show _ ≤ _; rw [← HGG.out]; exact c3.size
    rw [HGG.out] at b0 ⊢
    rw [HGG.out] at h93
    obtain ⟨w4, HW4⟩ := name_it (w3.alloc (.cells #[.slice none 0 0, .int .i64 (-1)] 62))
    rw [HW4.out] at b0 hch HG4 ⊢
    go_loopw [6, 7] (fun lv rv wr => ∃ (n : Nat) (rest : ByteArray) (r : Rdr) (v : Value), lv = .int .i64 n ∧ rv = .string rest ∧ R = readL (lnE rest.data.toList) r n ∧ Box w.heap.size wr g v r ∧ (r.k ≠ -1 → 1 ≤ r.l.length) ∧ n + rest.size ≤ s.size ∧ Gl wr ∧ Chg [] w wr) (fun _ rv _ => match rv with | .string t => t.size | _ => 0)
    case atStart =>
      refine ⟨0, s, ⟨[], -1⟩, .slice none 0 0, rfl, rfl, hR.out, ⟨b0, OwnPf.nil _, by simp [Value.ownBlock], hgw.out, by show (-1:Int) ≤ -1; omega, by show (-1:Int) ≤ 7; omega, by simp⟩, fun h => absurd rfl h, by omega, HG4.out, hch⟩
    case round =>
      obtain ⟨n, rest, r, v, rfl, rfl, hRR, hbx, hl1, hns, hgr, hcr⟩ := hrel
      have HRQ := Lib.hid hRR
      have HBX := Lib.hid hbx
      have HL1 := Lib.hid hl1
      have HGR := Lib.hid hgr
      clear hRR hl1 hgr
      by_cases h0 : rest.size = 0
      · have d0 : rest.toList.isEmpty = true := by rw [str_emp]; simpa using h0
        have hr0 : rest.data.toList = [] := List.eq_nil_of_length_eq_zero (by simpa using h0)
        have hRE : Hid (R = if mayE r then (r.l, 0, 0) else ([], (n : Int) + 1, 10)) := by show _ = _; rw [HRQ.out, hr0]; rfl
        clear HRQ hr0
        obtain ⟨M, HM⟩ := name_it (mayE r)
        rw [HM.out] at hRE
        cases M with
        | false =>
          have hRQ : Hid (R = ([], (n : Int) + 1, 10)) := by show _ = _; rw [hRE.out, if_neg (by simp)]
          clear hRE hbx
          go_wp2_with (go_at_call 40; refine (mayEnd_any _ _ g v r HBX.out).mono ?_; rintro e w5 ⟨rfl, rfl⟩; rw [HM.out])
          go_ret3
          exact ParsePo.err hRQ.out rfl hcr
        | true =>
          have hRQ : Hid (R = (r.l, 0, 0)) := by show _ = _; rw [hRE.out, if_pos rfl]
          clear hRE
          obtain ⟨A, cap, rfl, hc1, hc2, hsp⟩ := hbx.own.rds
          have y0 := hbx.b.c0
          have yl := hbx.b.lt
          have HSP := Lib.hid hsp
          clear hsp hbx
          go_wp2_with (go_at_call 40; refine (mayEnd_any _ _ g _ r HBX.out).mono ?_; rintro e w5 ⟨rfl, rfl⟩; rw [HM.out])
          go_ret3
          refine ⟨?_⟩
          rw [hRQ.out]
          exact ⟨A, cap, ret_eq rfl, hc1, hc2, HSP.out, hcr⟩
      · have d0 : rest.toList.isEmpty = false := by rw [str_emp]; simpa using h0
        have hne : rest.data.toList ≠ [] := by intro h; apply h0; rw [← size_len, h]; rfl
        clear hbx
        have HGL0 := Lib.hid HG00.out
        by_cases h1 : Lib.indexByte rest.data.toList 10 = -1
        · obtain ⟨x, HX⟩ := name_it rest
          obtain ⟨y, HY⟩ := name_it (⟨#[]⟩ : ByteArray)
          obtain ⟨en, HEN⟩ := name_it false
          have HL : Hid (lnE rest.data.toList = [(rest.data.toList, false)]) := lnE_none _ hne (ib_none h1)
          have HCT : Hid (∀ W, Calls Tryz.prog 38 #[.string rest, .string ⟨#[10]⟩] W fun e w' => e = .returned (.tuple #[.string x, .string y, .bool en]) ∧ Chg [] W w') := by
            show ∀ _, _
            intro W; rw [← HX.out, ← HY.out, ← HEN.out]; exact cut_none rest 10 W (by omega) h1
          have HLN : Hid (lnE rest.data.toList = (x.data.toList, en) :: lnE y.data.toList) := by show _ = _; rw [HL.out, ← HX.out, ← HY.out, ← HEN.out]; rfl
          have hsz : n + 1 + y.size ≤ s.size := by rw [← HY.out]; show n + 1 + 0 ≤ _; omega
          have hys : y.size < rest.size := by rw [← HY.out]; show 0 < _; omega
          have hxs : x.size ≤ rest.size := by rw [← HX.out]; exact Nat.le_refl _
          have hRE : Hid (R = if lineE r x en ≠ 0 then ([], (n : Int) + 1, lineE r x en) else readL (lnE y.data.toList) (lineR r x) ((n : Int) + 1)) := by show _ = _; rw [HRQ.out, HLN.out, readL_cons]
          have HL2 : Hid (lineE r x en = 0 → 1 ≤ (lineR r x).l.length) := fun h => line_l1 h HL1.out
          obtain ⟨E, HE⟩ := name_it (lineE r x en)
          obtain ⟨r2, HR2⟩ := name_it (lineR r x)
          rw [HE.out, HR2.out] at hRE HL2
          have HRD : Hid (∀ W, Chg [] wr W → Calls Tryz.prog 39 #[.pointer (some ⟨g, 0, none⟩), .string x, .bool en] W (ReadPo w g E r2)) := by
            show ∀ _, _
            intro W hW
            have := read_any w W g v r x en (HBX.out.keep0 hW) HL1.out (hcr.then hW) (HGR.out.keep0 hW) (by omega)
            rw [HE.out, HR2.out] at this; exact this
          have HSZ := Lib.hid hsz
          have HYS := Lib.hid hys
          clear h1 hxs hsz hys HL
          by_cases hE : E = 0
          · have HE0 := Lib.hid hE
            have dE : (E != 0) = false := by simpa using hE
            have hRQ : Hid (R = readL (lnE y.data.toList) r2 ((n : Int) + 1)) := by show _ = _; rw [hRE.out, if_neg (by simp [hE])]
            clear hE hRE
            go_wp2_with (first
              | (go_at_call 38; refine (HCT.out _).mono ?_; rintro e w5 ⟨rfl, c5⟩)
              | (go_at_call 39; refine (HRD.out _ c5).mono ?_; rintro e w6 ⟨rfl, hbx6, hc6⟩; have HBX6 := Lib.hid hbx6; clear hbx6)
              | fail)
            obtain ⟨v6, hb6⟩ := HBX6.out HE0.out
            go_roundw
            case rel => exact ⟨n + 1, y, r2, v6, by go_num, rfl, by rw [hRQ.out]; push_cast; rfl, hb6, fun _ => HL2.out HE0.out, HSZ.out, (HGL0.out.keep0 hc6), hc6⟩
            case measure => exact HYS.out
          · have HE0 := Lib.hid hE
            have dE : (E != 0) = true := by simpa using hE
            have hRQ : Hid (R = ([], (n : Int) + 1, E)) := by show _ = _; rw [hRE.out, if_pos hE]
            clear hE hRE
            go_wp2_with (first
              | (go_at_call 38; refine (HCT.out _).mono ?_; rintro e w5 ⟨rfl, c5⟩)
              | (go_at_call 39; refine (HRD.out _ c5).mono ?_; rintro e w6 ⟨rfl, hbx6, hc6⟩; clear hbx6)
              | fail)
            go_ret3
            exact ParsePo.err hRQ.out rfl hc6
        · obtain ⟨o, ho⟩ : ∃ o : Nat, Lib.indexByte rest.data.toList 10 = o := ⟨(Lib.indexByte rest.data.toList 10).toNat, by have := Lib.indexByte_ge rest.data.toList 10; omega⟩
          obtain ⟨i1, i2, i3⟩ := ib_some ho
          obtain ⟨x, HX⟩ := name_it (rest.extract 0 o)
          obtain ⟨y, HY⟩ := name_it (rest.extract (o + 1) rest.size)
          obtain ⟨en, HEN⟩ := name_it true
          have HCT : Hid (∀ W, Calls Tryz.prog 38 #[.string rest, .string ⟨#[10]⟩] W fun e w' => e = .returned (.tuple #[.string x, .string y, .bool en]) ∧ Chg [] W w') := by
            show ∀ _, _
            intro W; rw [← HX.out, ← HY.out, ← HEN.out]; exact cut_some rest 10 o W (by omega) ho
          have HLN : Hid (lnE rest.data.toList = (x.data.toList, en) :: lnE y.data.toList) := by
            show _ = _
            rw [← HX.out, ← HY.out, ← HEN.out, ext_take, ext_drop]
            conv => lhs; rw [i1]
            exact lnE_app _ _ i2
          have hsy : y.size = rest.size - (o + 1) := by rw [← HY.out, ByteArray.size_extract]; omega
          have i3' : o < rest.size := by rw [← size_len]; exact i3
          have hsz : n + 1 + y.size ≤ s.size := by omega
          have hys : y.size < rest.size := by omega
          have hxs : x.size ≤ rest.size := by rw [← HX.out]; exact ext_size _ _ _
          clear i1 i2 i3 i3' hsy
          have hRE : Hid (R = if lineE r x en ≠ 0 then ([], (n : Int) + 1, lineE r x en) else readL (lnE y.data.toList) (lineR r x) ((n : Int) + 1)) := by show _ = _; rw [HRQ.out, HLN.out, readL_cons]
          have HL2 : Hid (lineE r x en = 0 → 1 ≤ (lineR r x).l.length) := fun h => line_l1 h HL1.out
          obtain ⟨E, HE⟩ := name_it (lineE r x en)
          obtain ⟨r2, HR2⟩ := name_it (lineR r x)
          rw [HE.out, HR2.out] at hRE HL2
          have HRD : Hid (∀ W, Chg [] wr W → Calls Tryz.prog 39 #[.pointer (some ⟨g, 0, none⟩), .string x, .bool en] W (ReadPo w g E r2)) := by
            show ∀ _, _
            intro W hW
            have := read_any w W g v r x en (HBX.out.keep0 hW) HL1.out (hcr.then hW) (HGR.out.keep0 hW) (by omega)
            rw [HE.out, HR2.out] at this; exact this
          have HSZ := Lib.hid hsz
          have HYS := Lib.hid hys
          clear h1 hxs hsz hys ho
          by_cases hE : E = 0
          · have HE0 := Lib.hid hE
            have dE : (E != 0) = false := by simpa using hE
            have hRQ : Hid (R = readL (lnE y.data.toList) r2 ((n : Int) + 1)) := by show _ = _; rw [hRE.out, if_neg (by simp [hE])]
            clear hE hRE
            go_wp2_with (first
              | (go_at_call 38; refine (HCT.out _).mono ?_; rintro e w5 ⟨rfl, c5⟩)
              | (go_at_call 39; refine (HRD.out _ c5).mono ?_; rintro e w6 ⟨rfl, hbx6, hc6⟩; have HBX6 := Lib.hid hbx6; clear hbx6)
              | fail)
            obtain ⟨v6, hb6⟩ := HBX6.out HE0.out
            go_roundw
            case rel => exact ⟨n + 1, y, r2, v6, by go_num, rfl, by rw [hRQ.out]; push_cast; rfl, hb6, fun _ => HL2.out HE0.out, HSZ.out, (HGL0.out.keep0 hc6), hc6⟩
            case measure => exact HYS.out
          · have HE0 := Lib.hid hE
            have dE : (E != 0) = true := by simpa using hE
            have hRQ : Hid (R = ([], (n : Int) + 1, E)) := by show _ = _; rw [hRE.out, if_pos hE]
            clear hE hRE
            go_wp2_with (first
              | (go_at_call 38; refine (HCT.out _).mono ?_; rintro e w5 ⟨rfl, c5⟩)
              | (go_at_call 39; refine (HRD.out _ c5).mono ?_; rintro e w6 ⟨rfl, hbx6, hc6⟩; clear hbx6)
              | fail)
            go_ret3
            exact ParsePo.err hRQ.out rfl hc6
end Go.Proofs.YtogciehmdlfkfaaGreatDoor
