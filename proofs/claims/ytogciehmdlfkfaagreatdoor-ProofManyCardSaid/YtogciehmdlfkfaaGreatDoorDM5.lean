/-
  Mathematics: the documents of the law about their number.
-/
import Derived.Test.YtogciehmdlfkfaaGreatDoorDL4
import Derived.Test.YtogciehmdlfkfaaGreatDoorDM4
namespace Go.Proofs.YtogciehmdlfkfaaGreatDoor
open Go.RowKit Nd

def idN (i : Nat) : ByteArray := ⟨#[110]⟩ ++ strOf [97 + i / 26, 97 + i % 26]
def docI (I : ByteArray) : Pf := ⟨I, 0, 0, ⟨#[69, 85, 82]⟩, q0, 0, 0, q0, 0, -1⟩
def docN (i : Nat) : Pf := docI (idN i)
def docsN (n : Nat) : List Pf := (List.range n).map docN
theorem docN_facts : ∀ i, i < 69 → fmtE [docN i] = 0 ∧ (docL (docN i)).length ≤ 100 ∧ shortP (docN i) = true ∧ chkE (docN i) = 0 := by
  have h : ((List.range 69).all fun i => decide (fmtE [docN i] = 0) && (decide ((docL (docN i)).length ≤ 100) && (shortP (docN i) && decide (chkE (docN i) = 0)))) = true := by decide +kernel
  intro i hi
  have := List.all_eq_true.1 h i (List.mem_range.2 hi)
  simp only [Bool.and_eq_true, decide_eq_true_eq] at this
  exact this
theorem docsN_succ (i : Nat) : docsN (i + 1) = docsN i ++ [docN i] := by simp [docsN, List.range_succ]
theorem docsN_len (i : Nat) : (docsN i).length = i := by simp [docsN]
theorem docN_docs {i : Nat} (h : i < 69) : Docs [docN i] := by
  have f := docN_facts i h
  refine ⟨fun p hp => ?_, fun _ p hp => ?_⟩
  · rw [List.mem_singleton.1 hp]; exact (short_fit f.2.2.1).1
  · rw [List.mem_singleton.1 hp]; exact short_doc f.2.2.1 f.2.2.2
theorem docsL_app (a b : List Pf) : docsL (a ++ b) = docsL a ++ docsL b := by simp [docsL]
theorem mem_docsN {n : Nat} {p : Pf} (h : p ∈ docsN n) : ∃ j, j < n ∧ p = docN j := by
  unfold docsN at h
  obtain ⟨j, hj, rfl⟩ := List.mem_map.1 h
  exact ⟨j, List.mem_range.1 hj, rfl⟩
theorem docsN_docs {n : Nat} (h : n ≤ 69) : Docs (docsN n) := by
  refine ⟨fun p hp => ?_, fun _ p hp => ?_⟩ <;> obtain ⟨j, hj, rfl⟩ := mem_docsN hp <;> have f := docN_facts j (by omega)
  · exact (short_fit f.2.2.1).1
  · exact short_doc f.2.2.1 f.2.2.2
theorem q0_qc : q0 = qc (ratOf q0) := by kernel_rfl
theorem q0_len : (decL (ratOf q0).num.natAbs).length ≤ 2000 ∧ (decL (ratOf q0).den).length ≤ 2000 := by decide +kernel
theorem docN_prs {j : Nat} (h : j < 69) : Prs (docN j) := ⟨(docN_facts j h).2.2.2, q0_qc, q0_qc, q0_len.1, q0_len.2, q0_len.1, q0_len.2⟩
theorem docN_ids : ∀ j, j < 69 → (docsN j).any (fun q => decide (q.id = (docN j).id)) = false := by
  have h : ((List.range 69).all fun j => !(docsN j).any (fun q => decide (q.id = (docN j).id))) = true := by decide +kernel
  intro j hj
  have := List.all_eq_true.1 h j (List.mem_range.2 hj)
  simpa using this
theorem docsN_get {n j : Nat} (h : j < n) : (docsN n).getD j pf0 = docN j := by
  unfold docsN
  rw [List.getD_eq_getElem?_getD, List.getElem?_map, List.getElem?_range h]; rfl
theorem docsN_take {n j : Nat} (h : j ≤ n) : (docsN n).take j = docsN j := by
  unfold docsN
  rw [← List.map_take, List.take_range, Nat.min_eq_left h]
theorem docsN_drop {n j : Nat} (h : j < n) : (docsN n).drop j = docN j :: (docsN n).drop (j + 1) := by
  have hl : j < (docsN n).length := by rw [docsN_len]; exact h
  rw [List.drop_eq_getElem_cons hl]
  congr 1
  have := docsN_get h
  rwa [List.getD_eq_getElem?_getD, List.getElem?_eq_getElem hl, Option.getD_some] at this
theorem allFrom_good {l : List Pf} (h : ∀ j, j < l.length → chkE (l.getD j pf0) = 0 ∧ (l.take j).any (fun q => decide (q.id = (l.getD j pf0).id)) = false) : ∀ f i, allFrom l f i = 0 := by
  intro f
  induction f with
  | zero => intro i; rfl
  | succ f ih =>
    intro i
    by_cases hi : i < l.length
    · rw [allFrom_step l f i hi, if_neg (fun k => k (h i hi).1), if_neg (by rw [(h i hi).2]; simp)]
      exact ih (i + 1)
    · rw [allFrom, if_neg hi]
theorem docsN_all {n : Nat} (h : n ≤ 64) : allE (docsN n) = 0 := by
  unfold allE
  rw [docsN_len, if_neg (by omega)]
  refine allFrom_good (fun j hj => ?_) _ _
  rw [docsN_len] at hj
  rw [docsN_get hj, docsN_take (by omega)]
  exact ⟨(docN_facts j (by omega)).2.2.2, docN_ids j (by omega)⟩
theorem docsN_long {n : Nat} (h : n ≤ 69) : longB (docsL (docsN n)) = false := by
  have h69 : longB (docsL (docsN 69)) = false := by decide +kernel
  have e : docsL (docsN 69) = docsL (docsN n) ++ docsL ((docsN 69).drop n) := by
    rw [docsL_split (docsN 69) n, docsN_take h]
  cases hb : longB (docsL (docsN n)) with
  | false => rfl
  | true =>
    rw [e, long_mono _ hb] at h69
    exact absurd h69 (by decide)
theorem docsN_fmt {n : Nat} (h : n ≤ 64) : fmtE (docsN n) = 0 := by
  unfold fmtE
  rw [docsN_all h, if_neg (by simp), docsN_long (by omega)]; rfl
theorem docsN_many {n : Nat} (h : 64 < n) : fmtE (docsN n) = 2 := by
  have : allE (docsN n) = 2 := by unfold allE; rw [docsN_len, if_pos h]
  unfold fmtE
  rw [this, if_pos (by decide)]
theorem docsN_parse {n : Nat} (h : n ≤ 64) : parseT (docsL (docsN n)) = (docsN n, 0, 0) :=
  parse_docs (docsN_fmt h) fun p hp => by obtain ⟨j, hj, rfl⟩ := mem_docsN hp; exact docN_prs (by omega)
theorem docN_lns (j : Nat) : (lns (docN j)).length = 6 := by
  have h0 : ¬ 0 < sg (ratOf (docN j).rt) := by show ¬ 0 < sg (ratOf q0); decide +kernel
  have h1 : ¬ (docN j).sec ≠ -1 := by show ¬ (-1 : Int) ≠ -1; simp
  unfold lns lnsB lnsC
  rw [if_neg h0, if_neg h1]; rfl
theorem docN_kEnd (j : Nat) : kEnd (docN j) = 5 := by
  have h0 : ¬ 0 < sg (ratOf (docN j).rt) := by show ¬ 0 < sg (ratOf q0); decide +kernel
  have h1 : ¬ (docN j).sec ≠ -1 := by show ¬ (-1 : Int) ≠ -1; simp
  unfold kEnd
  rw [if_neg h1, if_neg h0]
theorem docsN_read {n : Nat} (_ : n ≤ 69) : ∀ m, m ≤ 64 → m ≤ n → ∃ k : Int, (k = -1 ∨ 5 ≤ k) ∧ readL (lnE (docsL (docsN n))) ⟨[], -1⟩ 0 = readL (lnE (docsL ((docsN n).drop m))) ⟨docsN m, k⟩ (6 * m) := by
  intro m
  induction m with
  | zero => intro _ _; exact ⟨-1, Or.inl rfl, rfl⟩
  | succ m ih =>
    intro h1 h2
    obtain ⟨k, hk, e⟩ := ih (by omega) (by omega)
    refine ⟨5, Or.inr (by decide), ?_⟩
    have hp := docN_prs (j := m) (by omega)
    rw [e, docsN_drop (by omega), docsL_cons, lnE_doc (ck0 hp.ck), read_doc hp hk (docN_ids m (by omega)) (by rw [docsN_len]; omega), ← docsN_succ, docN_lns, docN_kEnd]
    congr 1
theorem docsN_over {n : Nat} (h : 64 < n) (hn : n ≤ 69) : parseT (docsL (docsN n)) = ([], 385, 2) := by
  unfold parseT
  rw [docsN_long hn]
  obtain ⟨k, hk, e⟩ := docsN_read hn 64 (by omega) (by omega)
  have hp := docN_prs (j := 64) (by omega)
  have c := ck0 hp.ck
  rw [if_neg (by simp), e, docsN_drop h, docsL_cons, lnE_doc c]
  unfold lns lnsA
  simp only [List.cons_append, List.nil_append]
  have hw : wordsB ⟨(kPro.data.toList ++ 32 :: (docN 64).id.data.toList).toArray⟩ = [kPro, (docN 64).id] := by
    rw [words2 cl0 (cln_name c.id), bA_self, bA_self]
  have hE : lineE ⟨docsN 64, k⟩ ⟨(kPro.data.toList ++ 32 :: (docN 64).id.data.toList).toArray⟩ true = 2 := by
    unfold lineE
    rw [hw, kind_pro, if_neg (by simp [folB, hk]), if_pos rfl]
    have h1 : nameB ((([kPro, (docN 64).id] : List ByteArray)).getD 1 wd0) = true := c.id
    have h2 : (docsN 64).any (fun p => decide (p.id = ([kPro, (docN 64).id] : List ByteArray).getD 1 wd0)) = false := docN_ids 64 (by omega)
    have h3 : 64 ≤ (docsN 64).length := by rw [docsN_len]; omega
    rw [if_neg (by rw [h1]; simp), if_neg (by show ¬ ((docsN 64).any _ = true); rw [h2]; simp), if_pos h3]
  rw [readL, if_pos (by rw [hE]; decide), hE]; rfl
end Go.Proofs.YtogciehmdlfkfaaGreatDoor
