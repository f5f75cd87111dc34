/-
  The mathematics of rising lists: a number more, a number less, and what the document counts out; no condition.
-/
import Derived.Test.YtongkfimgohhbaaIns
namespace Go.Proofs.Ytongkfimgohhbaa
open Go.RowKit

def addL (L : List Int) (x : Int) : List Int := if hasI L x = true then L else insL L (cnt L x) x
def delL (L : List Int) (x : Int) : List Int := if hasI L x = true then cutL L (cnt L x) else L
theorem cnt_le (L : List Int) (x : Int) : cnt L x ≤ L.length := List.countP_le_length
theorem cnt_lt (L : List Int) (x : Int) (h : hasI L x = true) : cnt L x < L.length := by
  rw [hasI_iff] at h
  have hn : cnt L x ≠ L.length := by
    intro e
    have := List.countP_eq_length.1 e x h
    simp at this
  have := cnt_le L x
  omega
theorem cnt_split : ∀ (L : List Int) (x : Int), L.Pairwise (· < ·) → ∃ a b, L = a ++ b ∧ a.length = cnt L x ∧ (∀ v ∈ a, v < x) ∧ (∀ v ∈ b, x ≤ v)
  | [], x, _ => ⟨[], [], rfl, rfl, by simp, by simp⟩
  | y :: r, x, h => by
    rw [List.pairwise_cons] at h
    by_cases hy : y < x
    · obtain ⟨a, b, e, hl, h1, h2⟩ := cnt_split r x h.2
      refine ⟨y :: a, b, by rw [e]; rfl, ?_, ?_, h2⟩
      · rw [cnt, List.countP_cons_of_pos (by simpa using hy), List.length_cons, hl]; rfl
      · intro v hv
        rcases List.mem_cons.1 hv with rfl | hv
        · exact hy
        · exact h1 v hv
    · refine ⟨[], y :: r, rfl, ?_, by simp, ?_⟩
      · have : cnt (y :: r) x = 0 := by
          rw [cnt, List.countP_eq_zero]
          intro v hv
          rcases List.mem_cons.1 hv with rfl | hv
          · simpa using hy
          · have := h.1 v hv
            simp; omega
        rw [this]; rfl
      · intro v hv
        rcases List.mem_cons.1 hv with rfl | hv
        · omega
        · have := h.1 v hv; omega
theorem asc_ext : ∀ (a b : List Int), a.Pairwise (· < ·) → b.Pairwise (· < ·) → (∀ v, v ∈ a ↔ v ∈ b) → a = b
  | [], [], _, _, _ => rfl
  | [], y :: b, _, _, h => absurd ((h y).2 (by simp)) (by simp)
  | x :: a, [], _, _, h => absurd ((h x).1 (by simp)) (by simp)
  | x :: a, y :: b, ha, hb, h => by
    rw [List.pairwise_cons] at ha hb
    have hxy : x = y := by
      rcases List.mem_cons.1 ((h x).1 (by simp)) with e | e
      · exact e
      · rcases List.mem_cons.1 ((h y).2 (by simp)) with g | g
        · exact g.symm
        · have := hb.1 x e; have := ha.1 y g; omega
    subst hxy
    congr 1
    refine asc_ext a b ha.2 hb.2 (fun v => ⟨fun hv => ?_, fun hv => ?_⟩)
    · rcases List.mem_cons.1 ((h v).1 (by simp [hv])) with e | e
      · have := ha.1 v hv; omega
      · exact e
    · rcases List.mem_cons.1 ((h v).2 (by simp [hv])) with e | e
      · have := hb.1 v hv; omega
      · exact e
theorem addL_mem (L : List Int) (x : Int) (v : Int) : v ∈ addL L x ↔ v = x ∨ v ∈ L := by
  unfold addL
  split
  · rename_i h
    rw [hasI_iff] at h
    constructor
    · exact .inr
    · rintro (rfl | e)
      · exact h
      · exact e
  · rw [insL, List.mem_append, List.mem_cons]
    constructor
    · rintro (e | e | e)
      · exact .inr (List.mem_of_mem_take e)
      · exact .inl e
      · exact .inr (List.mem_of_mem_drop e)
    · rintro (e | e)
      · exact .inr (.inl e)
      · rw [← List.take_append_drop (cnt L x) L, List.mem_append] at e
        rcases e with e | e
        · exact .inl e
        · exact .inr (.inr e)
theorem addL_asc (L : List Int) (x : Int) (h : L.Pairwise (· < ·)) : (addL L x).Pairwise (· < ·) := by
  unfold addL
  split
  · exact h
  · rename_i hn
    obtain ⟨a, b, rfl, hl, h1, h2⟩ := cnt_split L x h
    rw [← hl, insL, List.take_left' rfl, List.drop_left' rfl]
    rw [List.pairwise_append] at h ⊢
    have hb : ∀ v ∈ b, x < v := by
      intro v hv
      have := h2 v hv
      have hne : v ≠ x := by
        rintro rfl
        exact hn (hasI_iff.2 (List.mem_append.2 (.inr hv)))
      omega
    refine ⟨h.1, List.pairwise_cons.2 ⟨hb, h.2.1⟩, fun u hu v hv => ?_⟩
    rcases List.mem_cons.1 hv with rfl | hv
    · exact h1 u hu
    · exact h.2.2 u hu v hv
theorem cut_form (L : List Int) (x : Int) (h : L.Pairwise (· < ·)) (hx : x ∈ L) : ∃ a b, L = a ++ x :: b ∧ cutL L (cnt L x) = a ++ b ∧ (∀ v ∈ a, v < x) ∧ (∀ v ∈ b, x < v) ∧ a.Pairwise (· < ·) ∧ b.Pairwise (· < ·) := by
  obtain ⟨a, b, e, hl, h1, h2⟩ := cnt_split L x h
  rw [← hl]
  subst e
  rw [List.pairwise_append] at h
  cases b with
  | nil =>
    rw [List.append_nil] at hx
    have := h1 x hx
    omega
  | cons y r =>
    have hp := List.pairwise_cons.1 h.2.1
    have hy : y = x := by
      rcases List.mem_append.1 hx with e | e
      · have := h1 x e; omega
      · rcases List.mem_cons.1 e with e | e
        · exact e.symm
        · have := hp.1 x e; have := h2 y (by simp); omega
    subst hy
    refine ⟨a, r, rfl, ?_, h1, hp.1, h.1, hp.2⟩
    rw [cutL, List.take_left' rfl, show a ++ y :: r = (a ++ [y]) ++ r by simp, List.drop_left' (by simp)]
theorem delL_mem (L : List Int) (x : Int) (h : L.Pairwise (· < ·)) (v : Int) : v ∈ delL L x ↔ v ∈ L ∧ v ≠ x := by
  unfold delL
  split
  · rename_i hx
    obtain ⟨a, b, e, hc, h1, h2, _⟩ := cut_form L x h (hasI_iff.1 hx)
    rw [hc, e, List.mem_append, List.mem_append, List.mem_cons]
    constructor
    · rintro (q | q)
      · have := h1 v q; exact ⟨.inl q, by omega⟩
      · have := h2 v q; exact ⟨.inr (.inr q), by omega⟩
    · rintro ⟨q | q | q, hne⟩
      · exact .inl q
      · exact absurd q hne
      · exact .inr q
  · rename_i hx
    constructor
    · intro q
      exact ⟨q, by rintro rfl; exact hx (hasI_iff.2 q)⟩
    · exact fun q => q.1
theorem delL_asc (L : List Int) (x : Int) (h : L.Pairwise (· < ·)) : (delL L x).Pairwise (· < ·) := by
  unfold delL
  split
  · rename_i hx
    obtain ⟨a, b, e, hc, h1, h2, ha, hb⟩ := cut_form L x h (hasI_iff.1 hx)
    rw [hc, List.pairwise_append]
    exact ⟨ha, hb, fun u hu v hv => by have := h1 u hu; have := h2 v hv; omega⟩
  · exact h
theorem addL_length (L : List Int) (x : Int) : (addL L x).length ≤ L.length + 1 := by
  unfold addL
  split
  · omega
  · rw [insL_length _ _ _ (cnt_le L x)]
    exact Nat.le_refl _
theorem delL_length (L : List Int) (x : Int) : (delL L x).length ≤ L.length := by
  unfold delL
  split
  · rename_i h
    rw [cutL_length _ _ (cnt_lt L x h)]; omega
  · omega
theorem del_there (L : List Int) (x : Int) (h : x ∈ L) : (delL L x).length = L.length - 1 := by
  have hx := hasI_iff.2 h
  rw [delL, if_pos hx, cutL_length _ _ (cnt_lt L x hx)]
theorem addL_ok {L : List Int} {x : Int} (h : ascB L = true) (hx : isV x = true) : ascB (addL L x) = true := by
  rw [ascB_iff] at h ⊢
  rw [isV, Bool.and_eq_true, decide_eq_true_eq, decide_eq_true_eq] at hx
  refine ⟨fun v hv => ?_, addL_asc L x h.2⟩
  rcases (addL_mem L x v).1 hv with rfl | e
  · exact hx
  · exact h.1 v e
theorem delL_ok {L : List Int} {x : Int} (h : ascB L = true) : ascB (delL L x) = true := by
  rw [ascB_iff] at h ⊢
  exact ⟨fun v hv => h.1 v ((delL_mem L x h.2 v).1 hv).1, delL_asc L x h.2⟩
/-- does the document take this number? -/
def setQ (L : List Int) (x : Int) (is : Bool) (v : Int) : Bool := (v == x && is) || (v != x && hasI L v)
/-- what it counted out of the first k -/
def setL (L : List Int) (x : Int) (is : Bool) (k : Nat) : List Int := ((List.range k).map (fun i : Nat => (i : Int))).filter (setQ L x is)
theorem setL_next (L : List Int) (x : Int) (is : Bool) (k : Nat) : setL L x is (k + 1) = if setQ L x is k = true then setL L x is k ++ [(k : Int)] else setL L x is k := by
  unfold setL
  rw [List.range_succ, List.map_append, List.filter_append]
  split
  · rename_i h; simp [h]
  · rename_i h; simp [h]
theorem setL_length (L : List Int) (x : Int) (is : Bool) (k : Nat) : (setL L x is k).length ≤ k := by
  have := List.length_filter_le (setQ L x is) ((List.range k).map (fun i : Nat => (i : Int)))
  simpa [setL] using this
theorem setL_asc (L : List Int) (x : Int) (is : Bool) (k : Nat) : (setL L x is k).Pairwise (· < ·) := by
  unfold setL
  refine List.Pairwise.filter _ ?_
  rw [List.pairwise_map]
  exact List.pairwise_lt_range.imp fun h => by omega
theorem setL_mem (L : List Int) (x : Int) (is : Bool) (k : Nat) (v : Int) : v ∈ setL L x is k ↔ (0 ≤ v ∧ v < k) ∧ setQ L x is v = true := by
  unfold setL
  rw [List.mem_filter, List.mem_map]
  constructor
  · rintro ⟨⟨i, hi, rfl⟩, h⟩
    rw [List.mem_range] at hi
    exact ⟨⟨by omega, by omega⟩, h⟩
  · rintro ⟨⟨h0, h1⟩, h⟩
    exact ⟨⟨v.toNat, List.mem_range.2 (by omega), by omega⟩, h⟩
theorem setL_add {L : List Int} {x : Int} (h : ascB L = true) (hx : isV x = true) : setL L x true 4095 = addL L x := by
  have h' := (ascB_iff L).1 h
  rw [isV, Bool.and_eq_true, decide_eq_true_eq, decide_eq_true_eq] at hx
  refine asc_ext _ _ (setL_asc ..) (addL_asc L x h'.2) (fun v => ?_)
  rw [setL_mem, addL_mem, setQ]
  constructor
  · rintro ⟨_, hq⟩
    by_cases e : v = x
    · exact .inl e
    · have : (v == x) = false := by simpa using e
      rw [this] at hq
      have h2 : (v != x) = true := by simpa using e
      rw [h2] at hq
      exact .inr (hasI_iff.1 (by simpa using hq))
  · rintro (rfl | e)
    · exact ⟨⟨hx.1, by omega⟩, by simp⟩
    · have := h'.1 v e
      refine ⟨⟨this.1, by omega⟩, ?_⟩
      by_cases g : v = x
      · simp [g]
      · have h2 : (v != x) = true := by simpa using g
        rw [h2, hasI_iff.2 e]; simp
theorem setL_del {L : List Int} {x : Int} (h : ascB L = true) : setL L x false 4095 = delL L x := by
  have h' := (ascB_iff L).1 h
  refine asc_ext _ _ (setL_asc ..) (delL_asc L x h'.2) (fun v => ?_)
  rw [setL_mem, delL_mem L x h'.2, setQ]
  constructor
  · rintro ⟨_, hq⟩
    by_cases e : v = x
    · subst e; simp at hq
    · have h2 : (v != x) = true := by simpa using e
      rw [h2] at hq
      exact ⟨hasI_iff.1 (by simpa using hq), e⟩
  · rintro ⟨e, g⟩
    have := h'.1 v e
    have h2 : (v != x) = true := by simpa using g
    exact ⟨⟨this.1, by omega⟩, by rw [h2, hasI_iff.2 e]; simp⟩
theorem add_twice {L : List Int} {x : Int} (h : L.Pairwise (· < ·)) : addL (addL L x) x = addL L x :=
  asc_ext _ _ (addL_asc _ _ (addL_asc _ _ h)) (addL_asc _ _ h) (fun v => by rw [addL_mem, addL_mem]; constructor <;> (intro q; rcases q with q | q) <;> simp_all)
theorem add_swap {L : List Int} {x y : Int} (h : L.Pairwise (· < ·)) : addL (addL L x) y = addL (addL L y) x :=
  asc_ext _ _ (addL_asc _ _ (addL_asc _ _ h)) (addL_asc _ _ (addL_asc _ _ h)) (fun v => by
    rw [addL_mem, addL_mem, addL_mem, addL_mem]
    constructor <;> (rintro (q | q | q)) <;> simp [q])
theorem del_twice {L : List Int} {x : Int} (h : L.Pairwise (· < ·)) : delL (delL L x) x = delL L x :=
  asc_ext _ _ (delL_asc _ _ (delL_asc _ _ h)) (delL_asc _ _ h) (fun v => by
    rw [delL_mem _ _ (delL_asc _ _ h), delL_mem _ _ h]
    exact ⟨fun q => q.1, fun q => ⟨q, q.2⟩⟩)
end Go.Proofs.Ytongkfimgohhbaa
