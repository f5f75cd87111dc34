/-
  A right driver's round: its descriptors in memory, the chain that Next takes of them, what Done leaves; no condition beyond the ring's size.
-/
import Derived.Test.YtoblemgeacllkaaDm1
namespace Go.Proofs.Ytoblemgeacllkaa

/-- the flags but the two bits; the descriptor -/
def flg (k j : Nat) : Nat := (if j + 1 < k then 1 else 0) + (if 0 < j then 2 else 0)
theorem flg_rest (k j : Nat) : Rest (flg k j) := by unfold flg Rest; split <;> split <;> omega
theorem flg_le (k j : Nat) : flg k j ≤ 3 := by unfold flg; split <;> split <;> omega
def drvF (n p : Nat) (w : Bool) (k j : Nat) : Nat := flg k j + mk (stW n p j w) (stW n p j w == false)
theorem drvF_lt (n p : Nat) (w : Bool) (k j : Nat) : drvF n p w k j ≤ 65535 := by have := mk_lt _ (flg_rest k j) (stW n p j w) (stW n p j w == false); unfold drvF; omega
def drvD (n p : Nat) (w : Bool) (i k j : Nat) : De := ⟨1032 + 16 * j, 1 + i % 9, i, drvF n p w k j⟩
/-- the memory when so many are written -/
def wrC (xs : List UInt8) (n p : Nat) (w : Bool) (i k : Nat) : Nat → List UInt8
  | 0 => xs
  | j + 1 => over (wrC xs n p w i k j) (16 * stA n p j) (desB (1032 + 16 * j) (1 + i % 9) i (drvF n p w k j))
section
variable {xs : List UInt8} {n p i k : Nat} {w : Bool}
theorem wrC_length (hx : xs.length = 2048) (hn : n ≤ 32) (hp : p < n) : ∀ j, j ≤ n → (wrC xs n p w i k j).length = 2048 := by
  have _ := hp
  intro j
  induction j with
  | zero => intro _; exact hx
  | succ j ih =>
    intro hj
    have hs := desB_size (1032 + 16 * j) (1 + i % 9) i (drvF n p w k j)
    have h1 := stA_lt (k := j) hp (by omega)
    have h2 := ih (by omega)
    exact (over_length _ _ _ (by omega)).trans h2
theorem stA_inj {j m : Nat} (hj : j < n) (hm : m < n) (h : stA n p j = stA n p m) : j = m := by
  unfold stA at h
  split at h <;> split at h <;> omega
theorem wrC_at (hx : xs.length = 2048) (hn : n ≤ 32) (hp : p < n) (hi : i ≤ 65535) : ∀ m, m ≤ n → ∀ j, j < m → deAt (wrC xs n p w i k m) (16 * stA n p j) = drvD n p w i k j := by
  intro m
  induction m with
  | zero => intro _ j hj; omega
  | succ m ih =>
    intro hm j hj
    have hl := wrC_length (w := w) (i := i) (k := k) hx hn hp m (by omega)
    have h1 := stA_lt (k := m) hp (by omega)
    have h2 := stA_lt (k := j) hp (by omega)
    have hs := desB_size (1032 + 16 * m) (1 + i % 9) i (drvF n p w k m)
    have hF := drvF_lt n p w k m
    show deAt (over _ _ _) _ = _
    by_cases e : j = m
    · subst e
      rw [deAt_on _ _ _ _ _ _ (by omega) (by omega) (by omega) hi hF]
      rfl
    · have hne : stA n p j ≠ stA n p m := fun h => e (stA_inj (by omega) (by omega) h)
      rw [deAt_off _ _ _ (by omega) _ (by omega)]
      exact ih (by omega) j (by omega)
theorem wrC_off (hx : xs.length = 2048) (hn : n ≤ 32) (hp : p < n) (s : Nat) (hs : s < n) : ∀ m, m ≤ n → (∀ j, j < m → stA n p j ≠ s) → deAt (wrC xs n p w i k m) (16 * s) = deAt xs (16 * s) := by
  have _ := hs
  intro m
  induction m with
  | zero => intro _ _; rfl
  | succ m ih =>
    intro hm h
    have hl := wrC_length (w := w) (i := i) (k := k) hx hn hp m (by omega)
    have h1 := stA_lt (k := m) hp (by omega)
    have hz := desB_size (1032 + 16 * m) (1 + i % 9) i (drvF n p w k m)
    have hne := h m (by omega)
    show deAt (over _ _ _) _ = _
    rw [deAt_off _ _ _ (by omega) _ (by omega)]
    exact ih (by omega) fun j hj => h j (by omega)
theorem drv_bits (j : Nat) : (drvD n p w i k j).bit 1 = decide (j + 1 < k) ∧ (drvD n p w i k j).bit 4 = false ∧ (drvD n p w i k j).bit 2 = decide (0 < j) := by
  unfold De.bit drvD drvF flg mk one
  refine ⟨?_, ?_, ?_⟩
  · by_cases h1 : j + 1 < k <;> by_cases h2 : 0 < j <;> cases stW n p j w <;> simp [h1, h2]
  · by_cases h1 : j + 1 < k <;> by_cases h2 : 0 < j <;> cases stW n p j w <;> simp [h1, h2]
  · by_cases h1 : j + 1 < k <;> by_cases h2 : 0 < j <;> cases stW n p j w <;> simp [h1, h2]
/-- the queue between two rounds -/
def Dq (n p : Nat) (w : Bool) (ta : Nat) (tw : Bool) (si : Nat) : Qs := ⟨0, n, 1024, 1028, p, w, p, w, ta, tw, si, 0, false⟩
def Dq1 (n p : Nat) (w : Bool) (ta : Nat) (tw : Bool) (si k : Nat) : Qs := ⟨0, n, 1024, 1028, stA n p k, stW n p k w, p, w, ta, tw, si, k, false⟩
def drvPt (i j : Nat) : Pt := ⟨1032 + 16 * j, 1 + i % 9, decide (0 < j)⟩
theorem ringGo_drv {ys : List UInt8} (hk : k ≤ n) (hat : ∀ j, j < k → deAt ys (16 * stA n p j) = drvD n p w i k j) (hp : p < n) : ∀ (m j f : Nat) (l : List De), j + m + 1 = k → m ≤ f →
    ringGo ys 0 n f (stA n p j) l (drvD n p w i k j) = some (l ++ (List.range' j (m + 1)).map (drvD n p w i k)) := by
  intro m
  induction m with
  | zero =>
    intro j f l hj hf
    rw [ringGo_end (by rw [(drv_bits j).1]; simp; omega)]
    rfl
  | succ m ih =>
    intro j f l hj hf
    obtain ⟨f, rfl⟩ : ∃ g, f = g + 1 := ⟨f - 1, by omega⟩
    have e : stA n (stA n p j) 1 = stA n p (j + 1) := by
      unfold stA
      repeat' split
      all_goals omega
    rw [ringGo_step (by rw [(drv_bits j).1]; simp; omega), e, Nat.zero_add, hat (j + 1) (by omega), ih (j + 1) f _ (by omega) (by omega), List.range'_succ (n := m + 1)]
    simp
theorem parts_drv {ys : List UInt8} (hy : ys.length = 2048) : ∀ (m j : Nat) (v : Bool), j + m ≤ 4 → (v = true → 0 < j) → partsGo ys ((List.range' j m).map (drvD n p w i k)) v = some ((List.range' j m).map (drvPt i)) := by
  intro m
  induction m with
  | zero => intro j v _ _; rfl
  | succ m ih =>
    intro j v hj hv
    obtain ⟨-, b4, b2⟩ := drv_bits (n := n) (p := p) (i := i) (k := k) (w := w) j
    rw [List.range'_succ, List.map_cons, List.map_cons]
    have hc : (!(drvD n p w i k j).bit 4 && (drvD n p w i k j).fit ys && ((drvD n p w i k j).bit 2 || !v)) = true := by
      rw [b4, b2]
      have hfit : (drvD n p w i k j).fit ys = true := by
        unfold De.fit drvD
        simp only [decide_eq_true_eq, hy]
        omega
      rw [hfit]
      cases v
      · simp
      · simp [hv rfl]
    unfold partsGo
    rw [if_pos hc, ih (j + 1) _ (by omega) (fun _ => by omega), b2]
    rfl
theorem lastId_all {l : List De} (h : ∀ d ∈ l, d.id = i) (hl : l ≠ []) : lastId l = i := by
  unfold lastId
  cases e : l.getLast? with
  | none => exact absurd (List.getLast?_eq_none_iff.1 e) hl
  | some d => exact h d (List.mem_of_getLast? e)
/-- the chain that is taken -/
theorem next_drv (hx : xs.length = 2048) (hn : n ≤ 32) (hp : p < n) (hi : i ≤ 65535) (h1 : 1 ≤ k) (h4 : k ≤ 4) (hk : k ≤ n) (ta : Nat) (tw : Bool) (si : Nat) :
    nextC (wrC xs n p w i k k) (Dq n p w ta tw si) = (⟨i, k, (List.range' 0 k).map (drvPt i)⟩, true, 0, Dq1 n p w ta tw si k) := by
  have hl := wrC_length (w := w) (i := i) (k := k) hx hn hp k hk
  have hat := wrC_at (w := w) (k := k) hx hn hp hi k hk
  have e0 : stA n p 0 = p := by unfold stA; rw [if_pos (by omega)]; rfl
  have w0 : stW n p 0 w = w := by unfold stW; rw [if_pos (by omega)]
  have h0 := hat 0 (by omega)
  rw [e0] at h0
  have ha : availB (drvD n p w i k 0).f w = true := by
    show availB (flg k 0 + mk (stW n p 0 w) (stW n p 0 w == false)) w = true
    rw [availB_of (flg_rest k 0), w0]
    cases w <;> rfl
  have hr : ringV (wrC xs n p w i k k) (Dq n p w ta tw si) = some ((List.range' 0 k).map (drvD n p w i k)) := by
    have hal : allowed (Dq n p w ta tw si) = n := by show min (n - 0) 64 = n; omega
    unfold ringV
    rw [hal]
    show ringGo _ 0 n (n - 1) p [] (deAt _ (0 + 16 * p)) = _
    rw [Nat.zero_add, h0]
    have := ringGo_drv (w := w) (i := i) hk hat hp (k - 1) 0 (n - 1) [] (by omega) (by omega)
    rw [e0, show k - 1 + 1 = k by omega] at this
    exact this
  have hnm : nameV (wrC xs n p w i k k) ((List.range' 0 k).map (drvD n p w i k)) = some ((List.range' 0 k).map (drvD n p w i k)) := by
    by_cases e : k = 1
    · subst e
      exact nameV_one _ _ (drv_bits 0).2.1
    · exact nameV_more _ _ (by simpa using e)
  have hpt := parts_drv (n := n) (p := p) (i := i) (k := k) (w := w) hl k 0 false (by omega) (fun h => by cases h)
  have hid : lastId ((List.range' 0 k).map (drvD n p w i k)) = i := by
    refine lastId_all ?_ ?_
    · intro d hd
      obtain ⟨j, -, rfl⟩ := List.mem_map.1 hd
      rfl
    · intro h
      have := congrArg List.length h
      simp at this; omega
  have hc : chainV (wrC xs n p w i k k) (Dq n p w ta tw si) = some ⟨i, k, (List.range' 0 k).map (drvPt i)⟩ := by
    unfold chainV
    rw [hr]
    show ((nameV _ _).bind _) = _
    rw [hnm]
    show ((partsGo _ _ false).map _) = _
    rw [hpt]
    simp [hid]
  unfold nextC
  rw [if_neg (by simp [Dq]), if_neg (show ¬ (Dq n p w ta tw si).out = (Dq n p w ta tw si).size from fun h => by have h : 0 = n := h; omega)]
  show (if availB (deAt _ (0 + 16 * p)).f w = true then _ else _) = _
  rw [Nat.zero_add, h0, if_pos ha, hc]
  simp [Dq, Dq1]
/-- what waits nowhere -/
def Idle (xs : List UInt8) (n p : Nat) (w : Bool) : Prop := ∀ s, s < n → availB (deAt xs (16 * s)).f (if p ≤ s then w else !w) = false
theorem next_idle (h : Idle xs n p w) (hp : p < n) (ta : Nat) (tw : Bool) (si : Nat) : nextC xs (Dq n p w ta tw si) = (noCh, false, 0, Dq n p w ta tw si) := by
  have h0 := h p hp
  rw [if_pos (Nat.le_refl _)] at h0
  unfold nextC
  rw [if_neg (by simp [Dq]), if_neg (show ¬ (Dq n p w ta tw si).out = (Dq n p w ta tw si).size from fun h => by have h : 0 = n := h; omega)]
  show (if availB (deAt _ (0 + 16 * p)).f w = true then _ else _) = _
  rw [Nat.zero_add, h0]
  rfl
theorem idle_zero (hn : n ≤ 32) : Idle (List.replicate 2048 0) n 0 true := by
  have h : ∀ s : Fin 32, availB (deAt (List.replicate 2048 0) (16 * s.val)).f true = false := by decide +kernel
  intro s hs
  rw [if_pos (Nat.zero_le _)]
  exact h ⟨s, by omega⟩
theorem Dq1_ok (hn : n ≤ 32) (hp : p < n) (h4 : k ≤ n) (ta : Nat) (tw : Bool) (si : Nat) (hta : ta < n) : (Dq1 n p w ta tw si k).Ok 2048 :=
  ⟨by show 1 ≤ n; omega, by show n ≤ 32768; omega, by show 0 + 16 * n ≤ 2048; omega, by show 1024 + 4 ≤ 2048; omega, by show 1028 + 4 ≤ 2048; omega, stA_lt hp h4, hp, hta, h4⟩
theorem Dq_ok (hn : n ≤ 32) (hp : p < n) (ta : Nat) (tw : Bool) (si : Nat) (hta : ta < n) : (Dq n p w ta tw si).Ok 2048 :=
  ⟨by show 1 ≤ n; omega, by show n ≤ 32768; omega, by show 0 + 16 * n ≤ 2048; omega, by show 1024 + 4 ≤ 2048; omega, by show 1028 + 4 ≤ 2048; omega, hp, hp, hta, Nat.zero_le _⟩
theorem done_drv {ys : List UInt8} (hi : i ≤ 65535) (h1 : 1 ≤ k) (ta : Nat) (tw : Bool) (si v : Nat) (hv : v ≤ 65535) :
    doneC ys (Dq1 n p w ta tw si k) i k v = (0, usedX ys (Dq1 n p w ta tw si k) i v, Dq n (stA n p k) (stW n p k w) ta tw (si + k)) := by
  unfold doneC
  rw [if_neg (by simp [Dq1]), if_pos (show doneOk _ _ _ _ = true from decide_eq_true ⟨by omega, by omega, by omega, by show (k : Int) ≤ (k : Int); omega, by omega, by omega⟩)]
  simp [doneQ, Dq1, Dq]
theorem idle_drv (hx : xs.length = 2048) (hn : n ≤ 32) (hp : p < n) (hi : i ≤ 65535) (h1 : 1 ≤ k) (hk : k ≤ n) (ta : Nat) (tw : Bool) (si v : Nat) (hta : ta < n) (h : Idle xs n p w) :
    Idle (usedX (wrC xs n p w i k k) (Dq1 n p w ta tw si k) i v) n (stA n p k) (stW n p k w) := by
  have hl := wrC_length (w := w) (i := i) (k := k) hx hn hp k hk
  have hq : (Dq1 n p w ta tw si k).Ok (wrC xs n p w i k k).length := by rw [hl]; exact Dq1_ok hn hp hk ta tw si hta
  intro s hs
  by_cases hsp : s = p
  · subst hsp
    have e := used_on (wrC xs n s w i k k) (Dq1 n s w ta tw si k) i v hq
    rw [show (Dq1 n s w ta tw si k).ring + 16 * (Dq1 n s w ta tw si k).ba = 16 * s from Nat.zero_add _] at e
    rw [e]
    show availB ((if 0 < v then 2 else 0) + mk w (w == true)) _ = false
    have hR : Rest (if 0 < v then 2 else 0) := by split <;> exact ⟨by decide, by decide, by decide⟩
    rw [availB_of hR]
    cases w <;> cases (if stA n s k ≤ s then stW n s k _ else !stW n s k _) <;> rfl
  · have e := used_off (wrC xs n p w i k k) (Dq1 n p w ta tw si k) i v hq (16 * s) (by show 16 * s + 16 ≤ 0 + 16 * p ∨ 0 + 16 * p + 16 ≤ 16 * s; omega)
    rw [e]
    by_cases hj : ∃ j, j < k ∧ stA n p j = s
    · obtain ⟨j, hjk, rfl⟩ := hj
      rw [wrC_at hx hn hp hi k hk j hjk]
      show availB (flg k j + mk (stW n p j w) (stW n p j w == false)) _ = false
      rw [availB_of (flg_rest k j)]
      have hneed : (if stA n p k ≤ stA n p j then stW n p k w else !stW n p k w) = !stW n p j w := by
        unfold stA stW
        by_cases a : p + j < n
        · by_cases b : p + k < n
          · rw [if_pos b, if_pos a, if_pos b, if_pos a, if_neg (by omega)]
          · rw [if_neg b, if_pos a, if_neg b, if_pos a, if_pos (by omega)]
        · have b : ¬ p + k < n := by omega
          rw [if_neg b, if_neg a, if_neg b, if_neg a, if_neg (by omega)]
      rw [hneed]
      cases stW n p j w <;> rfl
    · have hno : ∀ j, j < k → stA n p j ≠ s := fun j hjk he => hj ⟨j, hjk, he⟩
      rw [wrC_off hx hn hp s hs k hk hno]
      have hneed : (if stA n p k ≤ s then stW n p k w else !stW n p k w) = (if p ≤ s then w else !w) := by
        have hb : ¬ (p ≤ s ∧ s < p + k) := fun hh => hno (s - p) (by omega) (by unfold stA; rw [if_pos (by omega)]; omega)
        have hc : ¬ (s + n < p + k) := fun hh => hno (s + n - p) (by omega) (by unfold stA; rw [if_neg (by omega)]; omega)
        unfold stA stW
        by_cases b : p + k < n
        · rw [if_pos b, if_pos b]
          by_cases c : p ≤ s
          · rw [if_pos c, if_pos (by omega)]
          · rw [if_neg c, if_neg (by omega)]
        · rw [if_neg b, if_neg b, if_pos (by omega), if_neg (by omega)]
      rw [hneed]
      exact h s hs
end
end Go.Proofs.Ytoblemgeacllkaa
