/-
  The ones' sum of numbers and of bytes, as plain numbers: what it is at once, of two rows of bytes, of changed ones; no condition.
-/
import Derived.Lib.EndianBits
namespace Go.Proofs.Ytpjndjmneficbaa

def ones (a b : Int) : Int := if 65536 ≤ a + b then a + b - 65535 else a + b
def onL : Int → List UInt8 → Int
  | n, [] => n
  | n, [c] => ones n (256 * c.toNat)
  | n, c :: d :: l => onL (ones n (256 * c.toNat + d.toNat)) l
def onS (n : Int) (s : ByteArray) : Int := onL n s.data.toList
def swap (b : Int) : Int := b % 256 * 256 + b / 256
def upd (a b c : Int) : Int := 65535 - ones (ones (65535 - a) (65535 - b)) c
def join (a b n : Int) : Int := ones a (if n % 2 = 0 then b else swap b)

/-- what a sum comes to, whatever it is -/
def canon (x : Int) : Int := if x = 0 then 0 else (x - 1) % 65535 + 1
def wt : Bool → List UInt8 → Int
  | _, [] => 0
  | h, c :: l => (if h then 256 else 1) * (c.toNat : Int) + wt (!h) l

theorem ones_canon (a b : Int) (h1 : 0 ≤ a) (h2 : a ≤ 65535) (h3 : 0 ≤ b) (h4 : b ≤ 65535) : ones a b = canon (a + b) := by
  unfold ones canon
  split <;> split <;> omega
theorem ones_range (a b : Int) (h1 : 0 ≤ a) (h2 : a ≤ 65535) (h3 : 0 ≤ b) (h4 : b ≤ 65535) : 0 ≤ ones a b ∧ ones a b ≤ 65535 := by
  unfold ones
  split <;> omega
theorem canon_add (x y : Int) (hx : 0 ≤ x) (hy : 0 ≤ y) : canon (canon x + y) = canon (x + y) := by
  unfold canon
  split <;> split <;> split <;> omega
theorem canon_id (x : Int) (h1 : 0 ≤ x) (h2 : x ≤ 65535) : canon x = x := by
  unfold canon
  split <;> omega
theorem canon_range (x : Int) : 0 ≤ canon x ∧ canon x ≤ 65535 := by
  unfold canon
  split <;> omega
theorem wt_nonneg (h : Bool) (l : List UInt8) : 0 ≤ wt h l := by
  induction l generalizing h with
  | nil => simp [wt]
  | cons c l ih => have := ih (!h); simp only [wt]; cases h <;> simp <;> simp at this <;> omega
theorem onL_eq : ∀ (l : List UInt8) (n : Int), 0 ≤ n → n ≤ 65535 → onL n l = canon (n + wt true l)
  | [], n, h1, h2 => by simp only [onL, wt]; rw [canon_id _ (by omega) (by omega)]; omega
  | [c], n, h1, h2 => by
    have hc : c.toNat < 256 := c.toNat_lt
    simp only [onL, wt]
    rw [ones_canon _ _ h1 h2 (by omega) (by omega)]
    congr 1
  | c :: d :: l, n, h1, h2 => by
    have hc : c.toNat < 256 := c.toNat_lt
    have hd : d.toNat < 256 := d.toNat_lt
    have hr := ones_range n (256 * c.toNat + d.toNat) h1 h2 (by omega) (by omega)
    simp only [onL]
    rw [onL_eq l _ hr.1 hr.2, ones_canon _ _ h1 h2 (by omega) (by omega), canon_add _ _ (by omega) (wt_nonneg _ _)]
    congr 1
    simp [wt]; omega
theorem onL_range (l : List UInt8) (n : Int) (h1 : 0 ≤ n) (h2 : n ≤ 65535) : 0 ≤ onL n l ∧ onL n l ≤ 65535 := by
  rw [onL_eq l n h1 h2]; exact canon_range _
theorem onS_range (s : ByteArray) (n : Int) (h1 : 0 ≤ n) (h2 : n ≤ 65535) : 0 ≤ onS n s ∧ onS n s ≤ 65535 := onL_range _ n h1 h2
theorem onS_eq (s : ByteArray) (n : Int) (h1 : 0 ≤ n) (h2 : n ≤ 65535) : onS n s = canon (n + wt true s.data.toList) := onL_eq _ n h1 h2
theorem onL_append : ∀ (a b : List UInt8) (n : Int), a.length % 2 = 0 → onL n (a ++ b) = onL (onL n a) b
  | [], b, n, _ => rfl
  | [c], b, n, h => by simp at h
  | c :: d :: l, b, n, h => by
    simp only [List.cons_append, onL]
    exact onL_append l b _ (by simp at h; omega)
theorem wt_append (h : Bool) (a b : List UInt8) : wt h (a ++ b) = wt h a + wt (if a.length % 2 = 0 then h else !h) b := by
  induction a generalizing h with
  | nil => simp [wt]
  | cons c l ih =>
    simp only [List.cons_append, wt, ih (!h), List.length_cons, Bool.not_not]
    rcases Nat.mod_two_eq_zero_or_one l.length with e | e
    · have e2 : ¬ (l.length + 1) % 2 = 0 := by omega
      simp only [e, e2, if_true, if_false]; omega
    · have e1 : ¬ l.length % 2 = 0 := by omega
      have e2 : (l.length + 1) % 2 = 0 := by omega
      simp only [e1, e2, if_true, if_false]; omega
theorem wt_turn (l : List UInt8) : ∃ k : Int, 256 * wt true l = wt false l + 65535 * k := by
  suffices h : (∃ k : Int, 256 * wt true l = wt false l + 65535 * k) ∧ ∃ k : Int, 256 * wt false l = wt true l + 65535 * k from h.1
  induction l with
  | nil => exact ⟨⟨0, by simp [wt]⟩, ⟨0, by simp [wt]⟩⟩
  | cons c l ih =>
    obtain ⟨⟨k, hk⟩, ⟨m, hm⟩⟩ := ih
    refine ⟨⟨c.toNat + m, ?_⟩, ⟨k, ?_⟩⟩
    · simp [wt]; omega
    · simp [wt]; omega
theorem wt_zero (l : List UInt8) : wt true l = 0 ↔ wt false l = 0 := by
  have hs : ∀ h : Bool, wt h l = 0 ↔ ∀ c ∈ l, c.toNat = 0 := by
    intro h
    induction l generalizing h with
    | nil => simp [wt]
    | cons c l ih =>
      have h1 := wt_nonneg (!h) l
      simp only [wt, List.mem_cons, forall_eq_or_imp, ← ih (!h)]
      cases h <;> simp at h1 <;> simp <;> omega
  rw [hs true, hs false]

/-! what the laws ask -/
theorem join_sums (a b : List UInt8) : join (onL 0 a) (onL 0 b) a.length = onL 0 (a ++ b) := by
  have ha := onL_range a 0 (by omega) (by omega)
  have hb := onL_range b 0 (by omega) (by omega)
  have na := wt_nonneg true a
  have nb := wt_nonneg true b
  have nb' := wt_nonneg false b
  rw [onL_eq (a ++ b) 0 (by omega) (by omega), wt_append]
  unfold join
  by_cases e : a.length % 2 = 0
  · rw [if_pos (by omega), if_pos e, ones_canon _ _ ha.1 ha.2 hb.1 hb.2, onL_eq a 0 (by omega) (by omega), onL_eq b 0 (by omega) (by omega)]
    rw [Int.zero_add, Int.zero_add, Int.zero_add, canon_add _ _ na (canon_range _).1, Int.add_comm, canon_add _ _ nb na, Int.add_comm]
  · rw [if_neg (by omega), if_neg e]
    have hs : 0 ≤ swap (onL 0 b) ∧ swap (onL 0 b) ≤ 65535 := by unfold swap; omega
    rw [ones_canon _ _ ha.1 ha.2 hs.1 hs.2, onL_eq a 0 (by omega) (by omega), Int.zero_add, canon_add _ _ na hs.1]
    obtain ⟨k, hk⟩ := wt_turn b
    have hz := wt_zero b
    rw [onL_eq b 0 (by omega) (by omega), Int.zero_add]
    simp only [Bool.not_true, Int.zero_add]
    have hx : swap (canon (wt true b)) = canon (wt false b) := by
      unfold swap canon
      by_cases h0 : wt true b = 0
      · rw [if_pos h0, if_pos (hz.1 h0)]; rfl
      · rw [if_neg h0, if_neg (fun h => h0 (hz.2 h))]
        have : wt true b ≥ 1 := by omega
        have : wt false b ≠ 0 := fun h => h0 (hz.2 h)
        generalize wt true b = x at *
        generalize wt false b = y at *
        omega
    rw [hx, Int.add_comm, canon_add _ _ nb' na, Int.add_comm]
end Go.Proofs.Ytpjndjmneficbaa
