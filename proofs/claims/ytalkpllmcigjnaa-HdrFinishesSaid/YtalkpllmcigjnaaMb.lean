/-
  Sums: what the package csum and its document answer.
-/
import Derived.Lib.EndianBits
import Derived.Test.YtalkpllmcigjnaaRows
import Derived.WalkKit
import Derived.WalkSpells
import Derived.WalkLawsBesides
import Derived.Test.YtalkpllmcigjnaaMa
import Derived.Deep.QuietTactic
import Derived.BigQuiet
import Derived.StillTailTactics
import Derived.Below
import Derived.Lib.Hide
namespace Go.Proofs.Ytalkpllmcigjnaa

def ones (a b : Int) : Int := if 65536 ≤ a + b then a + b - 65535 else a + b
def onL : Int → List UInt8 → Int
  | n, [] => n
  | n, [c] => ones n (256 * c.toNat)
  | n, c :: d :: l => onL (ones n (256 * c.toNat + d.toNat)) l
def onS (n : Int) (s : ByteArray) : Int := onL n s.data.toList
def swap (b : Int) : Int := b % 256 * 256 + b / 256
def upd (a b c : Int) : Int := 65535 - ones (ones (65535 - a) (65535 - b)) c
def join (a b n : Int) : Int := ones a (if n % 2 = 0 then b else swap b)

/-- what a sum comes to, whatever it is -/
def canon (x : Int) : Int := if x = 0 then 0 else (x - 1) % 65535 + 1
def wt : Bool → List UInt8 → Int
  | _, [] => 0
  | h, c :: l => (if h then 256 else 1) * (c.toNat : Int) + wt (!h) l

theorem ones_canon (a b : Int) (h1 : 0 ≤ a) (h2 : a ≤ 65535) (h3 : 0 ≤ b) (h4 : b ≤ 65535) : ones a b = canon (a + b) := by
  unfold ones canon
  split <;> split <;> omega
theorem ones_range (a b : Int) (h1 : 0 ≤ a) (h2 : a ≤ 65535) (h3 : 0 ≤ b) (h4 : b ≤ 65535) : 0 ≤ ones a b ∧ ones a b ≤ 65535 := by
  unfold ones
  split <;> omega
theorem canon_add (x y : Int) (hx : 0 ≤ x) (hy : 0 ≤ y) : canon (canon x + y) = canon (x + y) := by
  unfold canon
  split <;> split <;> split <;> omega
theorem canon_id (x : Int) (h1 : 0 ≤ x) (h2 : x ≤ 65535) : canon x = x := by
  unfold canon
  split <;> omega
theorem canon_range (x : Int) : 0 ≤ canon x ∧ canon x ≤ 65535 := by
  unfold canon
  split <;> omega
theorem wt_nonneg (h : Bool) (l : List UInt8) : 0 ≤ wt h l := by
  induction l generalizing h with
  | nil => simp [wt]
  | cons c l ih => have := ih (!h); simp only [wt]; cases h <;> simp <;> simp at this <;> omega
theorem onL_eq : ∀ (l : List UInt8) (n : Int), 0 ≤ n → n ≤ 65535 → onL n l = canon (n + wt true l)
  | [], n, h1, h2 => by simp only [onL, wt]; rw [canon_id _ (by omega) (by omega)]; omega
  | [c], n, h1, h2 => by
    have hc : c.toNat < 256 := c.toNat_lt
    simp only [onL, wt]
    rw [ones_canon _ _ h1 h2 (by omega) (by omega)]
    congr 1
  | c :: d :: l, n, h1, h2 => by
    have hc : c.toNat < 256 := c.toNat_lt
    have hd : d.toNat < 256 := d.toNat_lt
    have hr := ones_range n (256 * c.toNat + d.toNat) h1 h2 (by omega) (by omega)
    simp only [onL]
    rw [onL_eq l _ hr.1 hr.2, ones_canon _ _ h1 h2 (by omega) (by omega), canon_add _ _ (by omega) (wt_nonneg _ _)]
    congr 1
    simp [wt]; omega
theorem onL_range (l : List UInt8) (n : Int) (h1 : 0 ≤ n) (h2 : n ≤ 65535) : 0 ≤ onL n l ∧ onL n l ≤ 65535 := by
  rw [onL_eq l n h1 h2]; exact canon_range _
theorem onS_range (s : ByteArray) (n : Int) (h1 : 0 ≤ n) (h2 : n ≤ 65535) : 0 ≤ onS n s ∧ onS n s ≤ 65535 := onL_range _ n h1 h2
theorem onS_eq (s : ByteArray) (n : Int) (h1 : 0 ≤ n) (h2 : n ≤ 65535) : onS n s = canon (n + wt true s.data.toList) := onL_eq _ n h1 h2
theorem onL_append : ∀ (a b : List UInt8) (n : Int), a.length % 2 = 0 → onL n (a ++ b) = onL (onL n a) b
  | [], b, n, _ => rfl
  | [c], b, n, h => by simp at h
  | c :: d :: l, b, n, h => by
    simp only [List.cons_append, onL]
    exact onL_append l b _ (by simp at h; omega)
theorem wt_append (h : Bool) (a b : List UInt8) : wt h (a ++ b) = wt h a + wt (if a.length % 2 = 0 then h else !h) b := by
  induction a generalizing h with
  | nil => simp [wt]
  | cons c l ih =>
    simp only [List.cons_append, wt, ih (!h), List.length_cons, Bool.not_not]
    rcases Nat.mod_two_eq_zero_or_one l.length with e | e
    · have e2 : ¬ (l.length + 1) % 2 = 0 := by omega
      simp only [e, e2, if_true, if_false]; omega
    · have e1 : ¬ l.length % 2 = 0 := by omega
      have e2 : (l.length + 1) % 2 = 0 := by omega
      simp only [e1, e2, if_true, if_false]; omega
theorem wt_turn (l : List UInt8) : ∃ k : Int, 256 * wt true l = wt false l + 65535 * k := by
  suffices h : (∃ k : Int, 256 * wt true l = wt false l + 65535 * k) ∧ ∃ k : Int, 256 * wt false l = wt true l + 65535 * k from h.1
  induction l with
  | nil => exact ⟨⟨0, by simp [wt]⟩, ⟨0, by simp [wt]⟩⟩
  | cons c l ih =>
    obtain ⟨⟨k, hk⟩, ⟨m, hm⟩⟩ := ih
    refine ⟨⟨c.toNat + m, ?_⟩, ⟨k, ?_⟩⟩
    · simp [wt]; omega
    · simp [wt]; omega
theorem wt_zero (l : List UInt8) : wt true l = 0 ↔ wt false l = 0 := by
  have hs : ∀ h : Bool, wt h l = 0 ↔ ∀ c ∈ l, c.toNat = 0 := by
    intro h
    induction l generalizing h with
    | nil => simp [wt]
    | cons c l ih =>
      have h1 := wt_nonneg (!h) l
      simp only [wt, List.mem_cons, forall_eq_or_imp, ← ih (!h)]
      cases h <;> simp at h1 <;> simp <;> omega
  rw [hs true, hs false]

/-! what the laws ask -/
theorem join_sums (a b : List UInt8) : join (onL 0 a) (onL 0 b) a.length = onL 0 (a ++ b) := by
  have ha := onL_range a 0 (by omega) (by omega)
  have hb := onL_range b 0 (by omega) (by omega)
  have na := wt_nonneg true a
  have nb := wt_nonneg true b
  have nb' := wt_nonneg false b
  rw [onL_eq (a ++ b) 0 (by omega) (by omega), wt_append]
  unfold join
  by_cases e : a.length % 2 = 0
  · rw [if_pos (by omega), if_pos e, ones_canon _ _ ha.1 ha.2 hb.1 hb.2, onL_eq a 0 (by omega) (by omega), onL_eq b 0 (by omega) (by omega)]
    rw [Int.zero_add, Int.zero_add, Int.zero_add, canon_add _ _ na (canon_range _).1, Int.add_comm, canon_add _ _ nb na, Int.add_comm]
  · rw [if_neg (by omega), if_neg e]
    have hs : 0 ≤ swap (onL 0 b) ∧ swap (onL 0 b) ≤ 65535 := by unfold swap; omega
    rw [ones_canon _ _ ha.1 ha.2 hs.1 hs.2, onL_eq a 0 (by omega) (by omega), Int.zero_add, canon_add _ _ na hs.1]
    obtain ⟨k, hk⟩ := wt_turn b
    have hz := wt_zero b
    rw [onL_eq b 0 (by omega) (by omega), Int.zero_add]
    simp only [Bool.not_true, Int.zero_add]
    have hx : swap (canon (wt true b)) = canon (wt false b) := by
      unfold swap canon
      by_cases h0 : wt true b = 0
      · rw [if_pos h0, if_pos (hz.1 h0)]; rfl
      · rw [if_neg h0, if_neg (fun h => h0 (hz.2 h))]
        have : wt true b ≥ 1 := by omega
        have : wt false b ≠ 0 := fun h => h0 (hz.2 h)
        generalize wt true b = x at *
        generalize wt false b = y at *
        omega
    rw [hx, Int.add_comm, canon_add _ _ nb' na, Int.add_comm]
end Go.Proofs.Ytalkpllmcigjnaa
namespace Go.Proofs.Ytalkpllmcigjnaa
open Go.RowKit


theorem word_any (a b : Nat) (w : World) (ha : a < 256) (hb : b < 256) :
    Calls Try.prog 70 #[.int .u8 a, .int .u8 b] w fun e w' => e = .returned (.int .u16 (256 * a + b)) ∧ w = w' := by
  go_enter Try.func70, Try.ntmps70
  go_wp2
  go_ret
  have e : bits .or .u16 ((a : Int) * 256) b = 256 * a + b := by
    rw [bits_join .u16 16 (by decide) wraps_u16 8 _ _ (by omega) (by omega) (by omega) (by omega) (by omega) (by omega)]; omega
  exact ⟨by rw [← e]; rfl, rfl⟩

theorem ones_any (a b : Int) (w : World) (h1 : 0 ≤ a) (h2 : a ≤ 65535) (h3 : 0 ≤ b) (h4 : b ≤ 65535) :
    Calls Try.prog 81 #[.int .i64 a, .int .i64 b] w fun e w' => e = .returned (.int .i64 (ones a b)) ∧ w = w' := by
  unfold ones
  by_cases h : 65536 ≤ a + b
  · rw [if_pos h]
    go_enter Try.func81, Try.ntmps81
    go_wp2
    go_ret
    exact ⟨by rw [show a + b - 65535 = a + b - 65536 + 1 by omega]; rfl, rfl⟩
  · rw [if_neg h]
    go_enter Try.func81, Try.ntmps81
    go_wp2
    go_ret
    exact ⟨rfl, rfl⟩

theorem add_any (b : Nat) (s x : Int) (w : World) (h1 : 0 ≤ s) (h2 : s ≤ 65535) (h3 : 0 ≤ x) (h4 : x ≤ 65535)
    (hc : w.cell? ⟨b, 0, none⟩ = some (.int .u16 s)) (hf : w.frozen? ⟨b, 0, none⟩ = false) :
    Calls Try.prog 107 #[.int .u16 x, .pointer (some ⟨b, 0, none⟩)] w fun e w' => e = .returned (.int .u16 (ones s x)) ∧ w' = w.setCell ⟨b, 0, none⟩ (.int .u16 (ones s x)) := by
  have e : IntKind.u16.wrap (IntKind.u16.wrap (s + x) + (s + x) / 65536) = ones s x := by
    simp only [IntKind.wrap_u16]; unfold ones; split <;> omega
  go_enter Try.func107, Try.ntmps107
  go_wp2
  go_ret
  exact ⟨rfl, rfl⟩

theorem adder_any (s : Int) (w : World) :
    Calls Try.prog 69 #[.int .u16 s] w fun e w' => e = .returned (.func (.func 107) #[] #[.pointer (some ⟨w.heap.size, 0, none⟩)]) ∧ w' = w.alloc (.cells #[.int .u16 s] 60) := by
  go_enter Try.func69, Try.ntmps69
  go_wp2
  go_ret
  exact ⟨rfl, rfl⟩
end Go.Proofs.Ytalkpllmcigjnaa
namespace Go.Proofs.Ytalkpllmcigjnaa
open Go.RowKit

theorem word_last (a : Nat) (w : World) (ha : a < 256) : Calls Try.prog 70 #[.int .u8 a, .int .u8 0] w fun e w' => e = .returned (.int .u16 (256 * a)) ∧ w = w' := by
  have h := word_any a 0 w ha (by omega)
  simpa using h
theorem take_two (l : List UInt8) (k : Nat) (h : 2 * k + 1 < l.length) : l.take (2 * (k + 1)) = l.take (2 * k) ++ [l[2 * k], l[2 * k + 1]] := by
  have e : ∀ j (hj : j < l.length), l.take (j + 1) = l.take j ++ [l[j]] := fun j hj => by rw [List.take_add_one, List.getElem?_eq_getElem hj]; rfl
  rw [show 2 * (k + 1) = 2 * k + 1 + 1 by omega, e _ h, e _ (by omega)]
  rw [List.append_assoc]; rfl
theorem on_round (s : ByteArray) (n : Int) (k : Nat) (h : 2 * k + 1 < s.size) :
    onL n (s.data.toList.take (2 * (k + 1))) = ones (onL n (s.data.toList.take (2 * k))) (256 * (s[2 * k].toNat : Int) + s[2 * k + 1].toNat) := by
  have hl : s.data.toList.length = s.size := rfl
  rw [take_two _ _ (by omega), onL_append _ _ _ (by rw [List.length_take]; omega)]
  rfl
theorem on_end (s : ByteArray) (n : Int) (k : Nat) (h : 2 * k + 1 = s.size) :
    onL n s.data.toList = ones (onL n (s.data.toList.take (2 * k))) (256 * (s[2 * k].toNat : Int)) := by
  have hl : s.data.toList.length = s.size := rfl
  have e : s.data.toList = s.data.toList.take (2 * k) ++ [s.data.toList[2 * k]] := by
    have e1 := List.take_add_one (l := s.data.toList) (i := 2 * k)
    rw [List.getElem?_eq_getElem (by omega), List.take_of_length_le (by omega)] at e1
    exact e1
  conv => lhs; rw [e]
  rw [onL_append _ _ _ (by rw [List.length_take]; omega)]
  rfl

set_option maxRecDepth 100000 in
set_option maxHeartbeats 1600000 in
theorem on_any (n : Int) (s : ByteArray) (w : World) (h1 : 0 ≤ n) (h2 : n ≤ 65535) (hs : s.size ≤ maxLen) :
    Calls Try.prog 31 #[.int .u16 n, .string s] w fun e w' => e = .returned (.int .u16 (onS n s)) ∧ Below w.heap.size w w' := by
  unfold maxLen at hs
  go_enter Try.func31, Try.ntmps31
  go_wp2_with (go_at_call 69; refine (adder_any _ _).mono ?_; rintro e w1 ⟨rfl, rfl⟩)
  go_loopw [0, 12] (fun v i wr => ∃ k : Nat, k ≤ s.size / 2 ∧ i = .int .i64 k ∧ v = .int .u16 (onL n (s.data.toList.take (2 * k))) ∧
      wr.cell? ⟨w.heap.size, 0, none⟩ = some (.int .u16 (onL n (s.data.toList.take (2 * k)))) ∧ wr.frozen? ⟨w.heap.size, 0, none⟩ = false ∧ Below w.heap.size w wr) (fun _ i _ => s.size / 2 - (intOf i).toNat)
  case atStart => exact ⟨0, Nat.zero_le _, rfl, rfl, by rw [World.cell?_alloc_at _ _ _ _ rfl]; rfl, World.frozen?_alloc_at _ _ _ _ rfl, (Below.refl _ _).alloc (Nat.le_refl _) _⟩
  case round =>
    obtain ⟨k, hk, rfl, rfl, hc, hf, hb⟩ := hrel
    by_cases hlt : k < s.size / 2
    · go_wp2_with fail
      have e1 : 2 * k < s.size := by omega
      have e2 : 2 * k + 1 < s.size := by omega
      have e3 : (2 * (k : Int)).toNat = 2 * k := by omega
      have e4 : (2 * (k : Int) + 1).toNat = 2 * k + 1 := by omega
      have e5 : IntKind.i64.wrap (2 * (k : Int)) = 2 * k := IntWalk.i64_in _ (by omega)
      have e6 : IntKind.i64.wrap (2 * (k : Int) + 1) = 2 * k + 1 := IntWalk.i64_in _ (by omega)
      have e7 : (0 : Int) ≤ 2 * (k : Int) := by omega
      have e8 : 2 * (k : Int) < s.size := by omega
      have e9 : (0 : Int) ≤ 2 * (k : Int) + 1 := by omega
      have e10 : 2 * (k : Int) + 1 < s.size := by omega
      go_still_tail 11, (by kernel_rfl)
      still_call ((word_any _ _ _ (UInt8.toNat_lt _) (UInt8.toNat_lt _)).mono fun e w' ⟨he, hw⟩ => ⟨he, hw.symm⟩)
      refine wpStill_nil ?_
      change wpList _ _ _ _ _ wr.drew
      have hc2 : wr.drew.cell? ⟨w.heap.size, 0, none⟩ = some (.int .u16 (onL n (s.data.toList.take (2 * k)))) := hc
      have hf2 : wr.drew.frozen? ⟨w.heap.size, 0, none⟩ = false := hf
      have hb2 : Below w.heap.size w wr.drew := hb.drew
      have hr := onL_range (s.data.toList.take (2 * k)) n h1 h2
      have hx1 : s[2 * k].toNat < 256 := s[2 * k].toNat_lt
      have hx2 : s[2 * k + 1].toNat < 256 := s[2 * k + 1].toNat_lt
      have hround := on_round s n k e2
      clear hc hf hb e5 e6
      generalize wr.drew = w2 at *
      go_wp2_with (go_at_call 107; refine (add_any _ _ _ _ hr.1 hr.2 (by omega) (by omega) hc2 hf2).mono ?_; rintro e w3 ⟨rfl, rfl⟩)
      go_roundw
      case rel => exact ⟨k + 1, by omega, by go_num, by rw [hround], by rw [World.cell?_setCell_same _ _ _ hc2, hround], (World.frozen?_setCell _ _ _ _).trans hf2, hb2.setCell (Nat.le_refl _) _⟩
      case measure => simp [intOf]; omega
    · obtain rfl : k = s.size / 2 := by omega
      have hr := onL_range (s.data.toList.take (2 * (s.size / 2))) n h1 h2
      by_cases hodd : s.size % 2 = 0
      · have hall : onL n (s.data.toList.take (2 * (s.size / 2))) = onS n s := by
          rw [List.take_of_length_le]; rfl
          show s.size ≤ _; omega
        rw [hall] at *
        go_wp2
        go_ret
        exact ⟨rfl, hb⟩
      · have e1 : s.size - 1 < s.size := by omega
        have hx1 : s[s.size - 1].toNat < 256 := s[s.size - 1].toNat_lt
        have hend : onS n s = ones (onL n (s.data.toList.take (2 * (s.size / 2)))) (256 * (s[s.size - 1].toNat : Int)) := by
          rw [onS, on_end s n (s.size / 2) (by omega)]
          congr 3
          congr 1
          congr 1
          omega
        go_wp2_with (first
          | (go_at_call 70; refine (word_last _ _ hx1).mono ?_; rintro e w3 ⟨rfl, rfl⟩)
          | (go_at_call 107; refine (add_any _ _ _ _ hr.1 hr.2 (by omega) (by omega) hc hf).mono ?_; rintro e w3 ⟨rfl, rfl⟩))
        go_ret
        exact ⟨by rw [hend]; rfl, hb.setCell (Nat.le_refl _) _⟩
end Go.Proofs.Ytalkpllmcigjnaa
namespace Go.Proofs.Ytalkpllmcigjnaa
open Go.RowKit

set_option maxHeartbeats 400000 in
theorem onr_any (n : Int) (s : ByteArray) (w : World) (h1 : 0 ≤ n) (h2 : n ≤ 65535) (hs : s.size < maxLen) :
    Calls Try.prog 39 #[.int .u16 n, .string s] w fun e w' => e = .returned (.int .u16 (onS n s)) ∧ w = w' := by
  unfold maxLen at hs
  go_enter Try.func39, Try.ntmps39
  go_wp2
  go_loop [5, 6] (fun v i => ∃ k : Nat, 2 * k ≤ s.size + 1 ∧ i = .int .i64 (2 * k) ∧ v = .int .i64 (onL n (s.data.toList.take (2 * k)))) (fun _ i => s.size + 1 - (intOf i).toNat)
  case atStart => exact ⟨0, by omega, rfl, rfl⟩
  case round =>
    obtain ⟨k, hk, rfl, rfl⟩ := hrel
    have hr := onL_range (s.data.toList.take (2 * k)) n h1 h2
    by_cases hlt : 2 * k < s.size
    · have hx1 : s[2 * k].toNat < 256 := s[2 * k].toNat_lt
      by_cases hlt2 : 2 * k + 1 < s.size
      · have hx2 : s[2 * k + 1].toNat < 256 := s[2 * k + 1].toNat_lt
        have hround := on_round s n k hlt2
        go_wp2_with (go_at_call 81; refine (ones_any _ _ _ hr.1 hr.2 (by omega) (by omega)).mono ?_; rintro e w3 ⟨rfl, rfl⟩)
        go_round
        case rel => exact ⟨k + 1, by omega, by go_num, by rw [hround, Int.mul_comm]⟩
        case measure => simp [intOf]; omega
      · have hend := on_end s n k (by omega)
        have hall : s.data.toList.take (2 * (k + 1)) = s.data.toList := by
          rw [List.take_of_length_le]; show s.size ≤ _; omega
        go_wp2_with (go_at_call 81; refine (ones_any _ _ _ hr.1 hr.2 (by omega) (by omega)).mono ?_; rintro e w3 ⟨rfl, rfl⟩)
        go_round
        case rel => exact ⟨k + 1, by omega, by go_num, by rw [hall, hend, Int.mul_comm]⟩
        case measure => simp [intOf]; omega
    · have hall : onL n (s.data.toList.take (2 * k)) = onS n s := by
        rw [List.take_of_length_le]; rfl
        show s.size ≤ _; omega
      rw [hall] at hr ⊢
      have hw := wraps_u16 (onS n s) hr.1 (by omega)
      go_wp2
      go_ret
      exact ⟨rfl, rfl⟩
end Go.Proofs.Ytalkpllmcigjnaa
namespace Go.Proofs.Ytalkpllmcigjnaa
open Go.RowKit

theorem not_u16 (x : Int) (h1 : 0 ≤ x) (h2 : x ≤ 65535) : bits .xor .u16 IntKind.u16.max x = 65535 - x := by
  obtain ⟨n, rfl⟩ := Int.eq_ofNat_of_zero_le h1
  show IntKind.u16.wrap (((BitVec.allOnes 16 ^^^ BitVec.ofInt 16 (n : Int)).toNat : Nat) : Int) = _
  rw [BitVec.allOnes_xor, BitVec.ofInt_natCast, BitVec.toNat_not, BitVec.toNat_ofNat, IntKind.wrap_u16]
  omega

theorem add_new (s x : Int) (w : World) (h1 : 0 ≤ s) (h2 : s ≤ 65535) (h3 : 0 ≤ x) (h4 : x ≤ 65535) :
    Calls Try.prog 107 #[.int .u16 x, .pointer (some ⟨w.heap.size, 0, none⟩)] (w.alloc (.cells #[.int .u16 s] 60)) fun e w' => e = .returned (.int .u16 (ones s x)) ∧ w' = w.alloc (.cells #[.int .u16 (ones s x)] 60) := by
  refine (add_any w.heap.size s x _ h1 h2 h3 h4 (by rw [World.cell?_alloc_at _ _ _ _ rfl]; rfl) (World.frozen?_alloc_at _ _ _ _ rfl)).mono fun e w' ⟨he, hw⟩ => ⟨he, ?_⟩
  rw [hw]
  go_simp

theorem sum_any (s : ByteArray) (w : World) (hs : s.size ≤ maxLen) :
    Calls Try.prog 92 #[.string s] w fun e w' => e = .returned (.int .u16 (65535 - onS 0 s)) ∧ Below w.heap.size w w' := by
  have hr := onS_range s 0 (by omega) (by omega)
  have hx := not_u16 (onS 0 s) hr.1 hr.2
  go_enter Try.func92, Try.ntmps92
  go_wp2_with (go_at_call 31; refine (on_any 0 s _ (by omega) (by omega) hs).mono ?_; rintro e w1 ⟨rfl, hb⟩)
  go_ret
  exact ⟨rfl, hb⟩
theorem sumr_any (s : ByteArray) (w : World) (hs : s.size < maxLen) :
    Calls Try.prog 64 #[.string s] w fun e w' => e = .returned (.int .u16 (65535 - onS 0 s)) ∧ w = w' := by
  have hr := onS_range s 0 (by omega) (by omega)
  go_enter Try.func64, Try.ntmps64
  go_wp2_with (go_at_call 39; refine (onr_any 0 s _ (by omega) (by omega) hs).mono ?_; rintro e w1 ⟨rfl, rfl⟩)
  go_ret
  exact ⟨rfl, rfl⟩
end Go.Proofs.Ytalkpllmcigjnaa
