/-
  Calls that turn certain blocks alone; the reader of a command's bytes: take, number, ended; no condition.
-/
import Derived.Test.YtongkfimgohhbaaFl
namespace Go.Proofs.Ytongkfimgohhbaa
open Go.RowKit

/-- All blocks that were there are as they were, but for these. -/
structure Tch (gs : List Nat) (w w' : World) : Prop where
  os : w'.os = w.os
  tape : w'.tape = w.tape
  output : w'.output = w.output
  size : w.heap.size ≤ w'.heap.size
  block : ∀ k, k < w.heap.size → k ∉ gs → w'.heap[k]? = w.heap[k]?
section
variable {gs gs' : List Nat} {w w1 w' : World}
theorem Tch.refl (gs : List Nat) (w : World) : Tch gs w w := ⟨rfl, rfl, rfl, Nat.le_refl _, fun _ _ _ => rfl⟩
theorem Tch.trans (h : Tch gs w w1) (g : Tch gs w1 w') : Tch gs w w' :=
  ⟨g.os.trans h.os, g.tape.trans h.tape, g.output.trans h.output, Nat.le_trans h.size g.size, fun k hk hn => (g.block k (Nat.lt_of_lt_of_le hk h.size) hn).trans (h.block k hk hn)⟩
theorem Tch.mono (h : Tch gs w w') (hs : ∀ k ∈ gs, k ∈ gs') : Tch gs' w w' := ⟨h.os, h.tape, h.output, h.size, fun k hk hn => h.block k hk (fun hm => hn (hs k hm))⟩
theorem Tch.of_below (h : Below w.heap.size w w') (gs : List Nat) : Tch gs w w' := ⟨h.os, h.tape, h.output, h.size, fun k hk _ => h.block k hk⟩
theorem Tch.below (h : Tch gs w w') {B : Nat} (hB : B ≤ w.heap.size) (hg : ∀ k ∈ gs, B ≤ k) : Below B w w' :=
  ⟨h.os, h.tape, h.output, h.size, fun k hk => h.block k (Nat.lt_of_lt_of_le hk hB) (fun hm => by have := hg k hm; omega)⟩
theorem Tch.drew (h : Tch gs w w') : Tch gs w w'.drew := ⟨h.os, h.tape, h.output, h.size, h.block⟩
theorem Tch.drewN (h : Tch gs w w') (n : Nat) : Tch gs w (w'.drewN n) := ⟨h.os, h.tape, h.output, h.size, h.block⟩
theorem Tch.alloc (h : Tch gs w w') (o : Obj) : Tch gs w (w'.alloc o) := h.trans (Tch.of_below ((Below.refl _ _).alloc (Nat.le_refl _) o) gs)
theorem Tch.setCell (h : Tch gs w w') {g : Nat} (hg : g ∈ gs ∨ w.heap.size ≤ g) (i : Nat) (u : Value) : Tch gs w (w'.setCell ⟨g, i, none⟩ u) :=
  ⟨h.os, h.tape, h.output, by simpa [World.setCell] using h.size, fun k hk hn => by
    have hkg : k ≠ g := by
      rintro rfl
      rcases hg with hg | hg
      · exact hn hg
      · omega
    rw [Below.heap_setCell w' ⟨g, i, none⟩ u k hkg]
    exact h.block k hk hn⟩
theorem Tch.trans' (h : Tch gs w w1) (g : Tch gs' w1 w') (hs : ∀ k ∈ gs', k ∈ gs ∨ w.heap.size ≤ k) : Tch gs w w' :=
  ⟨g.os.trans h.os, g.tape.trans h.tape, g.output.trans h.output, Nat.le_trans h.size g.size, fun k hk hn =>
    (g.block k (Nat.lt_of_lt_of_le hk h.size) (fun hm => by rcases hs k hm with h1 | h1; exact hn h1; omega)).trans (h.block k hk hn)⟩
theorem Tch.blk (h : Tch gs w w') {g : Nat} {t : TypeId} {cs : Array Value} (hb : Blk w g t cs) (hn : g ∉ gs) : Blk w' g t cs := hb.same (h.block g hb.lt hn)
/-- a list that stands in none of these blocks -/
def offL (A : Option Addr) (xs : List Value) (g : Nat) : Prop := ∀ b off, 0 < xs.length → A = some ⟨b, off, none⟩ → b ≠ g
theorem Tch.rd (h : Tch gs w w') {B : Nat} {A : Option Addr} {xs : List Value} (hr : Rd B A xs w) (hB : B ≤ w.heap.size) (ho : ∀ g ∈ gs, offL A xs g) : Rd B A xs w' := by
  intro hn
  obtain ⟨b, off, hA, hlt, hc⟩ := hr hn
  refine ⟨b, off, hA, hlt, fun i hi => ?_⟩
  have hb : b ∉ gs := fun hm => ho b hm b off hn hA rfl
  exact (World.cell?_of_block (w := w) (h.block b (by omega) hb)).trans (hc i hi)
end
/-- what the next n bytes are, if they are there -/
def tkS (s : ByteArray) (n : Nat) : ByteArray := if s.size < n then ⟨#[]⟩ else s.extract 0 n
/-- what is left then -/
def tkR (s : ByteArray) (n : Nat) : ByteArray := if s.size < n then s else s.extract n s.size
/-- was more asked for than there was? -/
def tkB (s : ByteArray) (n : Nat) (b : Bool) : Bool := if s.size < n then true else b
theorem tkR_size (s : ByteArray) (n : Nat) : (tkR s n).size ≤ s.size := by
  unfold tkR
  split
  · omega
  · rw [ByteArray.size_extract]; omega
@[reducible] def rdC (s : ByteArray) (b : Bool) : Array Value := #[.string s, .bool b]
theorem take_any (h : Nat) (s : ByteArray) (b : Bool) (n : Nat) (w : World) (hs : s.size ≤ maxLen) (hn : n ≤ 65535) (hb : Blk w h 64 (rdC s b)) :
    Calls Try.prog 64 #[.pointer (some ⟨h, 0, none⟩), .int .i64 n] w fun e w' =>
      e = .returned (.string (tkS s n)) ∧ Blk w' h 64 (rdC (tkR s n) (tkB s n b)) ∧ Tch [h] w w' := by
  have _ := hs
  unfold maxLen at hs
  unfold tkS tkR tkB
  have c0 := hb.cell 0
  have c1 := hb.cell 1
  simp only [List.getElem?_toArray, List.getElem?_cons_zero, List.getElem?_cons_succ] at c0 c1
  have f0 := hb.frozen 0
  have f1 := hb.frozen 1
  by_cases hlt : s.size < n
  · rw [if_pos hlt, if_pos hlt, if_pos hlt]
    have HP := Lib.hid (hb.put 1 (.bool true))
    have HT := Lib.hid ((Tch.refl [h] w).setCell (g := h) (.inl (by simp)) 1 (.bool true))
    clear hb
    go_enter Try.func64, Try.ntmps64
    go_wp2
    go_ret
    exact ⟨rfl, HP.out, HT.out⟩
  · rw [if_neg hlt, if_neg hlt, if_neg hlt]
    have HP := Lib.hid (hb.put 0 (.string (s.extract n s.size)))
    have HT := Lib.hid ((Tch.refl [h] w).setCell (g := h) (.inl (by simp)) 0 (.string (s.extract n s.size)))
    clear hb
    go_enter Try.func64, Try.ntmps64
    go_wp2
    go_ret
    exact ⟨rfl, HP.out, HT.out⟩
/-- have all bytes been taken, and no more? -/
theorem ended_any (h : Nat) (s : ByteArray) (b : Bool) (w : World) (hb : Blk w h 64 (rdC s b)) :
    Calls Try.prog 36 #[.pointer (some ⟨h, 0, none⟩)] w fun e w' =>
      e = .returned (.bool (!b && s.size == 0)) ∧ w = w' := by
  have c0 := hb.cell 0
  have c1 := hb.cell 1
  simp only [List.getElem?_toArray, List.getElem?_cons_zero, List.getElem?_cons_succ] at c0 c1
  clear hb
  have he : (s.toList == ([] : List UInt8)) = (s.size == 0) := by
    rw [ByteArray.toList_eq]
    rw [Bool.eq_iff_iff]
    simp only [beq_iff_eq]
    constructor
    · intro h
      have := congrArg List.length h
      simpa using this
    · intro h
      exact List.eq_nil_of_length_eq_zero h
  generalize (s.size == 0) = z at he ⊢
  cases b
  · go_enter Try.func36, Try.ntmps36
    go_wp2
    go_ret
    exact ⟨by simp, rfl⟩
  · go_enter Try.func36, Try.ntmps36
    go_wp2
    go_ret
    exact ⟨rfl, rfl⟩
/-- the number in the next n bytes; 0 if they are not there -/
def nm (s : ByteArray) (n : Nat) : Nat := if s.size < n then 0 else val (cutl s 0 n)
theorem nm_lt (s : ByteArray) (n : Nat) : nm s n < 256 ^ n := by
  unfold nm
  split
  · exact Nat.pow_pos (by decide)
  · rename_i h
    have := val_lt (cutl s 0 n)
    rwa [cutl_length s 0 n (by omega)] at this
theorem getV_tk (s : ByteArray) (n : Nat) (h1 : 1 ≤ n) (h2 : n ≤ 4) : getV (tkS s n) 0 n false = (nm s n : Int) := by
  unfold getV nm tkS
  by_cases hlt : s.size < n
  · rw [if_pos hlt, if_pos hlt, if_neg (by show ¬ (1 ≤ (n : Int) ∧ (n : Int) ≤ 8 ∧ (0 : Int) ≤ 0 ∧ (0 : Int) + n ≤ ((⟨#[]⟩ : ByteArray).size : Int)); show ¬ (1 ≤ (n : Int) ∧ (n : Int) ≤ 8 ∧ (0 : Int) ≤ 0 ∧ (0 : Int) + n ≤ ((0 : Nat) : Int)); omega)]; rfl
  · rw [if_neg hlt, if_neg hlt]
    have hz : (s.extract 0 n).size = n := by rw [ByteArray.size_extract]; omega
    rw [hz, if_pos (by omega)]
    congr 1
    show val (cutl (s.extract 0 n) 0 n) = _
    congr 1
    simp only [cutl, ByteArray.data_extract, Array.toList_extract, List.extract, List.drop_zero, Nat.sub_zero, List.take_take, Nat.min_self]
theorem number_any (h : Nat) (s : ByteArray) (b : Bool) (n : Nat) (w : World) (hs : s.size ≤ maxLen) (h1 : 1 ≤ n) (h2 : n ≤ 4) (hb : Blk w h 64 (rdC s b)) :
    Calls Try.prog 51 #[.pointer (some ⟨h, 0, none⟩), .int .i64 n] w fun e w' =>
      e = .returned (.int .i64 (nm s n : Nat)) ∧ Blk w' h 64 (rdC (tkR s n) (tkB s n b)) ∧ Tch [h] w w' := by
  have HT := Lib.hid (take_any h s b n w hs (by omega) hb)
  have hq : (tkS s n).size ≤ maxLen := by
    unfold tkS
    split
    · exact Nat.zero_le _
    · rw [ByteArray.size_extract]; omega
  have HG := Lib.hid (fun W => get_any (tkS s n) 0 n false W hq)
  rw [getV_tk s n h1 h2] at HG
  have hlt : nm s n < 256 ^ 4 := Nat.lt_of_lt_of_le (nm_lt s n) (Nat.pow_le_pow_right (by decide) h2)
  have hw : IntKind.i64.wrap (nm s n : Int) = (nm s n : Int) := IntWalk.i64_in _ (by omega)
  generalize nm s n = v at *
  generalize tkS s n = q at *
  clear hb hq hlt
  go_enter Try.func51, Try.ntmps51
  go_wp2_with (first | (go_at_call 64; ((with_reducible refine (HT.out).mono ?_); rintro e w1 ⟨rfl, hk, ht⟩; have HK := Lib.hid hk; have HQ := Lib.hid ht; clear hk ht)) | (go_at_call 63; ((with_reducible refine (HG.out _).mono ?_); rintro e w2 ⟨rfl, hq⟩; have HB := Lib.hid hq; clear hq)))
  go_ret
  exact ⟨rfl, HK.out.same (HB.out.block _ HK.out.lt), HQ.out.trans (Tch.of_below HB.out _)⟩
end Go.Proofs.Ytongkfimgohhbaa
