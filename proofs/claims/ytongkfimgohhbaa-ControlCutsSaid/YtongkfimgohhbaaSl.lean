/-
  slices.Clone, BinarySearch, Insert and Delete of lists of texts and of numbers, in rows of the caller's own; no condition.
-/
import Derived.Test.YtongkfimgohhbaaSm
import Derived.Shelf.Slices.Clone
import Derived.Shelf.Slices.SearchI
import Derived.Shelf.Slices.Cells
import Derived.Shelf.Slices.Empties
import Derived.Shelf.Spec.SlicesInsertGrow
import Derived.Ground.Names2Prog
namespace Go.Proofs.Ytongkfimgohhbaa
open Go.RowKit

def lclone_i_ren : Go.Shelf.Ren := ⟨fun | 15 => 57 | n => n, fun | 22 => 23 | 3 => 3 | 4 => 4 | n => n, fun | n => n⟩
theorem lclone_i : Go.Proofs.Lays2.n15 Try.prog lclone_i_ren := {
  mixed := by kernel_rfl
  f15 := Try.func57.trans (congrArg some (by kernel_rfl))
  t3 := Try.underlying3
  a3 := Try.isAgg3
  z3 := Try.sizeOf3
  v3 := Try.zeroValue3
  t4 := Try.underlying4
  a4 := Try.isAgg4
  z4 := Try.sizeOf4
  v4 := Try.zeroValue4
  t22 := Try.underlying23
  a22 := Try.isAgg23
  z22 := Try.sizeOf23
  v22 := Try.zeroValue23
  i3 := by kernel_rfl }
def lclone_s_ren : Go.Shelf.Ren := ⟨fun | 16 => 56 | n => n, fun | 24 => 22 | 9 => 9 | 4 => 4 | n => n, fun | n => n⟩
theorem lclone_s : Go.Proofs.Lays2.n16 Try.prog lclone_s_ren := {
  mixed := by kernel_rfl
  f16 := Try.func56.trans (congrArg some (by kernel_rfl))
  t4 := Try.underlying4
  a4 := Try.isAgg4
  z4 := Try.sizeOf4
  v4 := Try.zeroValue4
  t9 := Try.underlying9
  a9 := Try.isAgg9
  z9 := Try.sizeOf9
  v9 := Try.zeroValue9
  t24 := Try.underlying22
  a24 := Try.isAgg22
  z24 := Try.sizeOf22
  v24 := Try.zeroValue22
  i9 := by kernel_rfl }
def lsearch_ren : Go.Shelf.Ren := ⟨fun | 25 => 77 | 31 => 86 | 32 => 87 | 37 => 94 | n => n, fun | 22 => 23 | 3 => 3 | 4 => 4 | 40 => 120 | 0 => 0 | n => n, fun | n => n⟩
theorem lsearch : Go.Proofs.Lays2.n25 Try.prog lsearch_ren := {
  mixed := by kernel_rfl
  f25 := Try.func77.trans (congrArg some (by kernel_rfl))
  f31 := Try.func86.trans (congrArg some (by kernel_rfl))
  f32 := Try.func87.trans (congrArg some (by kernel_rfl))
  f37 := Try.func94.trans (congrArg some (by kernel_rfl))
  t0 := Try.underlying0
  a0 := Try.isAgg0
  z0 := Try.sizeOf0
  v0 := Try.zeroValue0
  t3 := Try.underlying3
  a3 := Try.isAgg3
  z3 := Try.sizeOf3
  v3 := Try.zeroValue3
  t4 := Try.underlying4
  a4 := Try.isAgg4
  z4 := Try.sizeOf4
  v4 := Try.zeroValue4
  t22 := Try.underlying23
  a22 := Try.isAgg23
  z22 := Try.sizeOf23
  v22 := Try.zeroValue23
  t40 := Try.underlying120
  a40 := Try.isAgg120
  z40 := Try.sizeOf120
  v40 := Try.zeroValue120 }
def ldelete_ren : Go.Shelf.Ren := ⟨fun | 23 => 79 | n => n, fun | 22 => 23 | 3 => 3 | 4 => 4 | 0 => 0 | n => n, fun | n => n⟩
theorem ldelete : Go.Proofs.Lays2.n23 Try.prog ldelete_ren := {
  mixed := by kernel_rfl
  f23 := Try.func79.trans (congrArg some (by kernel_rfl))
  t0 := Try.underlying0
  a0 := Try.isAgg0
  z0 := Try.sizeOf0
  v0 := Try.zeroValue0
  t3 := Try.underlying3
  a3 := Try.isAgg3
  z3 := Try.sizeOf3
  v3 := Try.zeroValue3
  t4 := Try.underlying4
  a4 := Try.isAgg4
  z4 := Try.sizeOf4
  v4 := Try.zeroValue4
  t22 := Try.underlying23
  a22 := Try.isAgg23
  z22 := Try.sizeOf23
  v22 := Try.zeroValue23
  i3 := by kernel_rfl }
def linsert_ren : Go.Shelf.Ren := ⟨fun | 21 => 78 | 27 => 88 | 28 => 89 | 35 => 95 | 39 => 97 | n => n, fun | 22 => 23 | 3 => 3 | 4 => 4 | 0 => 0 | n => n, fun | n => n⟩
theorem linsert : Go.Proofs.Lays2.n21 Try.prog linsert_ren := {
  mixed := by kernel_rfl
  f21 := Try.func78.trans (congrArg some (by kernel_rfl))
  f27 := Try.func88.trans (congrArg some (by kernel_rfl))
  f28 := Try.func89.trans (congrArg some (by kernel_rfl))
  f35 := Try.func95.trans (congrArg some (by kernel_rfl))
  f39 := Try.func97.trans (congrArg some (by kernel_rfl))
  t0 := Try.underlying0
  a0 := Try.isAgg0
  z0 := Try.sizeOf0
  v0 := Try.zeroValue0
  t3 := Try.underlying3
  a3 := Try.isAgg3
  z3 := Try.sizeOf3
  v3 := Try.zeroValue3
  t4 := Try.underlying4
  a4 := Try.isAgg4
  z4 := Try.sizeOf4
  v4 := Try.zeroValue4
  t22 := Try.underlying23
  a22 := Try.isAgg23
  z22 := Try.sizeOf23
  v22 := Try.zeroValue23
  i3 := by kernel_rfl }
theorem own_form {w : World} {base size n : Nat} {e : TypeId} {v : Value} {xs : List Value} (h : w.ownsRow base e size v n xs) : ∃ A cap, v = .slice A n cap := by
  rcases h.2 with ⟨hv, hn⟩ | ⟨g, cap, cur, hv, _⟩
  · exact ⟨none, 0, by rw [hn]; exact hv⟩
  · exact ⟨_, cap, hv⟩
theorem own_same {w w' : World} {base : Nat} {e : TypeId} {size n : Nat} {v : Value} {xs : List Value} (h : w.ownsRow base e size v n xs) (hb : ∀ k, v.ownBlock = some k → w'.heap[k]? = w.heap[k]?) : w'.ownsRow base e size v n xs := by
  refine ⟨h.1, ?_⟩
  rcases h.2 with hn | ⟨g, cap, cur, rfl, h1, hgg, rest⟩
  · exact .inl hn
  · exact .inr ⟨g, cap, cur, rfl, h1, (hb g rfl).trans hgg, rest⟩
theorem own_less {w : World} {base base' : Nat} {e : TypeId} {size n : Nat} {v : Value} {xs : List Value} (h : w.ownsRow base e size v n xs) (hb : base' ≤ base) : w.ownsRow base' e size v n xs := by
  refine ⟨h.1, ?_⟩
  rcases h.2 with hn | ⟨g, cap, cur, rfl, h1, rest⟩
  · exact .inl hn
  · exact .inr ⟨g, cap, cur, rfl, by omega, rest⟩
/-- A list of texts (numbers) in a row of one's own, from block base on. -/
def OwnS (base : Nat) (A : Option Addr) (c : Nat) (L : List ByteArray) (w : World) : Prop := w.ownsRow base 9 1 (.slice A L.length c) L.length (L.map strV)
def OwnI (base : Nat) (A : Option Addr) (c : Nat) (L : List Int) (w : World) : Prop := w.ownsRow base 3 1 (.slice A L.length c) L.length (L.map intV)
theorem getD_str (L : List ByteArray) (j : Nat) (h : j < L.length) : L.getD j ByteArray.empty = L[j] := by simp [List.getD, h]
theorem cloneS_any (B : Nat) (A : Option Addr) (c : Nat) (L : List ByteArray) (w : World) (h : Rd B A (L.map strV) w) (hl : L.length ≤ 400) :
    Calls Try.prog 56 #[.slice A L.length c] w fun e w' => ∃ A' c', e = .returned (.slice A' L.length c') ∧ OwnS w.heap.size A' c' L w' ∧ Below w.heap.size w w' := by
  cases A with
  | none =>
    have hn : L = [] := by have := h.none_; simpa using this
    subst hn
    refine (Any.slices_Clone_string_nil lclone_s _ c w).mono ?_
    rintro e w' ⟨rfl, rfl⟩
    exact ⟨none, 0, rfl, ⟨by simp, .inl ⟨rfl, rfl⟩⟩, Below.refl _ _⟩
  | some a =>
    by_cases h0 : L.length = 0
    · have hn : L = [] := List.length_eq_zero_iff.1 h0
      subst hn
      refine (Any.slices_Clone_string_zero lclone_s a c w).mono ?_
      rintro e w' ⟨v, rfl, ho, _, hb⟩
      obtain ⟨A', c', rfl⟩ := own_form ho
      exact ⟨A', c', rfl, ho, hb⟩
    · obtain ⟨b, off, hA, _, hc⟩ := h (by rw [List.length_map]; omega)
      injection hA with hA
      subst hA
      refine (Any.slices_Clone_string lclone_s b off L.length c L w (Nat.le_refl _) (by omega) ?_).mono ?_
      · intro j hj
        have := hc j (by rw [List.length_map]; omega)
        rw [this, getD_str L j hj]
        simp [strV]
      · rintro e w' ⟨v, rfl, ho, _, hb⟩
        obtain ⟨A', c', rfl⟩ := own_form ho
        rw [List.take_of_length_le (Nat.le_refl _)] at ho
        exact ⟨A', c', rfl, ho, hb⟩
theorem cells_int {B : Nat} {b off : Nat} {L : List Int} {w : World} (h : Rd B (some ⟨b, off, none⟩) (L.map intV) w) : ∀ j, j < L.length → w.cell? ⟨b, off + j, none⟩ = some (.int .i64 (L.getD j 0)) := by
  intro j hj
  obtain ⟨b', off', x, hA, hx, hc⟩ := h.int j hj
  injection hA with hA
  injection hA with h1 h2 _
  subst h1 h2
  rw [hc, ← hx]
  simp [List.getD, hj]
theorem cloneI_any (B : Nat) (A : Option Addr) (c : Nat) (L : List Int) (w : World) (h : Rd B A (L.map intV) w) (hl : L.length ≤ 400) :
    Calls Try.prog 57 #[.slice A L.length c] w fun e w' => ∃ A' c', e = .returned (.slice A' L.length c') ∧ OwnI w.heap.size A' c' L w' ∧ Below w.heap.size w w' := by
  cases A with
  | none =>
    have hn : L = [] := by have := h.none_; simpa using this
    subst hn
    refine (Any.slices_Clone_int_nil lclone_i _ c w).mono ?_
    rintro e w' ⟨rfl, rfl⟩
    exact ⟨none, 0, rfl, ⟨by simp, .inl ⟨rfl, rfl⟩⟩, Below.refl _ _⟩
  | some a =>
    by_cases h0 : L.length = 0
    · have hn : L = [] := List.length_eq_zero_iff.1 h0
      subst hn
      refine (Any.slices_Clone_int_zero lclone_i a c w).mono ?_
      rintro e w' ⟨v, rfl, ho, _, hb⟩
      obtain ⟨A', c', rfl⟩ := own_form ho
      exact ⟨A', c', rfl, ho, hb⟩
    · have h' := h
      obtain ⟨b, off, hA, _, hc⟩ := h' (by rw [List.length_map]; omega)
      injection hA with hA
      subst hA
      refine (Any.slices_Clone_int lclone_i b off L.length c L w (Nat.le_refl _) (by omega) (cells_int h)).mono ?_
      rintro e w' ⟨v, rfl, ho, _, hb⟩
      obtain ⟨A', c', rfl⟩ := own_form ho
      rw [List.take_of_length_le (Nat.le_refl _)] at ho
      exact ⟨A', c', rfl, ho, hb⟩
/-- how many are less -/
def cnt (L : List Int) (x : Int) : Nat := L.countP (· < x)
theorem has_contains (L : List Int) (x : Int) : L.contains x = hasI L x := by
  rw [Bool.eq_iff_iff, hasI_iff, List.contains_iff_mem]
theorem search_any (B : Nat) (A : Option Addr) (c : Nat) (L : List Int) (x : Int) (w : World) (h : Rd B A (L.map intV) w) (hl : L.length ≤ 400) (hs : L.Pairwise (· < ·)) :
    Calls Try.prog 77 #[.slice A L.length c, .int .i64 x] w fun e w' => e = .returned (.tuple #[.int .i64 (cnt L x), .bool (hasI L x)]) ∧ ∃ q, w' = w.drewN q := by
  by_cases h0 : L.length = 0
  · have hn : L = [] := List.length_eq_zero_iff.1 h0
    subst hn
    refine (Any.slices_BinarySearch_int_empty lsearch A c x w).mono ?_
    rintro e w' ⟨rfl, rfl⟩
    exact ⟨rfl, 0, rfl⟩
  · have h' := h
    obtain ⟨b, off, hA, _, hc⟩ := h' (by rw [List.length_map]; omega)
    subst hA
    have hp : (L.take L.length).Pairwise (· ≤ ·) := by
      rw [List.take_of_length_le (Nat.le_refl _)]
      exact hs.imp fun hab => Int.le_of_lt hab
    refine (Any.slices_BinarySearch_int lsearch b off L.length c L x w (Nat.le_refl _) (by omega) (cells_int h) hp).mono ?_
    rintro e w' ⟨he, hw⟩
    rw [List.take_of_length_le (Nat.le_refl _), has_contains] at he
    exact ⟨he, hw⟩
/-! ### a row written over -/
theorem Blk.puts {g : Nat} {t : TypeId} : ∀ (vs : List Value) (o : Nat) (w : World) (cs : Array Value), Blk w g t cs → o + vs.length ≤ cs.size → ∃ ds : Array Value, Blk (w.setCells g o vs) g t ds ∧ ds.toList = cs.toList.take o ++ vs ++ cs.toList.drop (o + vs.length)
  | [], o, w, cs, h, _ => ⟨cs, h, by simp⟩
  | v :: r, o, w, cs, h, hl => by
    rw [List.length_cons] at hl
    obtain ⟨ds, h1, h2⟩ := Blk.puts r (o + 1) (w.setCell ⟨g, o, none⟩ v) _ (h.put o v) (by simp; omega)
    refine ⟨ds, h1, ?_⟩
    rw [h2, Array.toList_setIfInBounds]
    have hlen : o < cs.toList.length := by simp; omega
    rw [List.take_succ_eq_append_getElem (by simp; omega), List.getElem_set_self, List.take_set_of_le (Nat.le_refl _), List.drop_set_of_lt (by omega), List.length_cons]
    simp [Nat.add_comm, Nat.add_left_comm]
theorem heap_puts {g : Nat} : ∀ (vs : List Value) (o : Nat) (w : World) (k : Nat), k ≠ g → (w.setCells g o vs).heap[k]? = w.heap[k]?
  | [], _, _, _, _ => rfl
  | _ :: r, o, _, k, h => (heap_puts r (o + 1) _ k h).trans (Below.heap_setCell _ _ _ k h)
theorem own_blk {w : World} {base n c : Nat} {e : TypeId} {A : Option Addr} {xs : List Value} (h : w.ownsRow base e 1 (.slice A n c) n xs) (hn : A ≠ none) :
    ∃ g cur, A = some ⟨g, 0, none⟩ ∧ base ≤ g ∧ Blk w g e cur ∧ n ≤ c ∧ c ≤ maxLen ∧ cur.size = c ∧ cur.toList.take n = xs := by
  rcases h.2 with ⟨hv, _⟩ | ⟨g, cap, cur, hv, hb, hg, h1, h2, h3, h4⟩
  · injection hv with hA
    exact absurd hA hn
  · injection hv with hA _ hc
    subst hA hc
    exact ⟨g, cur, rfl, hb, hg, h1, h2, by omega, by simpa using h4⟩
theorem own_of_blk {w : World} {base g n c : Nat} {e : TypeId} {cur : Array Value} {xs : List Value} (hb : base ≤ g) (hg : Blk w g e cur) (h1 : n ≤ c) (h2 : c ≤ maxLen) (h3 : cur.size = c) (h4 : cur.toList.take n = xs) (hl : xs.length = n) :
    w.ownsRow base e 1 (.slice (some ⟨g, 0, none⟩) n c) n xs := ⟨by omega, .inr ⟨g, c, cur, rfl, hb, hg, h1, h2, by omega, by simpa using h4⟩⟩
theorem grown_puts {w w' : World} {g o : Nat} {vs : List Value} {row : Option Nat} (h : w.grownBy w' row) (hg : row = some g ∨ w.heap.size ≤ g) : w.grownBy (w'.setCells g o vs) row := by
  have hk := World.keptBut_setCells g (may := fun _ => True) vs o w' (fun _ _ => trivial)
  have hbel := below_setCells (B := 0) (Nat.zero_le g) vs o w' (Below.refl 0 w')
  refine ⟨hbel.os.trans h.os, hbel.tape.trans h.tape, hbel.output.trans h.output, Nat.le_trans h.size hbel.size, fun k hk hr => ?_⟩
  have hne : k ≠ g := by
    rintro rfl
    rcases hg with hg | hg
    · exact hr hg.symm
    · omega
  exact (heap_puts vs o w' k hne).trans (h.block k hk hr)
theorem grown_drew {w w' : World} {row : Option Nat} (h : w.grownBy w' row) : w.grownBy w'.drew row := ⟨h.os, h.tape, h.output, h.size, h.block⟩
theorem grown_drewN {w w' : World} {row : Option Nat} (h : w.grownBy w' row) (n : Nat) : w.grownBy (w'.drewN n) row := ⟨h.os, h.tape, h.output, h.size, h.block⟩
theorem grown_alloc {w w' : World} {row : Option Nat} (h : w.grownBy w' row) (o : Obj) : w.grownBy (w'.alloc o) row :=
  ⟨h.os, h.tape, h.output, by have := h.size; simp; omega, fun k hk hr => (Below.heap_alloc w' o k (by have := h.size; omega)).trans (h.block k hk hr)⟩
end Go.Proofs.Ytongkfimgohhbaa
