/-
  Rows that grow among many things; parts in a row; no condition.
-/
import Derived.Test.YtbpgblmhacpjlaaSep3
import Derived.Test.YtbpgblmhacpjlaaVb
namespace Go.Proofs.Ytbpgblmhacpjlaa
open Go.RowKit

section
variable {F0 : Nat → Prop} {w0 w w' : World} {l : List As}
/-- a row just built -/
theorem own_blk {w : World} {k : Nat} {e : TypeId} {size n : Nat} {cs : List Value} (h : Blk w k e cs.toArray) (hl : cs.length = n * size) (h1 : n ≤ maxLen) (hn : 0 < n) : w.ownsRow 0 e size (.slice (some ⟨k, 0, none⟩) n n) n cs := by
  have _ := hn
  refine ⟨hl, .inr ⟨k, n, cs.toArray, rfl, Nat.zero_le _, h, Nat.le_refl _, h1, by simp [hl], ?_⟩⟩
  simp only
  rw [← hl]; exact List.take_length
theorem St.pushRow (h : St F0 w0 (stars l) w) (e : TypeId) (size n : Nat) (cs : List Value) (hl : cs.length = n * size) (h1 : n ≤ maxLen) (hn : 0 < n) : St F0 w0 (stars (rowA e size (.slice (some ⟨w.heap.size, 0, none⟩) n n) n cs :: l)) (w.alloc (.cells cs.toArray e)) :=
  h.add (B := rowA e size (.slice (some ⟨w.heap.size, 0, none⟩) n n) n cs) (F := fun k => k = w.heap.size) (ba (Below.refl _ _) _) ⟨own_blk (Blk.new w e cs.toArray) hl h1 hn, fun k => by simp [Value.ownBlock, eq_comm]⟩ (fun k e => by omega)
/-- a row without anything -/
theorem St.pushNone (h : St F0 w0 (stars l) w) (e : TypeId) (size : Nat) : St F0 w0 (stars (rowA e size (.slice none 0 0) 0 [] :: l)) w :=
  h.add (B := rowA e size (.slice none 0 0) 0 []) (F := fun _ => False) (Below.refl _ _) ⟨World.ownsRow_nil _ _ _ _, fun k => by simp [Value.ownBlock]⟩ (fun k e => e.elim)
/-- a row that came to be in new blocks -/
theorem St.newRow (h : St F0 w0 (stars l) w) (hb : Below w.heap.size w w') {e : TypeId} {size n : Nat} {v : Value} {xs : List Value} (ho : w'.ownsRow w.heap.size e size v n xs) : St F0 w0 (stars (rowA e size v n xs :: l)) w' :=
  h.add (B := rowA e size v n xs) (F := fun k => v.ownBlock = some k) hb ⟨own_base ho (Nat.zero_le _), fun _ => Iff.rfl⟩ (fun k hk => (ho.lt k hk).1)
/-- the row at place i grows -/
theorem St.grow (h : St F0 w0 (stars l) w) (i : Nat) (hi : i < l.length) {e : TypeId} {size n n' : Nat} {v v' : Value} {xs xs' : List Value} (he : l[i] = rowA e size v n xs) {B : Nat} (ho : w'.ownsRow B e size v' n' xs') (hg : w.grownBy w' v.ownBlock) (hk : ∀ k, v'.ownBlock = some k → v.ownBlock = some k ∨ w.heap.size ≤ k) :
    St F0 w0 (stars (l.set i (rowA e size v' n' xs'))) w' := by
  obtain ⟨F, hA, hb⟩ := h.at i hi
  rw [he] at hA
  refine hb _ _ ⟨fun k => v'.ownBlock = some k, ⟨own_base ho (Nat.zero_le _), fun _ => Iff.rfl⟩, ⟨hg.os, hg.tape, hg.output, hg.size, fun k hlt hno => hg.block k hlt (fun e => hno ((hA.2 k).2 e.symm))⟩, fun k hk' => ?_⟩
  rcases hk k hk' with e | e
  · exact .inl ((hA.2 k).2 e)
  · exact .inr e
theorem St.row (h : St F0 w0 (stars l) w) (i : Nat) (hi : i < l.length) {e : TypeId} {size n : Nat} {v : Value} {xs : List Value} (he : l[i] = rowA e size v n xs) : w.ownsRow 0 e size v n xs := by
  obtain ⟨F, hA⟩ := h.get i hi
  rw [he] at hA
  exact hA.1
end
theorem first_of {F : Nat → Prop} {w : World} {A B : As} (h : (stars [A, B]).P F w) : ∃ F', (stars [A]).P F' w ∧ ∀ k, F' k → F k := by
  obtain ⟨F1, F2, hF, d, a, -⟩ := h
  exact ⟨F1, ⟨F1, fun _ => False, fun k => by simp, fun k _ e => e, a, fun _ e => e⟩, fun k hk => (hF k).2 (.inl hk)⟩
def IPt.cells (p : IPt) : List Value := [.int .i64 p.at_, .int .i64 p.n, .bool p.wr]
def iptCells (l : List IPt) : List Value := l.flatMap IPt.cells
theorem iptCells_length (l : List IPt) : (iptCells l).length = l.length * 3 := by
  induction l with
  | nil => rfl
  | cons a l ih => simp only [iptCells, List.flatMap_cons, List.length_append, List.length_cons] at ih ⊢; rw [ih]; simp [IPt.cells]; omega
theorem iptCells_append (l m : List IPt) : iptCells (l ++ m) = iptCells l ++ iptCells m := by simp [iptCells]
theorem ipt_one (l : List IPt) : ∀ u ∈ iptCells l, u.oneCell' = true := by
  intro u hu
  simp only [iptCells, List.mem_flatMap] at hu
  obtain ⟨p, -, hu⟩ := hu
  simp only [IPt.cells, List.mem_cons, List.not_mem_nil, or_false] at hu
  rcases hu with rfl | rfl | rfl <;> rfl
theorem iptCells_at (l : List IPt) (k : Nat) (h : k < l.length) :
    (iptCells l)[k * 3]? = some (.int .i64 l[k].at_) ∧ (iptCells l)[k * 3 + 1]? = some (.int .i64 l[k].n) ∧ (iptCells l)[k * 3 + 2]? = some (.bool l[k].wr) := by
  induction l generalizing k with
  | nil => simp at h
  | cons a l ih =>
    have e : ∀ l : List IPt, iptCells (a :: l) = a.cells ++ iptCells l := fun l => by simp [iptCells]
    cases k with
    | zero => simp [iptCells, IPt.cells]
    | succ k =>
      obtain ⟨h0, h1, h2⟩ := ih k (by simpa using h)
      have z : a.cells.length = 3 := rfl
      rw [e, List.getElem?_append_right (by rw [z]; omega), List.getElem?_append_right (by rw [z]; omega), List.getElem?_append_right (by rw [z]; omega), z]
      refine ⟨?_, ?_, ?_⟩
      · rw [show (k + 1) * 3 - 3 = k * 3 by omega]; exact h0
      · rw [show (k + 1) * 3 + 1 - 3 = k * 3 + 1 by omega]; exact h1
      · rw [show (k + 1) * 3 + 2 - 3 = k * 3 + 2 by omega]; exact h2
theorem PsAt.of_own {w : World} {B : Nat} {A : Option Addr} {cap : Nat} {l : List IPt} (h : w.ownsRow B 77 3 (.slice A l.length cap) l.length (iptCells l)) : PsAt A l w := by
  intro j hj
  obtain ⟨gl, cap', hv, _, hlt⟩ := h.form (by omega)
  have hA : A = some ⟨gl, 0, none⟩ := by injection hv
  subst hA
  obtain ⟨a, b, c⟩ := iptCells_at l j hj
  have hc := fun j u hu => h.cells (g := gl) rfl j u hu
  have a := hc _ _ a
  have b := hc _ _ b
  have c := hc _ _ c
  rw [addr_zero] at a b c
  exact ⟨gl, 0, rfl, hlt, by rw [Nat.zero_add]; exact a, by rw [Nat.zero_add]; exact b, by rw [Nat.zero_add]; exact c⟩
theorem own_addr {w : World} {B e size n c : Nat} {A : Option Addr} {xs : List Value} (h : w.ownsRow B e size (.slice A n c) n xs) : ∀ ad, A = some ad → (Value.slice A n c).ownBlock = some ad.block := by
  rintro ad rfl
  rcases h.2 with ⟨e, _⟩ | ⟨g, cap, cur, e, _⟩
  · simp at e
  · simp only [Value.slice.injEq, Option.some.injEq] at e
    obtain ⟨rfl, -, -⟩ := e
    rfl
end Go.Proofs.Ytbpgblmhacpjlaa
