/-
  Rows among many things; what is pulled out lies apart from the rest; no condition.
-/
import Derived.Test.YtbpgblmhacpjlaaSep2
namespace Go.Proofs.Ytbpgblmhacpjlaa
open Go.RowKit

/-- a row of the call's own -/
def rowA (e : TypeId) (size : Nat) (v : Value) (n : Nat) (xs : List Value) : As where
  P F w := w.ownsRow 0 e size v n xs ∧ ∀ k, F k ↔ v.ownBlock = some k
  lt := by
    rintro F w ⟨h, hF⟩ k hk
    exact (h.lt k ((hF k).1 hk)).2
  keep := by
    rintro F w w' ⟨h, hF⟩ hk
    exact ⟨own_same h (fun k e => hk k ((hF k).2 e)), hF⟩
section
variable {F : Nat → Prop} {F0 : Nat → Prop} {w0 w w' : World} {A X : As}
/-- a call on the one, which lies apart from the rest -/
theorem St.cally (h : St F0 w0 (sep A X) w) : ∃ F, A.P F w ∧ (∀ k, F k → F0 k ∨ w0.heap.size ≤ k) ∧ (∃ F2, X.P F2 w ∧ ∀ k, F k → ¬ F2 k) ∧ ∀ (A' : As) (w' : World), St F w A' w' → St F0 w0 (sep A' X) w' := by
  obtain ⟨G, ⟨F1, F2, hG, d, a, b⟩, hs, hF⟩ := h
  have h1 : ∀ k, F1 k → F0 k ∨ w0.heap.size ≤ k := fun k hk => hF k ((hG k).2 (.inl hk))
  refine ⟨F1, a, h1, ⟨F2, b, d⟩, fun A' w' ⟨F', a', hs', hF'⟩ => ?_⟩
  refine ⟨fun k => F' k ∨ F2 k, ⟨F', F2, fun k => Iff.rfl, fun k e1 e2 => ?_, a', X.keep b (fun k e2 => hs'.block k (X.lt b k e2) (fun e1 => d k e1 e2))⟩, hs.trans hs' h1, fun k hk => ?_⟩
  · rcases hF' k e1 with e | e
    · exact d k e e2
    · have := X.lt b k e2; omega
  · rcases hk with e | e
    · rcases hF' k e with e | e
      · exact h1 k e
      · right; have := hs.size; omega
    · exact hF k ((hG k).2 (.inr e))
theorem St.twoy {l : List As} (h : St F0 w0 (stars l) w) (i j : Nat) (hij : i < j) (hj : j < l.length) : ∃ F, (stars [l[i]'(by omega), l[j]]).P F w ∧ (∀ k, F k → F0 k ∨ w0.heap.size ≤ k) ∧ (∃ F2, (stars ((l.eraseIdx j).eraseIdx i)).P F2 w ∧ ∀ k, F k → ¬ F2 k) ∧ ∀ (A' B' : As) (w' : World), St F w (stars [A', B']) w' → St F0 w0 (stars ((l.set j B').set i A')) w' := by
  have hi : i < l.length := by omega
  have hi2 : i < (l.eraseIdx j).length := by rw [List.length_eraseIdx]; split <;> omega
  have e1 : (l.eraseIdx j)[i] = l[i] := by rw [List.getElem_eraseIdx]; simp [hij]
  have h1 := h.mono (fun F e => stars_pull l j hj F e)
  have h2 : St F0 w0 (sep (sep l[i] l[j]) (stars ((l.eraseIdx j).eraseIdx i))) w := h1.mono (fun F e => by
    have e2 := sep_mono e (fun _ e => e) (fun F e => stars_pull (l.eraseIdx j) i hi2 F e)
    rw [e1] at e2
    exact sep_mono (sep_right e2) (fun _ e => sep_comm e) (fun _ e => e))
  obtain ⟨F, hA, hF, hr, hb⟩ := h2.cally
  refine ⟨F, stars_pair hA, hF, hr, fun A' B' w' hs => (hb _ w' (hs.mono (fun F e => pair_stars e))).mono (fun F e => ?_)⟩
  have e3 := sep_left (sep_mono e (fun _ e => sep_comm e) (fun _ e => e))
  have e4 : (sep B' (stars ((l.eraseIdx j).set i A'))).P F w' := sep_mono e3 (fun _ e => e) (fun F e => stars_back (l.eraseIdx j) i hi2 A' F e)
  have e5 : (l.eraseIdx j).set i A' = (l.set i A').eraseIdx j := by rw [List.eraseIdx_set_gt hij]
  rw [e5] at e4
  have e6 := stars_back (l.set i A') j (by simpa using hj) B' F e4
  rwa [List.set_comm _ _ (by omega : i ≠ j)] at e6
/-- a box among many things -/
theorem stars_has : ∀ (l : List As) (m : Nat) (hm : m < l.length) {g : Nat} {t : TypeId} {cs : Array Value} (_ : l[m] = box g t cs) {F : Nat → Prop}, (stars l).P F w → F g
  | A :: l, 0, _, g, t, cs, e, F, ⟨F1, F2, hF, _, a, _⟩ => by
    have e : A = box g t cs := e
    subst e
    exact (hF g).2 (.inl ((a.2 g).2 rfl))
  | A :: l, m + 1, hm, g, t, cs, e, F, ⟨F1, F2, hF, _, _, b⟩ => (hF g).2 (.inr (stars_has l m (by simpa using hm) e b))
/-- .. a row -/
theorem stars_hasRow : ∀ (l : List As) (m : Nat) (hm : m < l.length) {e : TypeId} {size n : Nat} {v : Value} {xs : List Value} (_ : l[m] = rowA e size v n xs) {F : Nat → Prop} {k : Nat}, v.ownBlock = some k → (stars l).P F w → F k
  | A :: l, 0, _, e, size, n, v, xs, he, F, k, hk, ⟨F1, F2, hF, _, a, _⟩ => by
    have he : A = rowA e size v n xs := he
    subst he
    exact (hF k).2 (.inl ((a.2 k).2 hk))
  | A :: l, m + 1, hm, e, size, n, v, xs, he, F, k, hk, ⟨F1, F2, hF, _, _, b⟩ => (hF k).2 (.inr (stars_hasRow l m (by simpa using hm) he hk b))
theorem St.trans0 (hb : Below w0.heap.size w0 w) (h : St (fun _ => False) w A w') : St (fun _ => False) w0 A w' := by
  obtain ⟨F, a, hs, hF⟩ := h
  refine ⟨F, a, ⟨hs.os.trans hb.os, hs.tape.trans hb.tape, hs.output.trans hb.output, Nat.le_trans hb.size hs.size, fun k hk _ => (hs.block k (Nat.lt_of_lt_of_le hk hb.size) (fun e => e)).trans (hb.block k hk)⟩, fun k hk => ?_⟩
  rcases hF k hk with e | e
  · exact e.elim
  · right; have := hb.size; omega
/-- what a callee made of its own joins what is held -/
theorem St.join (h : St F0 w0 X w) (hn : St (fun _ => False) w A w') : St F0 w0 (sep A X) w' := by
  have hb := hn.law
  obtain ⟨F, a, hs, hF⟩ := hn
  exact h.add hb a (fun k hk => by rcases hF k hk with e | e; exact e.elim; exact e)
end
theorem stars_app {w : World} : ∀ (l m : List As) {F : Nat → Prop}, (sep (stars l) (stars m)).P F w → (stars (l ++ m)).P F w
  | [], m, F, ⟨F1, F2, hF, d, a, b⟩ => by
    have e : F2 = F := funext fun k => propext ⟨fun x => (hF k).2 (.inr x), fun x => by rcases (hF k).1 x with y | y; exact (a k y).elim; exact y⟩
    subst e
    exact b
  | A :: l, m, F, h => sep_mono (sep_left h) (fun _ e => e) (fun _ e => stars_app l m e)
end Go.Proofs.Ytbpgblmhacpjlaa
