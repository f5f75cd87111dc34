/-
  Calls on one or two of many things, with where they lie; the driver's queue opened and shut; no condition.
-/
import Derived.Test.YtbpgblmhacpjlaaVm
namespace Go.Proofs.Ytbpgblmhacpjlaa
open Go.RowKit

section
variable {F0 : Nat → Prop} {w0 w : World} {A X : As}
theorem St.callx (h : St F0 w0 (sep A X) w) : ∃ F, A.P F w ∧ (∀ k, F k → F0 k ∨ w0.heap.size ≤ k) ∧ ∀ (A' : As) (w' : World), St F w A' w' → St F0 w0 (sep A' X) w' := by
  obtain ⟨G, ⟨F1, F2, hG, d, a, b⟩, hs, hF⟩ := h
  have h1 : ∀ k, F1 k → F0 k ∨ w0.heap.size ≤ k := fun k hk => hF k ((hG k).2 (.inl hk))
  refine ⟨F1, a, h1, fun A' w' ⟨F', a', hs', hF'⟩ => ?_⟩
  refine ⟨fun k => F' k ∨ F2 k, ⟨F', F2, fun k => Iff.rfl, fun k e1 e2 => ?_, a', X.keep b (fun k e2 => hs'.block k (X.lt b k e2) (fun e1 => d k e1 e2))⟩, hs.trans hs' h1, fun k hk => ?_⟩
  · rcases hF' k e1 with e | e
    · exact d k e e2
    · have := X.lt b k e2; omega
  · rcases hk with e | e
    · rcases hF' k e with e | e
      · exact h1 k e
      · right; have := hs.size; omega
    · exact hF k ((hG k).2 (.inr e))
theorem St.atx {l : List As} (h : St F0 w0 (stars l) w) (i : Nat) (hi : i < l.length) : ∃ F, l[i].P F w ∧ (∀ k, F k → F0 k ∨ w0.heap.size ≤ k) ∧ ∀ (A' : As) (w' : World), St F w A' w' → St F0 w0 (stars (l.set i A')) w' := by
  obtain ⟨F, hA, hF, hb⟩ := St.callx (h.mono (fun F e => stars_pull l i hi F e))
  exact ⟨F, hA, hF, fun A' w' hs => (hb A' w' hs).mono (fun F e => stars_back l i hi A' F e)⟩
theorem St.twox {l : List As} (h : St F0 w0 (stars l) w) (i j : Nat) (hij : i < j) (hj : j < l.length) : ∃ F, (stars [l[i]'(by omega), l[j]]).P F w ∧ (∀ k, F k → F0 k ∨ w0.heap.size ≤ k) ∧ ∀ (A' B' : As) (w' : World), St F w (stars [A', B']) w' → St F0 w0 (stars ((l.set j B').set i A')) w' := by
  have hi : i < l.length := by omega
  have hi2 : i < (l.eraseIdx j).length := by rw [List.length_eraseIdx]; split <;> omega
  have e1 : (l.eraseIdx j)[i] = l[i] := by rw [List.getElem_eraseIdx]; simp [hij]
  have h1 := h.mono (fun F e => stars_pull l j hj F e)
  have h2 : St F0 w0 (sep (sep l[i] l[j]) (stars ((l.eraseIdx j).eraseIdx i))) w := h1.mono (fun F e => by
    have e2 := sep_mono e (fun _ e => e) (fun F e => stars_pull (l.eraseIdx j) i hi2 F e)
    rw [e1] at e2
    exact sep_mono (sep_right e2) (fun _ e => sep_comm e) (fun _ e => e))
  obtain ⟨F, hA, hF, hb⟩ := h2.callx
  refine ⟨F, stars_pair hA, hF, fun A' B' w' hs => (hb _ w' (hs.mono (fun F e => pair_stars e))).mono (fun F e => ?_)⟩
  have e3 := sep_left (sep_mono e (fun _ e => sep_comm e) (fun _ e => e))
  have e4 : (sep B' (stars ((l.eraseIdx j).set i A'))).P F w' := sep_mono e3 (fun _ e => e) (fun F e => stars_back (l.eraseIdx j) i hi2 A' F e)
  have e5 : (l.eraseIdx j).set i A' = (l.set i A').eraseIdx j := by rw [List.eraseIdx_set_gt hij]
  rw [e5] at e4
  have e6 := stars_back (l.set i A') j (by simpa using hj) B' F e4
  rwa [List.set_comm _ _ (by omega : i ≠ j)] at e6
end
/-- the driver's queue opened -/
theorem drv_open {F : Nat → Prop} {w : World} {A : As} {gq g : Nat} {q : Vs} (h : (stars [A, drvA gq g q]).P F w) : ∃ bm low, LowOk low q.hs ∧ (stars [A, box gq 90 (q.cells g bm low), mapA bm q.hs]).P F w := by
  obtain ⟨F1, F2, hF, d, a, G1, G2, hG, d2, ⟨bm, low, hl, b⟩, c⟩ := h
  exact ⟨bm, low, hl, F1, F2, hF, d, a, sep_left ⟨G1, G2, hG, d2, b, c⟩⟩
theorem drv_shut {F0 : Nat → Prop} {w0 w : World} {A : As} {gq g bm low : Nat} {q : Vs} (h : St F0 w0 (stars [A, box gq 90 (q.cells g bm low), mapA bm q.hs]) w) (hl : LowOk low q.hs) : St F0 w0 (stars [A, drvA gq g q]) w :=
  h.mono fun _ e => sep_mono e (fun _ e => e) fun _ e => sep_mono (sep_right e) (fun _ e => ⟨bm, low, hl, e⟩) (fun _ e => e)
end Go.Proofs.Ytbpgblmhacpjlaa
