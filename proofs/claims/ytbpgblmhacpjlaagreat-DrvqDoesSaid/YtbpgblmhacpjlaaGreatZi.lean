/-
  What lies in memory, each in blocks of its own; a queue's numbers; the document's queue.
-/
import Derived.Test.YtbpgblmhacpjlaaGreatZd
import Derived.Maps.OwnSet
import Derived.Maps.OwnOps
import Derived.Lib.SlKeysI
import Derived.Deep.QuietTactic
import Derived.BigQuiet
namespace Go.Proofs.YtbpgblmhacpjlaaGreat
open Go.RowKit

/-- What lies in memory, and in which blocks. -/
structure As where
  P : (Nat → Prop) → World → Prop
  lt : ∀ {F : Nat → Prop} {w : World}, P F w → ∀ k, F k → k < w.heap.size
  keep : ∀ {F : Nat → Prop} {w w' : World}, P F w → (∀ k, F k → w'.heap[k]? = w.heap[k]?) → P F w'
/-- From one world to a later one: of the blocks that were there those of F alone have turned. -/
structure Step (F : Nat → Prop) (w w' : World) : Prop where
  os : w'.os = w.os
  tape : w'.tape = w.tape
  output : w'.output = w.output
  size : w.heap.size ≤ w'.heap.size
  block : ∀ k, k < w.heap.size → ¬ F k → w'.heap[k]? = w.heap[k]?
theorem Step.refl (F : Nat → Prop) (w : World) : Step F w w := ⟨rfl, rfl, rfl, Nat.le_refl _, fun _ _ _ => rfl⟩
theorem Step.trans {F0 F : Nat → Prop} {w0 w w' : World} (h : Step F0 w0 w) (g : Step F w w') (hF : ∀ k, F k → F0 k ∨ w0.heap.size ≤ k) : Step F0 w0 w' :=
  ⟨g.os.trans h.os, g.tape.trans h.tape, g.output.trans h.output, Nat.le_trans h.size g.size, fun k hk hn =>
    (g.block k (Nat.lt_of_lt_of_le hk h.size) (fun e => by rcases hF k e with e | e; exact hn e; omega)).trans (h.block k hk hn)⟩
theorem Step.of_below {F : Nat → Prop} {w w' : World} (h : Below w.heap.size w w') : Step F w w' := ⟨h.os, h.tape, h.output, h.size, fun k hk _ => h.block k hk⟩
theorem Step.below {F : Nat → Prop} {w w' : World} {n : Nat} (h : Step F w w') (hn : n ≤ w.heap.size) (hF : ∀ k, F k → n ≤ k) : Below n w w' :=
  ⟨h.os, h.tape, h.output, h.size, fun k hk => h.block k (by omega) (fun e => by have := hF k e; omega)⟩

/-- Where a call is that began at w0 with leave to turn the blocks of F0: what it holds now. -/
def St (F0 : Nat → Prop) (w0 : World) (A : As) (w : World) : Prop := ∃ F, A.P F w ∧ Step F0 w0 w ∧ ∀ k, F k → F0 k ∨ w0.heap.size ≤ k
section
variable {F0 : Nat → Prop} {w0 w w' : World} {A B C X A' B' : As}
theorem St.start {F : Nat → Prop} (h : A.P F w) : St F w A w := ⟨F, h, Step.refl _ _, fun _ hk => .inl hk⟩
theorem St.step (h : St F0 w0 A w) : Step F0 w0 w := by obtain ⟨F, -, hs, -⟩ := h; exact hs
theorem St.size (h : St F0 w0 A w) : w0.heap.size ≤ w.heap.size := h.step.size
theorem St.below (h : St F0 w0 A w) (hb : Below w.heap.size w w') : St F0 w0 A w' := by
  obtain ⟨F, hA, hs, hF⟩ := h
  exact ⟨F, A.keep hA (fun k hk => hb.block k (A.lt hA k hk)), hs.trans (F := fun _ => False) (Step.of_below hb) (fun _ e => e.elim), hF⟩
theorem St.drew (h : St F0 w0 A w) : St F0 w0 A w.drew := h.below (Below.refl _ _).drew
theorem St.drewN (h : St F0 w0 A w) (n : Nat) : St F0 w0 A (w.drewN n) := h.below ⟨rfl, rfl, rfl, Nat.le_refl _, fun _ _ => rfl⟩
theorem St.alloc (h : St F0 w0 A w) (o : Obj) : St F0 w0 A (w.alloc o) := h.below (ba (Below.refl _ _) o)
theorem St.mono (h : St F0 w0 A w) (hA : ∀ F, A.P F w → A'.P F w) : St F0 w0 A' w := by
  obtain ⟨F, a, b, c⟩ := h
  exact ⟨F, hA F a, b, c⟩
end

/-- nothing -/
def emp : As := ⟨fun F _ => ∀ k, ¬ F k, fun h k hk => (h k hk).elim, fun h _ => h⟩
/-- two things, apart -/
def sep (A B : As) : As where
  P F w := ∃ F1 F2, (∀ k, F k ↔ F1 k ∨ F2 k) ∧ (∀ k, F1 k → ¬ F2 k) ∧ A.P F1 w ∧ B.P F2 w
  lt := by
    rintro F w ⟨F1, F2, h, -, a, b⟩ k hk
    rcases (h k).1 hk with e | e
    · exact A.lt a k e
    · exact B.lt b k e
  keep := by
    rintro F w w' ⟨F1, F2, h, d, a, b⟩ hk
    exact ⟨F1, F2, h, d, A.keep a (fun k e => hk k ((h k).2 (.inl e))), B.keep b (fun k e => hk k ((h k).2 (.inr e)))⟩
/-- a block known whole -/
def box (g : Nat) (t : TypeId) (cs : Array Value) : As where
  P F w := Blk w g t cs ∧ ∀ k, F k ↔ k = g
  lt := by
    rintro F w ⟨h, hF⟩ k hk
    rw [(hF k).1 hk]; exact h.lt
  keep := by
    rintro F w w' ⟨h, hF⟩ hk
    exact ⟨h.same (hk g ((hF g).2 rfl)), hF⟩

section
variable {F : Nat → Prop} {F0 : Nat → Prop} {w0 w w' : World} {A B C X A' B' : As}
theorem sep_comm (h : (sep A B).P F w) : (sep B A).P F w := by
  obtain ⟨F1, F2, h, d, a, b⟩ := h
  exact ⟨F2, F1, fun k => (h k).trans Or.comm, fun k e1 e2 => d k e2 e1, b, a⟩
theorem sep_left (h : (sep (sep A B) C).P F w) : (sep A (sep B C)).P F w := by
  obtain ⟨F1, F2, h, d, ⟨G1, G2, h1, d1, a, b⟩, c⟩ := h
  refine ⟨G1, fun k => G2 k ∨ F2 k, fun k => ?_, fun k e1 e2 => ?_, a, G2, F2, fun k => Iff.rfl, fun k e1 e2 => d k ((h1 k).2 (.inr e1)) e2, b, c⟩
  · rw [h k, h1 k, or_assoc]
  · rcases e2 with e2 | e2
    · exact d1 k e1 e2
    · exact d k ((h1 k).2 (.inl e1)) e2
theorem sep_right (h : (sep A (sep B C)).P F w) : (sep (sep A B) C).P F w := by
  obtain ⟨F1, F2, h, d, a, G1, G2, h1, d1, b, c⟩ := h
  refine ⟨fun k => F1 k ∨ G1 k, G2, fun k => ?_, fun k e1 e2 => ?_, ⟨F1, G1, fun k => Iff.rfl, fun k e1 e2 => d k e1 ((h1 k).2 (.inl e2)), a, b⟩, c⟩
  · rw [h k, h1 k, or_assoc]
  · rcases e1 with e1 | e1
    · exact d k e1 ((h1 k).2 (.inr e2))
    · exact d1 k e1 e2
theorem sep_mono (h : (sep A B).P F w) (hA : ∀ F, A.P F w → A'.P F w) (hB : ∀ F, B.P F w → B'.P F w) : (sep A' B').P F w := by
  obtain ⟨F1, F2, h, d, a, b⟩ := h
  exact ⟨F1, F2, h, d, hA _ a, hB _ b⟩
/-- the second of three to the front -/
theorem sep_swap (h : (sep A (sep B C)).P F w) : (sep B (sep A C)).P F w :=
  sep_left (sep_mono (sep_right h) (fun _ e => sep_comm e) (fun _ e => e))
/-- A call on the one leaves the other. -/
theorem St.call (h : St F0 w0 (sep A X) w) : ∃ F, A.P F w ∧ ∀ (A' : As) (w' : World), St F w A' w' → St F0 w0 (sep A' X) w' := by
  obtain ⟨G, ⟨F1, F2, hG, d, a, b⟩, hs, hF⟩ := h
  refine ⟨F1, a, fun A' w' ⟨F', a', hs', hF'⟩ => ?_⟩
  have h1 : ∀ k, F1 k → F0 k ∨ w0.heap.size ≤ k := fun k hk => hF k ((hG k).2 (.inl hk))
  refine ⟨fun k => F' k ∨ F2 k, ⟨F', F2, fun k => Iff.rfl, fun k e1 e2 => ?_, a', X.keep b (fun k e2 => hs'.block k (X.lt b k e2) (fun e1 => d k e1 e2))⟩, hs.trans hs' h1, fun k hk => ?_⟩
  · rcases hF' k e1 with e | e
    · exact d k e e2
    · have := X.lt b k e2; omega
  · rcases hk with e | e
    · rcases hF' k e with e | e
      · exact h1 k e
      · right; have := hs.size; omega
    · exact hF k ((hG k).2 (.inr e))
/-- .. a call on all of it -/
theorem St.all (h : St F0 w0 A w) : ∃ F, A.P F w ∧ ∀ (A' : As) (w' : World), St F w A' w' → St F0 w0 A' w' := by
  obtain ⟨G, a, hs, hF⟩ := h
  refine ⟨G, a, fun A' w' ⟨F', a', hs', hF'⟩ => ⟨F', a', hs.trans hs' hF, fun k hk => ?_⟩⟩
  rcases hF' k hk with e | e
  · exact hF k e
  · right; have := hs.size; omega
theorem St.drop (h : St F0 w0 (sep A X) w) : St F0 w0 X w := by
  obtain ⟨G, ⟨F1, F2, hG, d, a, b⟩, hs, hF⟩ := h
  exact ⟨F2, b, hs, fun k hk => hF k ((hG k).2 (.inr hk))⟩
/-- something new, in new blocks -/
theorem St.add (h : St F0 w0 A w) (hb : Below w.heap.size w w') {F : Nat → Prop} (hB : B.P F w') (hF : ∀ k, F k → w.heap.size ≤ k) : St F0 w0 (sep B A) w' := by
  have hsz := h.size
  have hs := (h.below hb).step
  obtain ⟨G1, a1, hs1, hG1⟩ := h
  refine ⟨fun k => F k ∨ G1 k, ⟨F, G1, fun k => Iff.rfl, fun k e1 e2 => ?_, hB, A.keep a1 (fun k hk => hb.block k (A.lt a1 k hk))⟩, hs, fun k hk => ?_⟩
  · have := hF k e1; have := A.lt a1 k e2; omega
  · rcases hk with e | e
    · right; have := hF k e; omega
    · exact hG1 k e
theorem St.new (h : St F0 w0 A w) (t : TypeId) (cs : Array Value) : St F0 w0 (sep (box w.heap.size t cs) A) (w.alloc (.cells cs t)) :=
  h.add (B := box w.heap.size t cs) (F := fun k => k = w.heap.size) (ba (Below.refl _ _) _) ⟨Blk.new w t cs, fun _ => Iff.rfl⟩ (fun k e => by omega)
end
theorem box_put {F : Nat → Prop} {w : World} {g : Nat} {t : TypeId} {cs : Array Value} (h : (box g t cs).P F w) (i : Nat) (v : Value) : St F w (box g t (cs.setIfInBounds i v)) (w.setCell ⟨g, i, none⟩ v) :=
  ⟨F, ⟨h.1.put i v, h.2⟩, ⟨rfl, rfl, rfl, by simp [World.setCell], fun k _ hk => Below.heap_setCell w _ v k (fun e => hk ((h.2 k).2 e))⟩, fun _ hk => .inl hk⟩

/-! many things -/
def stars : List As → As
  | [] => emp
  | A :: l => sep A (stars l)
section
variable {F : Nat → Prop} {F0 : Nat → Prop} {w0 w w' : World}
theorem stars_pull : ∀ (l : List As) (i : Nat) (hi : i < l.length) (F : Nat → Prop), (stars l).P F w → (sep l[i] (stars (l.eraseIdx i))).P F w
  | A :: l, 0, _, _, h => h
  | A :: l, i + 1, hi, F, h => by
    have hi' : i < l.length := by simpa using hi
    exact sep_swap (A := A) (B := l[i]) (sep_mono h (fun _ e => e) (fun F e => stars_pull l i hi' F e))
theorem stars_back : ∀ (l : List As) (i : Nat) (_ : i < l.length) (A' : As) (F : Nat → Prop), (sep A' (stars (l.eraseIdx i))).P F w → (stars (l.set i A')).P F w
  | A :: l, 0, _, A', F, h => h
  | A :: l, i + 1, hi, A', F, h => by
    have hi' : i < l.length := by simpa using hi
    exact sep_mono (A := A) (B := sep A' (stars (l.eraseIdx i))) (sep_swap h) (fun _ e => e) (fun F e => stars_back l i hi' A' F e)
/-- a call on the one at place i -/
theorem St.at {l : List As} (h : St F0 w0 (stars l) w) (i : Nat) (hi : i < l.length) : ∃ F, l[i].P F w ∧ ∀ (A' : As) (w' : World), St F w A' w' → St F0 w0 (stars (l.set i A')) w' := by
  obtain ⟨F, hA, hb⟩ := St.call (h.mono (fun F e => stars_pull l i hi F e))
  exact ⟨F, hA, fun A' w' hs => (hb A' w' hs).mono (fun F e => stars_back l i hi A' F e)⟩
/-- a call on the two at places i and j -/
theorem St.at2 {l : List As} (h : St F0 w0 (stars l) w) (i j : Nat) (hij : i < j) (hj : j < l.length) : ∃ F, (sep (l[i]'(by omega)) l[j]).P F w ∧ ∀ (A' B' : As) (w' : World), St F w (sep A' B') w' → St F0 w0 (stars ((l.set j B').set i A')) w' := by
  have hi : i < l.length := by omega
  have hi2 : i < (l.eraseIdx j).length := by rw [List.length_eraseIdx]; split <;> omega
  have e1 : (l.eraseIdx j)[i] = l[i] := by rw [List.getElem_eraseIdx]; simp [hij]
  have h1 := h.mono (fun F e => stars_pull l j hj F e)
  have h2 : St F0 w0 (sep (sep l[i] l[j]) (stars ((l.eraseIdx j).eraseIdx i))) w := h1.mono (fun F e => by
    have e2 := sep_mono e (fun _ e => e) (fun F e => stars_pull (l.eraseIdx j) i hi2 F e)
    rw [e1] at e2
    exact sep_mono (sep_right e2) (fun _ e => sep_comm e) (fun _ e => e))
  obtain ⟨F, hA, hb⟩ := h2.call
  refine ⟨F, hA, fun A' B' w' hs => (hb _ w' hs).mono (fun F e => ?_)⟩
  have e3 := sep_left (sep_mono e (fun _ e => sep_comm e) (fun _ e => e))
  have e4 : (sep B' (stars ((l.eraseIdx j).set i A'))).P F w' := sep_mono e3 (fun _ e => e) (fun F e => stars_back (l.eraseIdx j) i hi2 A' F e)
  have e5 : (l.eraseIdx j).set i A' = (l.set i A').eraseIdx j := by rw [List.eraseIdx_set_gt hij]
  rw [e5] at e4
  have e6 := stars_back (l.set i A') j (by simpa using hj) B' F e4
  rwa [List.set_comm _ _ (by omega : i ≠ j)] at e6
theorem stars_pair {A B : As} (h : (sep A B).P F w) : (stars [A, B]).P F w :=
  sep_mono h (fun _ e => e) (fun F e => ⟨F, fun _ => False, fun k => by simp, fun k _ e => e, e, fun _ e => e⟩)
theorem pair_stars {A B : As} (h : (stars [A, B]).P F w) : (sep A B).P F w := by
  obtain ⟨F1, F2, h, d, a, G1, G2, h1, d1, b, c⟩ := h
  have e : ∀ k, F2 k ↔ G1 k := fun k => by rw [h1 k]; exact ⟨fun x => x.elim (fun y => y) (fun y => (c k y).elim), .inl⟩
  have e' : F2 = G1 := funext fun k => propext (e k)
  subst e'
  exact ⟨F1, F2, h, d, a, b⟩
/-- a call on two, which stand at places i and j -/
theorem St.two {l : List As} (h : St F0 w0 (stars l) w) (i j : Nat) (hij : i < j) (hj : j < l.length) : ∃ F, (stars [l[i]'(by omega), l[j]]).P F w ∧ ∀ (A' B' : As) (w' : World), St F w (stars [A', B']) w' → St F0 w0 (stars ((l.set j B').set i A')) w' := by
  obtain ⟨F, hA, hb⟩ := h.at2 i j hij hj
  exact ⟨F, stars_pair hA, fun A' B' w' hs => hb A' B' w' (hs.mono (fun F e => pair_stars e))⟩
theorem St.get {l : List As} (h : St F0 w0 (stars l) w) (i : Nat) (hi : i < l.length) : ∃ F, l[i].P F w := by
  obtain ⟨F, hA, -⟩ := h.at i hi
  exact ⟨F, hA⟩
theorem St.push {l : List As} (h : St F0 w0 (stars l) w) (t : TypeId) (cs : Array Value) : St F0 w0 (stars (box w.heap.size t cs :: l)) (w.alloc (.cells cs t)) := h.new t cs
theorem St.pop {l : List As} {A : As} (h : St F0 w0 (stars (A :: l)) w) : St F0 w0 (stars l) w := St.drop h
/-- a store into the block at place i -/
theorem St.put {l : List As} (h : St F0 w0 (stars l) w) (i : Nat) (hi : i < l.length) {g : Nat} {t : TypeId} {cs : Array Value} (hl : l[i] = box g t cs) (j : Nat) (v : Value) : St F0 w0 (stars (l.set i (box g t (cs.setIfInBounds j v)))) (w.setCell ⟨g, j, none⟩ v) := by
  obtain ⟨F, hA, hb⟩ := h.at i hi
  rw [hl] at hA
  exact hb _ _ (box_put hA j v)
/-- four stores, two stores -/
theorem St.put4 {l : List As} (h : St F0 w0 (stars l) w) (i : Nat) (hi : i < l.length) {g : Nat} {t : TypeId} {a b c d : Value} (hl : l[i] = box g t #[a, b, c, d]) (p q r s : Value) :
    St F0 w0 (stars (l.set i (box g t #[p, q, r, s]))) ((((w.setCell ⟨g, 0, none⟩ p).setCell ⟨g, 1, none⟩ q).setCell ⟨g, 2, none⟩ r).setCell ⟨g, 3, none⟩ s) := by
  obtain ⟨F, hA, hb⟩ := h.at i hi
  rw [hl] at hA
  refine hb _ _ ⟨F, ⟨?_, hA.2⟩, ⟨rfl, rfl, rfl, by simp [World.setCell], fun k _ hk => ?_⟩, fun _ hk => .inl hk⟩
  · have := (((hA.1.put 0 p).put 1 q).put 2 r).put 3 s
    simpa using this
  · have e : k ≠ g := fun e => hk ((hA.2 k).2 e)
    exact (Below.heap_setCell _ _ s k e).trans ((Below.heap_setCell _ _ r k e).trans ((Below.heap_setCell _ _ q k e).trans (Below.heap_setCell _ _ p k e)))
theorem St.put2 {l : List As} (h : St F0 w0 (stars l) w) (i : Nat) (hi : i < l.length) {g : Nat} {t : TypeId} {cs : Array Value} (hl : l[i] = box g t cs) (j k : Nat) (p q : Value) :
    St F0 w0 (stars (l.set i (box g t ((cs.setIfInBounds j p).setIfInBounds k q)))) ((w.setCell ⟨g, j, none⟩ p).setCell ⟨g, k, none⟩ q) := by
  obtain ⟨F, hA, hb⟩ := h.at i hi
  rw [hl] at hA
  refine hb _ _ ⟨F, ⟨(hA.1.put j p).put k q, hA.2⟩, ⟨rfl, rfl, rfl, by simp [World.setCell], fun m _ hk => ?_⟩, fun _ hk => .inl hk⟩
  have e : m ≠ g := fun e => hk ((hA.2 m).2 e)
  exact (Below.heap_setCell _ _ q m e).trans (Below.heap_setCell _ _ p m e)
theorem St.ne {l : List As} (h : St F0 w0 (stars l) w) (i j : Nat) (hij : i < j) (hj : j < l.length) {g g' : Nat} {t t' : TypeId} {cs cs' : Array Value} (hi : l[i]'(by omega) = box g t cs) (hl : l[j] = box g' t' cs') : g ≠ g' := by
  obtain ⟨F, ⟨F1, F2, -, d, a, b⟩, -⟩ := h.at2 i j hij hj
  rw [hi] at a
  rw [hl] at b
  intro e
  exact d g ((a.2 g).2 rfl) ((b.2 g).2 e)
theorem St.blk {l : List As} (h : St F0 w0 (stars l) w) (i : Nat) (hi : i < l.length) {g : Nat} {t : TypeId} {cs : Array Value} (hl : l[i] = box g t cs) : Blk w g t cs := by
  obtain ⟨F, hA⟩ := h.get i hi
  rw [hl] at hA
  exact hA.1
end
theorem St.law {w0 w : World} {A : As} (h : St (fun _ => False) w0 A w) : Below w0.heap.size w0 w := h.step.below (Nat.le_refl _) (fun _ e => e.elim)
theorem St.begin (w : World) : St (fun _ => False) w (stars []) w := ⟨fun _ => False, fun _ e => e, Step.refl _ _, fun _ e => .inl e⟩

/-- A memory: its block; its bytes. -/
def memA (g : Nat) (xs : List UInt8) : As where
  P F w := ∃ gb lv, Mem 0 g gb lv xs w ∧ ∀ k, F k ↔ k = g ∨ k = gb ∨ lv.ownBlock = some k
  lt := by
    rintro F w ⟨gb, lv, h, hF⟩ k hk
    obtain ⟨a, b, c⟩ := h.lt
    rcases (hF k).1 hk with rfl | rfl | e
    · exact a
    · exact b
    · exact c k e
  keep := by
    rintro F w w' ⟨gb, lv, h, hF⟩ hk
    exact ⟨gb, lv, h.kept (hk _ ((hF _).2 (.inl rfl))) (hk _ ((hF _).2 (.inr (.inl rfl)))) (fun k e => hk _ ((hF _).2 (.inr (.inr e)))), hF⟩
/-- a call on the memory -/
theorem St.noted {F : Nat → Prop} {w w' : World} {g gb : Nat} {lv : Value} {ys : List UInt8} (hF : ∀ k, F k ↔ k = g ∨ k = gb ∨ lv.ownBlock = some k) (hn : Noted 0 g gb lv ys w w') : St F w (memA g ys) w' := by
  obtain ⟨lv1, hM, hT, hL⟩ := hn
  refine ⟨fun k => k = g ∨ k = gb ∨ lv1.ownBlock = some k, ⟨gb, lv1, hM, fun _ => Iff.rfl⟩, ⟨hT.os, hT.tape, hT.output, hT.size, fun k hk hno => hT.block k hk (fun e => hno ((hF k).2 (.inl e))) (fun e => hno ((hF k).2 (.inr (.inl e)))) (fun e => hno ((hF k).2 (.inr (.inr e))))⟩, fun k hk => ?_⟩
  rcases hk with e | e | e
  · exact .inl ((hF k).2 (.inl e))
  · exact .inl ((hF k).2 (.inr (.inl e)))
  · rcases hL k e with e | e
    · exact .inl ((hF k).2 (.inr (.inr e)))
    · exact .inr e
section
variable {F : Nat → Prop} {w : World} {g : Nat} {xs : List UInt8}
theorem memA_read (h : (memA g xs).P F w) (a n : Nat) (hn : a + n ≤ xs.length) :
    Calls Tryz.prog 58 #[.pointer (some ⟨g, 0, none⟩), .int .i64 a, .int .i64 n] w fun e w' => e = .returned (.tuple #[.string ⟨((xs.drop a).take n).toArray⟩, .int .i64 0]) ∧ St F w (memA g xs) w' := by
  obtain ⟨gb, lv, hM, hF⟩ := h
  exact (read_ok hM a n hn).mono fun e w' ⟨he, hN⟩ => ⟨he, St.noted hF hN⟩
theorem memA_write (h : (memA g xs).P F w) (a : Int) (s : ByteArray) (hs : s.size ≤ maxLen) :
    Calls Tryz.prog 10 #[.pointer (some ⟨g, 0, none⟩), .int .i64 a, .string s] w fun e w' => e = .returned (.int .i64 (wrE xs a s)) ∧ St F w (memA g (wrX xs a s)) w' := by
  obtain ⟨gb, lv, hM, hF⟩ := h
  exact (write_any hM a s hs).mono fun e w' ⟨he, hN⟩ => ⟨he, St.noted hF hN⟩
theorem memA_put (h : (memA g xs).P F w) (a : Nat) (s : ByteArray) (hn : a + s.size ≤ xs.length) :
    Calls Tryz.prog 10 #[.pointer (some ⟨g, 0, none⟩), .int .i64 a, .string s] w fun e w' => e = .returned (.int .i64 0) ∧ St F w (memA g (over xs a s)) w' := by
  obtain ⟨gb, lv, hM, hF⟩ := h
  exact (write_ok hM a s hn).mono fun e w' ⟨he, hN⟩ => ⟨he, St.noted hF hN⟩
theorem memA_image (h : (memA g xs).P F w) :
    Calls Tryz.prog 26 #[.pointer (some ⟨g, 0, none⟩)] w fun e w' => e = .returned (.string ⟨xs.toArray⟩) ∧ w = w' := by
  obtain ⟨gb, lv, hM, hF⟩ := h
  exact image_m hM
theorem memA_may (h : (memA g xs).P F w) (a n : Int) (hn : n < 9223372036854775808) :
    Calls Tryz.prog 40 #[.pointer (some ⟨g, 0, none⟩), .int .i64 a, .int .i64 n] w fun e w' => e = .returned (.bool (mayB xs a n)) ∧ w = w' := by
  obtain ⟨gb, lv, hM, hF⟩ := h
  exact may_any hM a n hn
theorem memA_len (h : (memA g xs).P F w) : xs.length ≤ 1048576 := by obtain ⟨gb, lv, hM, hF⟩ := h; exact hM.len
end
def MadeM (n : Nat) (w : World) (e : Ending) (w' : World) : Prop := ∃ g F, e = .returned (.tuple #[.pointer (some ⟨g, 0, none⟩), .int .i64 0]) ∧ (memA g (List.replicate n 0)).P F w' ∧ (∀ k, F k → w.heap.size ≤ k) ∧ Below w.heap.size w w'
theorem memA_new (n : Nat) (w : World) (h1 : 64 ≤ n) (h2 : n ≤ 1048576) : Calls Tryz.prog 22 #[.int .i64 n] w (MadeM n w) := by
  refine (new_ok n w h1 h2).mono fun e w' ⟨g, gb, lv, he, hM, hb⟩ => ⟨g, fun k => k = g ∨ k = gb ∨ lv.ownBlock = some k, he, ⟨gb, lv, ?_, fun _ => Iff.rfl⟩, fun k hk => ?_, hb⟩
  · obtain ⟨ag, lg, old, r⟩ := hM
    exact ⟨ag, lg, old, Nat.zero_le _, Nat.zero_le _, r.blk, r.row, own_base r.log (Nat.zero_le _), r.len, r.pos, r.most, r.full⟩
  · obtain ⟨a, b, c⟩ := hM.ge
    rcases hk with rfl | rfl | e
    · exact a
    · exact b
    · exact c k e
end Go.Proofs.YtbpgblmhacpjlaaGreat
namespace Go.Proofs.YtbpgblmhacpjlaaGreat
open Go.RowKit Go.Maps

/-! the held ids -/
def heldL (hs : List Nat) : List Nat := (List.range hs.length).filter fun i => decide (0 < hs.getD i 0)
theorem mem_heldL {hs : List Nat} {i : Nat} : i ∈ heldL hs ↔ 0 < hs.getD i 0 := by
  unfold heldL
  rw [List.mem_filter, List.mem_range, decide_eq_true_eq]
  constructor
  · exact fun h => h.2
  · intro h
    refine ⟨?_, h⟩
    rcases Nat.lt_or_ge i hs.length with h1 | h1
    · exact h1
    · rw [List.getD_eq_getElem?_getD, List.getElem?_eq_none h1] at h; simp at h
theorem heldL_length (hs : List Nat) : (heldL hs).length ≤ hs.length := by
  unfold heldL
  have := List.length_filter_le (fun i => decide (0 < hs.getD i 0)) (List.range hs.length)
  simpa using this
theorem heldL_lt {hs : List Nat} {i : Nat} (h : i ∈ heldL hs) : i < hs.length := by
  unfold heldL at h
  exact List.mem_range.1 (List.mem_filter.1 h).1
theorem heldL_sorted (hs : List Nat) : (heldL hs).Pairwise (· < ·) := (List.pairwise_lt_range).filter _
theorem heldL_nodup (hs : List Nat) : (heldL hs).Nodup := (heldL_sorted hs).imp fun h => Nat.ne_of_lt h

/-- The map holds each id's places. -/
def MIs (D : DataW Unit) (hs : List Nat) : Prop :=
  (∀ x : Int, Maps.has D (.int .i64 x) = decide (0 ≤ x ∧ 0 < hs.getD x.toNat 0)) ∧ ∀ i : Nat, D.atKey (.int .i64 (i : Int)) (.lit (.int .i64 0)) = .lit (.int .i64 (hs.getD i 0 : Int))
theorem MIs.empty (n : Nat) : MIs (.map []) (List.replicate n 0) := by
  have e : ∀ i, (List.replicate n 0).getD i 0 = 0 := fun i => by
    rw [List.getD_eq_getElem?_getD, List.getElem?_replicate]
    split <;> rfl
  refine ⟨fun x => ?_, fun i => ?_⟩
  · rw [e]; simp [has]
  · rw [e]; rfl
theorem getD_set {hs : List Nat} {i : Nat} (hi : i < hs.length) (n j : Nat) : (hs.set i n).getD j 0 = if j = i then n else hs.getD j 0 := by
  rw [List.getD_eq_getElem?_getD, List.getElem?_set, List.getD_eq_getElem?_getD]
  by_cases h : i = j
  · subst h; simp [hi]
  · have h' : ¬ j = i := fun e => h e.symm
    simp [h, h']
theorem key_ne {i : Nat} {x : Int} (h : ¬ x = (i : Int)) : (Lit.int .i64 x) ≠ .int .i64 (i : Int) := by
  intro e
  injection e with _ e
  exact h e
theorem MIs.put {D : DataW Unit} {hs : List Nat} (h : MIs D hs) (hD : IsMap D) {i n : Nat} (hi : i < hs.length) (hn : 0 < n) (hb : i ≤ 1048576) : MIs (D.put (.int .i64 (i : Int)) (.lit (.int .i64 (n : Int)))) (hs.set i n) := by
  have hk : WideAt.IsKeyLit (.int .i64 (i : Int)) := trivial
  refine ⟨fun x => ?_, fun j => ?_⟩
  · rw [getD_set hi]
    by_cases e : x = (i : Int)
    · subst e; rw [has_put_same hD hk]; simp [hn]
    · rw [has_put_other (key_ne e), h.1 x]
      by_cases h0 : 0 ≤ x
      · rw [if_neg (by omega)]
      · simp [h0]
  · rw [getD_set hi]
    by_cases e : j = i
    · subst e; rw [atKey_put_same hD hk, if_pos rfl]
    · rw [atKey_put_other (key_ne (by omega)), h.2 j, if_neg e]
theorem MIs.del {D : DataW Unit} {hs : List Nat} (h : MIs D hs) {i : Nat} (hi : i < hs.length) : MIs (D.del (.int .i64 (i : Int))) (hs.set i 0) := by
  refine ⟨fun x => ?_, fun j => ?_⟩
  · rw [getD_set hi]
    by_cases e : x = (i : Int)
    · subst e; rw [has_del_same]; simp
    · rw [has_del_other (key_ne e), h.1 x]
      by_cases h0 : 0 ≤ x
      · rw [if_neg (by omega)]
      · simp [h0]
  · rw [getD_set hi]
    by_cases e : j = i
    · subst e; rw [atKey_del_same, if_pos rfl]; rfl
    · rw [atKey_del_other (key_ne (by omega)), h.2 j, if_neg e]

theorem lit_inj {a b : Int} (h : (DataW.lit (.int .i64 a) : DataW Unit) = .lit (.int .i64 b)) : a = b := by simpa using h
theorem Tryz.law3 : Keyed Tryz.prog 3 := int_keyed Tryz.underlying3
theorem Tryz.zero3 (w : World) : (zeroValue 3).run Tryz.prog w = .ok (.int .i64 0) w := by kernel_rfl
theorem key_of {n : Nat} (h : n ≤ 1048576) : keyOf Tryz.prog 3 (.int .i64 (n : Int)) = some (.int .i64 (n : Int)) := keyOf_int_mk Tryz.underlying3 (WalkArith.wf_i64 (by omega))
/-- The map as it lies in memory. -/
def MapAt (bm : Nat) (hs : List Nat) (w : World) : Prop := ∃ (D : DataW Unit) (n : Nat), w.ownsMap Tryz.prog 3 (plainElem Tryz.prog 3) bm n D ∧ MIs D hs
theorem MapAt.same {bm : Nat} {hs : List Nat} {w w' : World} (h : MapAt bm hs w) (hb : w'.heap[bm]? = w.heap[bm]?) : MapAt bm hs w' := by
  obtain ⟨D, n, ⟨es, clock, hh, r⟩, hm⟩ := h
  exact ⟨D, n, ⟨es, clock, hb.trans hh, r⟩, hm⟩
theorem MapAt.lt {bm : Nat} {hs : List Nat} {w : World} (h : MapAt bm hs w) : bm < w.heap.size := by
  obtain ⟨D, n, h, -⟩ := h
  exact h.lt
theorem keys_perm {bm n : Nat} {hs : List Nat} {D : DataW Unit} {w : World} (h : w.ownsMap Tryz.prog 3 (plainElem Tryz.prog 3) bm n D) (hm : MIs D hs) : ((heldL hs).map fun i : Nat => (i : Int)).Perm (intKeys D) := by
  obtain ⟨es, hD, hpw, -⟩ := h.entries Tryz.law3
  obtain ⟨es', hD', hko⟩ := h.keysOf
  obtain rfl : es = es' := by rw [hD] at hD'; simpa using hD'
  subst hD
  refine perm_intKeys hpw (fun p hp => ?_) ?_ (fun x => ?_)
  · obtain ⟨v, hv⟩ := hko p hp
    obtain ⟨x, _, hx, _⟩ := Maps.keyOf_i64 Tryz.underlying3 hv
    exact ⟨x, hx⟩
  · exact List.pairwise_map.2 ((heldL_nodup hs).imp fun {a b} hne e => hne (by omega))
  · rw [hm.1 x, List.mem_map]
    simp only [decide_eq_true_eq]
    constructor
    · rintro ⟨i, hi, rfl⟩
      exact ⟨by omega, by simpa using mem_heldL.1 hi⟩
    · rintro ⟨h0, h1⟩
      exact ⟨x.toNat, mem_heldL.2 h1, by omega⟩
theorem MapAt.tight {bm : Nat} {hs : List Nat} {w : World} (h : MapAt bm hs w) : ∃ D : DataW Unit, w.ownsMap Tryz.prog 3 (plainElem Tryz.prog 3) bm hs.length D ∧ MIs D hs ∧ Maps.size D ≤ hs.length := by
  obtain ⟨D, n, h, hm⟩ := h
  have hp := keys_perm h hm
  have hlen : Maps.size D ≤ hs.length := by
    obtain ⟨es, hD, -⟩ := h.entries Tryz.law3
    subst hD
    have e := hp.length_eq
    have := heldL_length hs
    simp only [List.length_map, intKeys] at e
    show es.length ≤ _
    omega
  refine ⟨D, ?_, hm, hlen⟩
  obtain ⟨es, clock, hh, F, hs', hD⟩ := h
  refine ⟨es, clock, hh, F, ?_, hD⟩
  have e1 : Maps.size D = es.size := by rw [hD]; simp [Maps.size, length_sorted]
  omega
section
variable {bm : Nat} {hs : List Nat} {w : World}
theorem MapAt.look (h : MapAt bm hs w) (x : Nat) (hx : x ≤ 1048576) : (Instr.lookup 75 (.map (some bm)) (.int .i64 (x : Int)) false).run Tryz.prog w = .ok (.int .i64 (hs.getD x 0 : Int)) w := by
  obtain ⟨D, n, h, hm⟩ := h
  obtain ⟨c, hrun, hat, -⟩ := h.lookup_int Tryz.law3 Tryz.underlying75 Tryz.underlying3 (Tryz.zero3 w) (key_of hx)
  rw [hm.2 x] at hat
  have hat := lit_inj hat
  rw [hrun, hat]
theorem MapAt.lookOk (h : MapAt bm hs w) (x : Nat) (hx : x ≤ 1048576) : (Instr.lookup 75 (.map (some bm)) (.int .i64 (x : Int)) true).run Tryz.prog w = .ok (.tuple #[.int .i64 (hs.getD x 0 : Int), .bool (decide (0 < hs.getD x 0))]) w := by
  obtain ⟨D, n, h, hm⟩ := h
  obtain ⟨v, ps, hrun, hv⟩ := h.look_ok Tryz.law3 Tryz.underlying75 (Tryz.zero3 w) (plainElem_int (H := Unit) Tryz.underlying3 (by decide : (Lit.int .i64 0).wf = true)) (key_of hx)
  obtain ⟨c, rfl, hc, hwc⟩ := plainElem_int_inv Tryz.underlying3 hv
  have hc := congrArg Prod.fst hc
  have hat := hm.2 x
  simp only at hc
  rw [hc] at hat
  have hat := lit_inj hat
  rw [hrun, hat, hm.1]
  simp
end
/-- the map -/
def mapA (bm : Nat) (hs : List Nat) : As where
  P F w := MapAt bm hs w ∧ ∀ k, F k ↔ k = bm
  lt := by
    rintro F w ⟨h, hF⟩ k hk
    rw [(hF k).1 hk]; exact h.lt
  keep := by
    rintro F w w' ⟨h, hF⟩ hk
    exact ⟨h.same (hk bm ((hF bm).2 rfl)), hF⟩
section
variable {F : Nat → Prop} {bm : Nat} {hs hs' : List Nat} {w w' : World}
theorem St.turned (hF : ∀ k, F k ↔ k = bm) (h : MapAt bm hs' w') (ht : w.mapTurned w' bm) : St F w (mapA bm hs') w' := by
  have hg := ht.grown
  exact ⟨F, ⟨h, hF⟩, ⟨hg.os, hg.tape, hg.output, hg.size, fun k hk hn => hg.block k hk (fun e => hn ((hF k).2 (by simpa using e)))⟩, fun _ hk => .inl hk⟩
theorem mapA_store (h : (mapA bm hs).P F w) {i n : Nat} (hi : i < hs.length) (hn : 0 < n) (hl : hs.length ≤ 32768) (hb : n ≤ 1048576) :
    ∃ w', (Instr.mapUpdate 75 (.map (some bm)) (.int .i64 (i : Int)) (.int .i64 (n : Int))).run Tryz.prog w = .ok () w' ∧ St F w (mapA bm (hs.set i n)) w' := by
  obtain ⟨hM, hF⟩ := h
  obtain ⟨D, hown, hm, -⟩ := hM.tight
  obtain ⟨w', hrun, hown', ht⟩ := hown.store Tryz.law3 Tryz.underlying75 (by unfold maxLen; omega) (key_of (by omega : i ≤ 1048576)) (val := .int .i64 (n : Int)) (plainElem_int Tryz.underlying3 (WalkArith.wf_i64 (by omega)))
  exact ⟨w', hrun, St.turned hF ⟨_, _, hown', hm.put hown.isMap hi hn (by omega)⟩ ht⟩
theorem mapA_drop (h : (mapA bm hs).P F w) {i : Nat} (hi : i < hs.length) (hl : hs.length ≤ 32768) (ty : TypeId) :
    ∃ w', (Builtin.delete_ #[75, 3] ty #[.map (some bm), .int .i64 (i : Int)]).run Tryz.prog w = .ok (.tuple #[]) w' ∧ St F w (mapA bm (hs.set i 0)) w' := by
  obtain ⟨hM, hF⟩ := h
  obtain ⟨D, n, hown, hm⟩ := hM
  obtain ⟨w', hrun, hown', ht⟩ := hown.drop Tryz.law3 Tryz.underlying75 (key_of (by omega : i ≤ 1048576)) ty
  exact ⟨w', hrun, St.turned hF ⟨_, _, hown', hm.del hi⟩ ht⟩
theorem mapA_made (n : Nat) (w : World) : (mapA w.heap.size (List.replicate n 0)).P (fun k => k = w.heap.size) (w.alloc (.map #[] 0)) :=
  ⟨⟨.map [], 0, World.ownsMap_made _ _ _ _, MIs.empty n⟩, fun _ => Iff.rfl⟩
end

/-- The driver's side of a queue. -/
structure Vs where
  ring : Nat
  size : Nat
  drv : Nat
  dev : Nat
  na : Nat
  nw : Bool
  ba : Nat
  bw : Bool
  ta : Nat
  tw : Bool
  since : Nat
  hs : List Nat
structure Vs.Ok (q : Vs) (n : Nat) : Prop where
  s1 : 1 ≤ q.size
  s2 : q.size ≤ 32768
  r : q.ring + 16 * q.size ≤ n
  drv : q.drv + 4 ≤ n
  dev : q.dev + 4 ≤ n
  na : q.na < q.size
  ba : q.ba < q.size
  ta : q.ta < q.size
  hl : q.hs.length = q.size
  sum : q.hs.sum ≤ q.size
def Vs.free (q : Vs) : Nat := q.size - q.hs.sum
/-- as it lies in its block -/
def Vs.cells (q : Vs) (g bm low : Nat) : Array Value :=
  #[.pointer (some ⟨g, 0, none⟩), .int .i64 (q.ring : Int), .int .i64 (q.size : Int), .int .i64 (q.drv : Int), .int .i64 (q.dev : Int), .int .i64 (q.na : Int), .bool q.nw, .int .i64 (q.ba : Int), .bool q.bw, .map (some bm), .int .i64 (q.free : Int), .int .i64 (low : Int), .int .i64 (q.ta : Int), .bool q.tw, .int .i64 (q.since : Int)]
/-- all below it are held -/
def LowOk (low : Nat) (hs : List Nat) : Prop := low ≤ hs.length ∧ ∀ i, i < low → 0 < hs.getD i 0
/-- the least id that is not held -/
def leastId (hs : List Nat) : Nat := hs.findIdx (· == 0)
theorem sum_pos : ∀ (l : List Nat), (∀ x ∈ l, 0 < x) → l.length ≤ l.sum
  | [], _ => Nat.le_refl _
  | a :: l, h => by
    have h1 := sum_pos l (fun x hx => h x (by simp [hx]))
    have h2 := h a (by simp)
    simp only [List.length_cons, List.sum_cons]
    omega
theorem least_lt {hs : List Nat} (h : hs.sum < hs.length) : leastId hs < hs.length := by
  unfold leastId
  rcases Nat.lt_or_ge (hs.findIdx (· == 0)) hs.length with h1 | h1
  · exact h1
  · have h2 := List.findIdx_eq_length.1 (Nat.le_antisymm List.findIdx_le_length h1)
    have := sum_pos hs (fun x hx => by have := h2 x hx; simp at this; omega)
    omega
theorem least_zero {hs : List Nat} (h : leastId hs < hs.length) : hs.getD (leastId hs) 0 = 0 := by
  unfold leastId at h ⊢
  have := List.findIdx_getElem (w := h)
  rw [List.getD_eq_getElem?_getD, List.getElem?_eq_getElem h]
  simpa using this
theorem least_pos {hs : List Nat} {i : Nat} (h : i < leastId hs) : 0 < hs.getD i 0 := by
  have h1 : i < hs.length := Nat.lt_of_lt_of_le h List.findIdx_le_length
  have := List.not_of_lt_findIdx h
  rw [List.getD_eq_getElem?_getD, List.getElem?_eq_getElem h1]
  simp at this ⊢
  omega
theorem least_is {hs : List Nat} {i : Nat} (h0 : hs.getD i 0 = 0) (h : ∀ j, j < i → 0 < hs.getD j 0) (hi : i < hs.length) : leastId hs = i := by
  rcases Nat.lt_trichotomy (leastId hs) i with h1 | h1 | h1
  · have := h _ h1
    rw [least_zero (by omega)] at this; omega
  · exact h1
  · have := least_pos h1; omega
theorem low_le {low : Nat} {hs : List Nat} (h : LowOk low hs) (hl : leastId hs < hs.length) : low ≤ leastId hs := by
  rcases Nat.lt_or_ge (leastId hs) low with h1 | h1
  · have := h.2 _ h1
    rw [least_zero hl] at this; omega
  · exact h1
theorem sum_set : ∀ (l : List Nat) (i n : Nat), i < l.length → (l.set i n).sum + l.getD i 0 = l.sum + n
  | [], i, n, h => by simp at h
  | a :: l, 0, n, _ => by simp; omega
  | a :: l, i + 1, n, h => by
    have := sum_set l i n (by simpa using h)
    simp only [List.set_cons_succ, List.sum_cons, List.getD_cons_succ]
    omega
theorem le_sum : ∀ (l : List Nat) (i : Nat), l.getD i 0 ≤ l.sum
  | [], i => by simp
  | a :: l, 0 => by simp
  | a :: l, i + 1 => by
    have := le_sum l i
    simp only [List.sum_cons, List.getD_cons_succ]
    omega
theorem low_post {hs : List Nat} {n : Nat} (hl : leastId hs < hs.length) (hn : 0 < n) : LowOk (leastId hs + 1) (hs.set (leastId hs) n) := by
  refine ⟨by simp; omega, fun i hi => ?_⟩
  rw [getD_set hl]
  split
  · exact hn
  · exact least_pos (by omega)
theorem low_reap {low : Nat} {hs : List Nat} {i : Nat} (h : LowOk low hs) (hi : i < hs.length) : LowOk (min low i) (hs.set i 0) := by
  refine ⟨by have := h.1; simp; omega, fun j hj => ?_⟩
  rw [getD_set hi, if_neg (by omega)]
  exact h.2 j (by omega)
/-- The code's queue. -/
def drvA (gq g : Nat) (q : Vs) : As where
  P F w := ∃ bm low, LowOk low q.hs ∧ (sep (box gq 77 (q.cells g bm low)) (mapA bm q.hs)).P F w
  lt := by
    rintro F w ⟨bm, low, -, h⟩ k hk
    exact (sep _ _).lt h k hk
  keep := by
    rintro F w w' ⟨bm, low, hl, h⟩ hk
    exact ⟨bm, low, hl, (sep _ _).keep h hk⟩
end Go.Proofs.YtbpgblmhacpjlaaGreat
namespace Go.Proofs.YtbpgblmhacpjlaaGreat
open Go.RowKit

section
variable {F0 : Nat → Prop} {w0 w : World} {A X : As}
theorem St.callx (h : St F0 w0 (sep A X) w) : ∃ F, A.P F w ∧ (∀ k, F k → F0 k ∨ w0.heap.size ≤ k) ∧ ∀ (A' : As) (w' : World), St F w A' w' → St F0 w0 (sep A' X) w' := by
  obtain ⟨G, ⟨F1, F2, hG, d, a, b⟩, hs, hF⟩ := h
  have h1 : ∀ k, F1 k → F0 k ∨ w0.heap.size ≤ k := fun k hk => hF k ((hG k).2 (.inl hk))
  refine ⟨F1, a, h1, fun A' w' ⟨F', a', hs', hF'⟩ => ?_⟩
  refine ⟨fun k => F' k ∨ F2 k, ⟨F', F2, fun k => Iff.rfl, fun k e1 e2 => ?_, a', X.keep b (fun k e2 => hs'.block k (X.lt b k e2) (fun e1 => d k e1 e2))⟩, hs.trans hs' h1, fun k hk => ?_⟩
  · rcases hF' k e1 with e | e
    · exact d k e e2
    · have := X.lt b k e2; omega
  · rcases hk with e | e
    · rcases hF' k e with e | e
      · exact h1 k e
      · right; have := hs.size; omega
    · exact hF k ((hG k).2 (.inr e))
theorem St.atx {l : List As} (h : St F0 w0 (stars l) w) (i : Nat) (hi : i < l.length) : ∃ F, l[i].P F w ∧ (∀ k, F k → F0 k ∨ w0.heap.size ≤ k) ∧ ∀ (A' : As) (w' : World), St F w A' w' → St F0 w0 (stars (l.set i A')) w' := by
  obtain ⟨F, hA, hF, hb⟩ := St.callx (h.mono (fun F e => stars_pull l i hi F e))
  exact ⟨F, hA, hF, fun A' w' hs => (hb A' w' hs).mono (fun F e => stars_back l i hi A' F e)⟩
theorem St.twox {l : List As} (h : St F0 w0 (stars l) w) (i j : Nat) (hij : i < j) (hj : j < l.length) : ∃ F, (stars [l[i]'(by omega), l[j]]).P F w ∧ (∀ k, F k → F0 k ∨ w0.heap.size ≤ k) ∧ ∀ (A' B' : As) (w' : World), St F w (stars [A', B']) w' → St F0 w0 (stars ((l.set j B').set i A')) w' := by
  have hi : i < l.length := by omega
  have hi2 : i < (l.eraseIdx j).length := by rw [List.length_eraseIdx]; split <;> omega
  have e1 : (l.eraseIdx j)[i] = l[i] := by rw [List.getElem_eraseIdx]; simp [hij]
  have h1 := h.mono (fun F e => stars_pull l j hj F e)
  have h2 : St F0 w0 (sep (sep l[i] l[j]) (stars ((l.eraseIdx j).eraseIdx i))) w := h1.mono (fun F e => by
    have e2 := sep_mono e (fun _ e => e) (fun F e => stars_pull (l.eraseIdx j) i hi2 F e)
    rw [e1] at e2
    exact sep_mono (sep_right e2) (fun _ e => sep_comm e) (fun _ e => e))
  obtain ⟨F, hA, hF, hb⟩ := h2.callx
  refine ⟨F, stars_pair hA, hF, fun A' B' w' hs => (hb _ w' (hs.mono (fun F e => pair_stars e))).mono (fun F e => ?_)⟩
  have e3 := sep_left (sep_mono e (fun _ e => sep_comm e) (fun _ e => e))
  have e4 : (sep B' (stars ((l.eraseIdx j).set i A'))).P F w' := sep_mono e3 (fun _ e => e) (fun F e => stars_back (l.eraseIdx j) i hi2 A' F e)
  have e5 : (l.eraseIdx j).set i A' = (l.set i A').eraseIdx j := by rw [List.eraseIdx_set_gt hij]
  rw [e5] at e4
  have e6 := stars_back (l.set i A') j (by simpa using hj) B' F e4
  rwa [List.set_comm _ _ (by omega : i ≠ j)] at e6
end
/-- the driver's queue opened -/
theorem drv_open {F : Nat → Prop} {w : World} {A : As} {gq g : Nat} {q : Vs} (h : (stars [A, drvA gq g q]).P F w) : ∃ bm low, LowOk low q.hs ∧ (stars [A, box gq 77 (q.cells g bm low), mapA bm q.hs]).P F w := by
  obtain ⟨F1, F2, hF, d, a, G1, G2, hG, d2, ⟨bm, low, hl, b⟩, c⟩ := h
  exact ⟨bm, low, hl, F1, F2, hF, d, a, sep_left ⟨G1, G2, hG, d2, b, c⟩⟩
theorem drv_shut {F0 : Nat → Prop} {w0 w : World} {A : As} {gq g bm low : Nat} {q : Vs} (h : St F0 w0 (stars [A, box gq 77 (q.cells g bm low), mapA bm q.hs]) w) (hl : LowOk low q.hs) : St F0 w0 (stars [A, drvA gq g q]) w :=
  h.mono fun _ e => sep_mono e (fun _ e => e) fun _ e => sep_mono (sep_right e) (fun _ e => ⟨bm, low, hl, e⟩) (fun _ e => e)
end Go.Proofs.YtbpgblmhacpjlaaGreat
namespace Go.Proofs.YtbpgblmhacpjlaaGreat
open Go.RowKit

/-- a row of the call's own -/
def rowA (e : TypeId) (size : Nat) (v : Value) (n : Nat) (xs : List Value) : As where
  P F w := w.ownsRow 0 e size v n xs ∧ ∀ k, F k ↔ v.ownBlock = some k
  lt := by
    rintro F w ⟨h, hF⟩ k hk
    exact (h.lt k ((hF k).1 hk)).2
  keep := by
    rintro F w w' ⟨h, hF⟩ hk
    exact ⟨own_same h (fun k e => hk k ((hF k).2 e)), hF⟩
section
variable {F : Nat → Prop} {F0 : Nat → Prop} {w0 w w' : World} {A X : As}
/-- a call on the one, which lies apart from the rest -/
theorem St.cally (h : St F0 w0 (sep A X) w) : ∃ F, A.P F w ∧ (∀ k, F k → F0 k ∨ w0.heap.size ≤ k) ∧ (∃ F2, X.P F2 w ∧ ∀ k, F k → ¬ F2 k) ∧ ∀ (A' : As) (w' : World), St F w A' w' → St F0 w0 (sep A' X) w' := by
  obtain ⟨G, ⟨F1, F2, hG, d, a, b⟩, hs, hF⟩ := h
  have h1 : ∀ k, F1 k → F0 k ∨ w0.heap.size ≤ k := fun k hk => hF k ((hG k).2 (.inl hk))
  refine ⟨F1, a, h1, ⟨F2, b, d⟩, fun A' w' ⟨F', a', hs', hF'⟩ => ?_⟩
  refine ⟨fun k => F' k ∨ F2 k, ⟨F', F2, fun k => Iff.rfl, fun k e1 e2 => ?_, a', X.keep b (fun k e2 => hs'.block k (X.lt b k e2) (fun e1 => d k e1 e2))⟩, hs.trans hs' h1, fun k hk => ?_⟩
  · rcases hF' k e1 with e | e
    · exact d k e e2
    · have := X.lt b k e2; omega
  · rcases hk with e | e
    · rcases hF' k e with e | e
      · exact h1 k e
      · right; have := hs.size; omega
    · exact hF k ((hG k).2 (.inr e))
theorem St.twoy {l : List As} (h : St F0 w0 (stars l) w) (i j : Nat) (hij : i < j) (hj : j < l.length) : ∃ F, (stars [l[i]'(by omega), l[j]]).P F w ∧ (∀ k, F k → F0 k ∨ w0.heap.size ≤ k) ∧ (∃ F2, (stars ((l.eraseIdx j).eraseIdx i)).P F2 w ∧ ∀ k, F k → ¬ F2 k) ∧ ∀ (A' B' : As) (w' : World), St F w (stars [A', B']) w' → St F0 w0 (stars ((l.set j B').set i A')) w' := by
  have hi : i < l.length := by omega
  have hi2 : i < (l.eraseIdx j).length := by rw [List.length_eraseIdx]; split <;> omega
  have e1 : (l.eraseIdx j)[i] = l[i] := by rw [List.getElem_eraseIdx]; simp [hij]
  have h1 := h.mono (fun F e => stars_pull l j hj F e)
  have h2 : St F0 w0 (sep (sep l[i] l[j]) (stars ((l.eraseIdx j).eraseIdx i))) w := h1.mono (fun F e => by
    have e2 := sep_mono e (fun _ e => e) (fun F e => stars_pull (l.eraseIdx j) i hi2 F e)
    rw [e1] at e2
    exact sep_mono (sep_right e2) (fun _ e => sep_comm e) (fun _ e => e))
  obtain ⟨F, hA, hF, hr, hb⟩ := h2.cally
  refine ⟨F, stars_pair hA, hF, hr, fun A' B' w' hs => (hb _ w' (hs.mono (fun F e => pair_stars e))).mono (fun F e => ?_)⟩
  have e3 := sep_left (sep_mono e (fun _ e => sep_comm e) (fun _ e => e))
  have e4 : (sep B' (stars ((l.eraseIdx j).set i A'))).P F w' := sep_mono e3 (fun _ e => e) (fun F e => stars_back (l.eraseIdx j) i hi2 A' F e)
  have e5 : (l.eraseIdx j).set i A' = (l.set i A').eraseIdx j := by rw [List.eraseIdx_set_gt hij]
  rw [e5] at e4
  have e6 := stars_back (l.set i A') j (by simpa using hj) B' F e4
  rwa [List.set_comm _ _ (by omega : i ≠ j)] at e6
/-- a box among many things -/
theorem stars_has : ∀ (l : List As) (m : Nat) (hm : m < l.length) {g : Nat} {t : TypeId} {cs : Array Value} (_ : l[m] = box g t cs) {F : Nat → Prop}, (stars l).P F w → F g
  | A :: l, 0, _, g, t, cs, e, F, ⟨F1, F2, hF, _, a, _⟩ => by
    have e : A = box g t cs := e
    subst e
    exact (hF g).2 (.inl ((a.2 g).2 rfl))
  | A :: l, m + 1, hm, g, t, cs, e, F, ⟨F1, F2, hF, _, _, b⟩ => (hF g).2 (.inr (stars_has l m (by simpa using hm) e b))
/-- .. a row -/
theorem stars_hasRow : ∀ (l : List As) (m : Nat) (hm : m < l.length) {e : TypeId} {size n : Nat} {v : Value} {xs : List Value} (_ : l[m] = rowA e size v n xs) {F : Nat → Prop} {k : Nat}, v.ownBlock = some k → (stars l).P F w → F k
  | A :: l, 0, _, e, size, n, v, xs, he, F, k, hk, ⟨F1, F2, hF, _, a, _⟩ => by
    have he : A = rowA e size v n xs := he
    subst he
    exact (hF k).2 (.inl ((a.2 k).2 hk))
  | A :: l, m + 1, hm, e, size, n, v, xs, he, F, k, hk, ⟨F1, F2, hF, _, _, b⟩ => (hF k).2 (.inr (stars_hasRow l m (by simpa using hm) he hk b))
theorem St.trans0 (hb : Below w0.heap.size w0 w) (h : St (fun _ => False) w A w') : St (fun _ => False) w0 A w' := by
  obtain ⟨F, a, hs, hF⟩ := h
  refine ⟨F, a, ⟨hs.os.trans hb.os, hs.tape.trans hb.tape, hs.output.trans hb.output, Nat.le_trans hb.size hs.size, fun k hk _ => (hs.block k (Nat.lt_of_lt_of_le hk hb.size) (fun e => e)).trans (hb.block k hk)⟩, fun k hk => ?_⟩
  rcases hF k hk with e | e
  · exact e.elim
  · right; have := hb.size; omega
/-- what a callee made of its own joins what is held -/
theorem St.join (h : St F0 w0 X w) (hn : St (fun _ => False) w A w') : St F0 w0 (sep A X) w' := by
  have hb := hn.law
  obtain ⟨F, a, hs, hF⟩ := hn
  exact h.add hb a (fun k hk => by rcases hF k hk with e | e; exact e.elim; exact e)
end
theorem stars_app {w : World} : ∀ (l m : List As) {F : Nat → Prop}, (sep (stars l) (stars m)).P F w → (stars (l ++ m)).P F w
  | [], m, F, ⟨F1, F2, hF, d, a, b⟩ => by
    have e : F2 = F := funext fun k => propext ⟨fun x => (hF k).2 (.inr x), fun x => by rcases (hF k).1 x with y | y; exact (a k y).elim; exact y⟩
    subst e
    exact b
  | A :: l, m, F, h => sep_mono (sep_left h) (fun _ e => e) (fun _ e => stars_app l m e)
end Go.Proofs.YtbpgblmhacpjlaaGreat
namespace Go.Proofs.YtbpgblmhacpjlaaGreat
open Go.RowKit

/-! the document's queue -/
def Vs.cellsR (q : Vs) (g : Nat) (hv : Value) : Array Value :=
  #[.pointer (some ⟨g, 0, none⟩), .int .i64 (q.ring : Int), .int .i64 (q.size : Int), .int .i64 (q.drv : Int), .int .i64 (q.dev : Int), .int .i64 (q.na : Int), .bool q.nw, .int .i64 (q.ba : Int), .bool q.bw, .int .i64 (q.ta : Int), .bool q.tw, .int .i64 (q.since : Int), hv]
def intsV (l : List Nat) : List Value := l.map fun i : Nat => .int .i64 (i : Int)
theorem intsV_length (l : List Nat) : (intsV l).length = l.length := by simp [intsV]
def refA (gx g : Nat) (q : Vs) : As where
  P F w := ∃ hv, Blk w gx 48 (q.cellsR g hv) ∧ w.ownsRow 0 3 1 hv q.hs.length (intsV q.hs) ∧ ∀ k, F k ↔ k = gx ∨ hv.ownBlock = some k
  lt := by
    rintro F w ⟨hv, h, ho, hF⟩ k hk
    rcases (hF k).1 hk with rfl | e
    · exact h.lt
    · exact (ho.lt k e).2
  keep := by
    rintro F w w' ⟨hv, h, ho, hF⟩ hk
    exact ⟨hv, h.same (hk _ ((hF _).2 (.inl rfl))), own_same ho (fun k e => hk _ ((hF _).2 (.inr e))), hF⟩

theorem Tryz.info3 : (Tryz.prog.info? 3).map (fun i => (i.zero, i.size, i.bytes)) = some (some (.int .i64 0), 1, 8) := by kernel_rfl
/-- A slice whose cells are these numbers. -/
def NTab (A : Option Addr) (L : List Nat) (w : World) : Prop :=
  0 < L.length → ∃ b off, A = some ⟨b, off, none⟩ ∧ b < w.heap.size ∧ ∀ (i : Nat), i < L.length → w.cell? ⟨b, off + i, none⟩ = some (.int .i64 (L.getD i 0 : Int))
theorem NTab.below {w w' : World} {A : Option Addr} {L : List Nat} (h : NTab A L w) (hb : Below w.heap.size w w') : NTab A L w' := by
  intro hn
  obtain ⟨b, off, hA, hlt, hc⟩ := h hn
  exact ⟨b, off, hA, by have := hb.size; omega, fun i hi => (hb.cell (p := ⟨b, off + i, none⟩) hlt).trans (hc i hi)⟩
theorem intsV_at {l : List Nat} {i : Nat} (h : i < l.length) : (intsV l)[i]? = some (.int .i64 (l.getD i 0 : Int)) := by
  unfold intsV
  rw [List.getElem?_map, List.getD_eq_getElem?_getD, List.getElem?_eq_getElem h]; rfl
theorem NTab.of_own {w : World} {B n cap : Nat} {A : Option Addr} {l : List Nat} (h : w.ownsRow B 3 1 (.slice A n cap) n (intsV l)) (hn : n = l.length) : NTab A l w := by
  intro hl
  obtain ⟨g, cap', hv, _, hlt⟩ := h.form (by omega)
  have hA : A = some ⟨g, 0, none⟩ := by injection hv
  subst hA
  refine ⟨g, 0, rfl, hlt, fun i hi => ?_⟩
  have := h.cells (g := g) rfl i _ (intsV_at hi)
  have e : (⟨g, 0, none⟩ : Addr).add i = ⟨g, 0 + i, none⟩ := by
    unfold Addr.add
    split
    · rename_i h0; subst h0; rfl
    · simp
  rw [e] at this
  exact this
theorem NTab.at {w : World} {A : Option Addr} {L : List Nat} (h : NTab A L w) (k : Nat) (hk : k < L.length) : ∃ b off, A = some ⟨b, off, none⟩ ∧ w.cell? ⟨b, off + k, none⟩ = some (.int .i64 (L.getD k 0 : Int)) := by
  obtain ⟨b, off, hA, _, hc⟩ := h (by omega)
  exact ⟨b, off, hA, hc k hk⟩
theorem sum_take_succ {l : List Nat} {k : Nat} (h : k < l.length) : (l.take (k + 1)).sum = (l.take k).sum + l.getD k 0 := by
  rw [List.take_succ_eq_append_getElem h, List.sum_append, List.getD_eq_getElem?_getD, List.getElem?_eq_getElem h]
  simp
theorem sum_take_le (l : List Nat) (k : Nat) : (l.take k).sum ≤ l.sum := by
  conv => rhs; rw [← List.take_append_drop k l]
  rw [List.sum_append]; omega
theorem ref_form {w : World} {gx g : Nat} {q : Vs} {F : Nat → Prop} (h : (refA gx g q).P F w) : ∃ A cap, Blk w gx 48 (q.cellsR g (.slice A q.hs.length cap)) ∧ NTab A q.hs w ∧ q.hs.length ≤ maxLen := by
  obtain ⟨hv, hb, ho, -⟩ := h
  obtain ⟨A, cap, rfl⟩ := own_form ho
  refine ⟨A, cap, hb, NTab.of_own ho rfl, ?_⟩
  rcases ho.2 with ⟨-, h0⟩ | ⟨_, _, _, _, _, _, h1, h2, _⟩
  · simp at h0; simp [h0]
  · exact Nat.le_trans h1 h2
set_option maxHeartbeats 1600000 in
theorem rfree_v {w : World} {gx g n : Nat} {q : Vs} {F : Nat → Prop} (h : (refA gx g q).P F w) (hq : q.Ok n) :
    Calls Tryz.prog 32 #[.pointer (some ⟨gx, 0, none⟩)] w fun e w' => e = .returned (.int .i64 (q.free : Int)) ∧ Below w.heap.size w w' := by
  obtain ⟨A, cap, hb, ht, -⟩ := ref_form h
  have h1 := hq.s2
  have hs := hq.sum
  have hl := hq.hl
  have hf : (q.free : Int) = (q.size : Int) - (q.hs.sum : Int) := by unfold Vs.free; omega
  rw [hf]
  have HT := Lib.hid ht
  have HB := Lib.hid hb
  have c2 : w.cell? ⟨gx, 2, none⟩ = some (.int .i64 (q.size : Int)) := hb.cell 2
  clear h ht hb hf hq
  go_enter Tryz.func32, Tryz.ntmps32
  go_wp2
  clear c2
  go_loopw [3, 4] (fun a i wr => ∃ k : Nat, k ≤ q.hs.length ∧ a = .int .i64 ((q.size : Int) - ((q.hs.take k).sum : Int)) ∧ i = .int .i64 k ∧ Below w.heap.size w wr) (fun a i _ => q.hs.length - (RowKit.intOf i).toNat)
  case atStart => exact ⟨0, Nat.zero_le _, by simp, rfl, Below.refl _ _⟩
  case round =>
    obtain ⟨k, hk, rfl, rfl, hbw⟩ := hrel
    have kb := HB.out.same (hbw.block _ HB.out.lt)
    have c12 : wr.cell? ⟨gx, 12, none⟩ = some (.slice A q.hs.length cap) := kb.cell 12
    have ltx := kb.lt
    clear kb
    by_cases hlt : k < q.hs.length
    · obtain ⟨b, off, rfl, hc⟩ := (HT.out.below hbw).at k hlt
      have e3 := sum_take_succ hlt
      have e4 := sum_take_le q.hs (k + 1)
      obtain ⟨x, hx⟩ : ∃ x, q.hs.getD k 0 = x := ⟨_, rfl⟩
      obtain ⟨y, hy⟩ : ∃ y, (q.hs.take k).sum = y := ⟨_, rfl⟩
      rw [hx] at hc e3
      rw [hy] at e3 ⊢
      have e1 : (0 : Int) ≤ (k : Int) := by omega
      have e2 : (k : Int) < (q.hs.length : Int) := by omega
      have v1 : IntKind.i64.wrap ((q.size : Int) - (y : Int) - (x : Int)) = (q.size : Int) - (y : Int) - (x : Int) := by rw [IntKind.wrap_i64]; omega
      go_wp2_with fail
      go_roundw
      case rel => exact ⟨k + 1, by omega, by rw [e3]; congr 1; omega, by go_num, hbw⟩
      case measure => simp [RowKit.intOf]; omega
    · obtain rfl : k = q.hs.length := by omega
      rw [List.take_length] at *
      go_wp2_with fail
      go_ret
      exact ⟨rfl, hbw⟩
end Go.Proofs.YtbpgblmhacpjlaaGreat
