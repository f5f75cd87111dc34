/-
  What lies in memory, each in blocks of its own; what a call on some of it leaves of the rest; no condition.
-/
import Derived.Test.YtbpgblmhacpjlaaGm5
namespace Go.Proofs.Ytbpgblmhacpjlaa
open Go.RowKit

/-- What lies in memory, and in which blocks. -/
structure As where
  P : (Nat → Prop) → World → Prop
  lt : ∀ {F : Nat → Prop} {w : World}, P F w → ∀ k, F k → k < w.heap.size
  keep : ∀ {F : Nat → Prop} {w w' : World}, P F w → (∀ k, F k → w'.heap[k]? = w.heap[k]?) → P F w'
/-- From one world to a later one: of the blocks that were there those of F alone have turned. -/
structure Step (F : Nat → Prop) (w w' : World) : Prop where
  os : w'.os = w.os
  tape : w'.tape = w.tape
  output : w'.output = w.output
  size : w.heap.size ≤ w'.heap.size
  block : ∀ k, k < w.heap.size → ¬ F k → w'.heap[k]? = w.heap[k]?
theorem Step.refl (F : Nat → Prop) (w : World) : Step F w w := ⟨rfl, rfl, rfl, Nat.le_refl _, fun _ _ _ => rfl⟩
theorem Step.trans {F0 F : Nat → Prop} {w0 w w' : World} (h : Step F0 w0 w) (g : Step F w w') (hF : ∀ k, F k → F0 k ∨ w0.heap.size ≤ k) : Step F0 w0 w' :=
  ⟨g.os.trans h.os, g.tape.trans h.tape, g.output.trans h.output, Nat.le_trans h.size g.size, fun k hk hn =>
    (g.block k (Nat.lt_of_lt_of_le hk h.size) (fun e => by rcases hF k e with e | e; exact hn e; omega)).trans (h.block k hk hn)⟩
theorem Step.of_below {F : Nat → Prop} {w w' : World} (h : Below w.heap.size w w') : Step F w w' := ⟨h.os, h.tape, h.output, h.size, fun k hk _ => h.block k hk⟩
theorem Step.below {F : Nat → Prop} {w w' : World} {n : Nat} (h : Step F w w') (hn : n ≤ w.heap.size) (hF : ∀ k, F k → n ≤ k) : Below n w w' :=
  ⟨h.os, h.tape, h.output, h.size, fun k hk => h.block k (by omega) (fun e => by have := hF k e; omega)⟩

/-- Where a call is that began at w0 with leave to turn the blocks of F0: what it holds now. -/
def St (F0 : Nat → Prop) (w0 : World) (A : As) (w : World) : Prop := ∃ F, A.P F w ∧ Step F0 w0 w ∧ ∀ k, F k → F0 k ∨ w0.heap.size ≤ k
section
variable {F0 : Nat → Prop} {w0 w w' : World} {A B C X A' B' : As}
theorem St.start {F : Nat → Prop} (h : A.P F w) : St F w A w := ⟨F, h, Step.refl _ _, fun _ hk => .inl hk⟩
theorem St.step (h : St F0 w0 A w) : Step F0 w0 w := by obtain ⟨F, -, hs, -⟩ := h; exact hs
theorem St.size (h : St F0 w0 A w) : w0.heap.size ≤ w.heap.size := h.step.size
theorem St.below (h : St F0 w0 A w) (hb : Below w.heap.size w w') : St F0 w0 A w' := by
  obtain ⟨F, hA, hs, hF⟩ := h
  exact ⟨F, A.keep hA (fun k hk => hb.block k (A.lt hA k hk)), hs.trans (F := fun _ => False) (Step.of_below hb) (fun _ e => e.elim), hF⟩
theorem St.drew (h : St F0 w0 A w) : St F0 w0 A w.drew := h.below (Below.refl _ _).drew
theorem St.drewN (h : St F0 w0 A w) (n : Nat) : St F0 w0 A (w.drewN n) := h.below ⟨rfl, rfl, rfl, Nat.le_refl _, fun _ _ => rfl⟩
theorem St.alloc (h : St F0 w0 A w) (o : Obj) : St F0 w0 A (w.alloc o) := h.below (ba (Below.refl _ _) o)
theorem St.mono (h : St F0 w0 A w) (hA : ∀ F, A.P F w → A'.P F w) : St F0 w0 A' w := by
  obtain ⟨F, a, b, c⟩ := h
  exact ⟨F, hA F a, b, c⟩
end

/-- nothing -/
def emp : As := ⟨fun F _ => ∀ k, ¬ F k, fun h k hk => (h k hk).elim, fun h _ => h⟩
/-- two things, apart -/
def sep (A B : As) : As where
  P F w := ∃ F1 F2, (∀ k, F k ↔ F1 k ∨ F2 k) ∧ (∀ k, F1 k → ¬ F2 k) ∧ A.P F1 w ∧ B.P F2 w
  lt := by
    rintro F w ⟨F1, F2, h, -, a, b⟩ k hk
    rcases (h k).1 hk with e | e
    · exact A.lt a k e
    · exact B.lt b k e
  keep := by
    rintro F w w' ⟨F1, F2, h, d, a, b⟩ hk
    exact ⟨F1, F2, h, d, A.keep a (fun k e => hk k ((h k).2 (.inl e))), B.keep b (fun k e => hk k ((h k).2 (.inr e)))⟩
/-- a block known whole -/
def box (g : Nat) (t : TypeId) (cs : Array Value) : As where
  P F w := Blk w g t cs ∧ ∀ k, F k ↔ k = g
  lt := by
    rintro F w ⟨h, hF⟩ k hk
    rw [(hF k).1 hk]; exact h.lt
  keep := by
    rintro F w w' ⟨h, hF⟩ hk
    exact ⟨h.same (hk g ((hF g).2 rfl)), hF⟩

section
variable {F : Nat → Prop} {F0 : Nat → Prop} {w0 w w' : World} {A B C X A' B' : As}
theorem sep_comm (h : (sep A B).P F w) : (sep B A).P F w := by
  obtain ⟨F1, F2, h, d, a, b⟩ := h
  exact ⟨F2, F1, fun k => (h k).trans Or.comm, fun k e1 e2 => d k e2 e1, b, a⟩
theorem sep_left (h : (sep (sep A B) C).P F w) : (sep A (sep B C)).P F w := by
  obtain ⟨F1, F2, h, d, ⟨G1, G2, h1, d1, a, b⟩, c⟩ := h
  refine ⟨G1, fun k => G2 k ∨ F2 k, fun k => ?_, fun k e1 e2 => ?_, a, G2, F2, fun k => Iff.rfl, fun k e1 e2 => d k ((h1 k).2 (.inr e1)) e2, b, c⟩
  · rw [h k, h1 k, or_assoc]
  · rcases e2 with e2 | e2
    · exact d1 k e1 e2
    · exact d k ((h1 k).2 (.inl e1)) e2
theorem sep_right (h : (sep A (sep B C)).P F w) : (sep (sep A B) C).P F w := by
  obtain ⟨F1, F2, h, d, a, G1, G2, h1, d1, b, c⟩ := h
  refine ⟨fun k => F1 k ∨ G1 k, G2, fun k => ?_, fun k e1 e2 => ?_, ⟨F1, G1, fun k => Iff.rfl, fun k e1 e2 => d k e1 ((h1 k).2 (.inl e2)), a, b⟩, c⟩
  · rw [h k, h1 k, or_assoc]
  · rcases e1 with e1 | e1
    · exact d k e1 ((h1 k).2 (.inr e2))
    · exact d1 k e1 e2
theorem sep_mono (h : (sep A B).P F w) (hA : ∀ F, A.P F w → A'.P F w) (hB : ∀ F, B.P F w → B'.P F w) : (sep A' B').P F w := by
  obtain ⟨F1, F2, h, d, a, b⟩ := h
  exact ⟨F1, F2, h, d, hA _ a, hB _ b⟩
/-- the second of three to the front -/
theorem sep_swap (h : (sep A (sep B C)).P F w) : (sep B (sep A C)).P F w :=
  sep_left (sep_mono (sep_right h) (fun _ e => sep_comm e) (fun _ e => e))
/-- A call on the one leaves the other. -/
theorem St.call (h : St F0 w0 (sep A X) w) : ∃ F, A.P F w ∧ ∀ (A' : As) (w' : World), St F w A' w' → St F0 w0 (sep A' X) w' := by
  obtain ⟨G, ⟨F1, F2, hG, d, a, b⟩, hs, hF⟩ := h
  refine ⟨F1, a, fun A' w' ⟨F', a', hs', hF'⟩ => ?_⟩
  have h1 : ∀ k, F1 k → F0 k ∨ w0.heap.size ≤ k := fun k hk => hF k ((hG k).2 (.inl hk))
  refine ⟨fun k => F' k ∨ F2 k, ⟨F', F2, fun k => Iff.rfl, fun k e1 e2 => ?_, a', X.keep b (fun k e2 => hs'.block k (X.lt b k e2) (fun e1 => d k e1 e2))⟩, hs.trans hs' h1, fun k hk => ?_⟩
  · rcases hF' k e1 with e | e
    · exact d k e e2
    · have := X.lt b k e2; omega
  · rcases hk with e | e
    · rcases hF' k e with e | e
      · exact h1 k e
      · right; have := hs.size; omega
    · exact hF k ((hG k).2 (.inr e))
/-- .. a call on all of it -/
theorem St.all (h : St F0 w0 A w) : ∃ F, A.P F w ∧ ∀ (A' : As) (w' : World), St F w A' w' → St F0 w0 A' w' := by
  obtain ⟨G, a, hs, hF⟩ := h
  refine ⟨G, a, fun A' w' ⟨F', a', hs', hF'⟩ => ⟨F', a', hs.trans hs' hF, fun k hk => ?_⟩⟩
  rcases hF' k hk with e | e
  · exact hF k e
  · right; have := hs.size; omega
theorem St.drop (h : St F0 w0 (sep A X) w) : St F0 w0 X w := by
  obtain ⟨G, ⟨F1, F2, hG, d, a, b⟩, hs, hF⟩ := h
  exact ⟨F2, b, hs, fun k hk => hF k ((hG k).2 (.inr hk))⟩
/-- something new, in new blocks -/
theorem St.add (h : St F0 w0 A w) (hb : Below w.heap.size w w') {F : Nat → Prop} (hB : B.P F w') (hF : ∀ k, F k → w.heap.size ≤ k) : St F0 w0 (sep B A) w' := by
  have hsz := h.size
  have hs := (h.below hb).step
  obtain ⟨G1, a1, hs1, hG1⟩ := h
  refine ⟨fun k => F k ∨ G1 k, ⟨F, G1, fun k => Iff.rfl, fun k e1 e2 => ?_, hB, A.keep a1 (fun k hk => hb.block k (A.lt a1 k hk))⟩, hs, fun k hk => ?_⟩
  · have := hF k e1; have := A.lt a1 k e2; omega
  · rcases hk with e | e
    · right; have := hF k e; omega
    · exact hG1 k e
theorem St.new (h : St F0 w0 A w) (t : TypeId) (cs : Array Value) : St F0 w0 (sep (box w.heap.size t cs) A) (w.alloc (.cells cs t)) :=
  h.add (B := box w.heap.size t cs) (F := fun k => k = w.heap.size) (ba (Below.refl _ _) _) ⟨Blk.new w t cs, fun _ => Iff.rfl⟩ (fun k e => by omega)
end
theorem box_put {F : Nat → Prop} {w : World} {g : Nat} {t : TypeId} {cs : Array Value} (h : (box g t cs).P F w) (i : Nat) (v : Value) : St F w (box g t (cs.setIfInBounds i v)) (w.setCell ⟨g, i, none⟩ v) :=
  ⟨F, ⟨h.1.put i v, h.2⟩, ⟨rfl, rfl, rfl, by simp [World.setCell], fun k _ hk => Below.heap_setCell w _ v k (fun e => hk ((h.2 k).2 e))⟩, fun _ hk => .inl hk⟩

/-! many things -/
def stars : List As → As
  | [] => emp
  | A :: l => sep A (stars l)
section
variable {F : Nat → Prop} {F0 : Nat → Prop} {w0 w w' : World}
theorem stars_pull : ∀ (l : List As) (i : Nat) (hi : i < l.length) (F : Nat → Prop), (stars l).P F w → (sep l[i] (stars (l.eraseIdx i))).P F w
  | A :: l, 0, _, _, h => h
  | A :: l, i + 1, hi, F, h => by
    have hi' : i < l.length := by simpa using hi
    exact sep_swap (A := A) (B := l[i]) (sep_mono h (fun _ e => e) (fun F e => stars_pull l i hi' F e))
theorem stars_back : ∀ (l : List As) (i : Nat) (_ : i < l.length) (A' : As) (F : Nat → Prop), (sep A' (stars (l.eraseIdx i))).P F w → (stars (l.set i A')).P F w
  | A :: l, 0, _, A', F, h => h
  | A :: l, i + 1, hi, A', F, h => by
    have hi' : i < l.length := by simpa using hi
    exact sep_mono (A := A) (B := sep A' (stars (l.eraseIdx i))) (sep_swap h) (fun _ e => e) (fun F e => stars_back l i hi' A' F e)
/-- a call on the one at place i -/
theorem St.at {l : List As} (h : St F0 w0 (stars l) w) (i : Nat) (hi : i < l.length) : ∃ F, l[i].P F w ∧ ∀ (A' : As) (w' : World), St F w A' w' → St F0 w0 (stars (l.set i A')) w' := by
  obtain ⟨F, hA, hb⟩ := St.call (h.mono (fun F e => stars_pull l i hi F e))
  exact ⟨F, hA, fun A' w' hs => (hb A' w' hs).mono (fun F e => stars_back l i hi A' F e)⟩
/-- a call on the two at places i and j -/
theorem St.at2 {l : List As} (h : St F0 w0 (stars l) w) (i j : Nat) (hij : i < j) (hj : j < l.length) : ∃ F, (sep (l[i]'(by omega)) l[j]).P F w ∧ ∀ (A' B' : As) (w' : World), St F w (sep A' B') w' → St F0 w0 (stars ((l.set j B').set i A')) w' := by
  have hi : i < l.length := by omega
  have hi2 : i < (l.eraseIdx j).length := by rw [List.length_eraseIdx]; split <;> omega
  have e1 : (l.eraseIdx j)[i] = l[i] := by rw [List.getElem_eraseIdx]; simp [hij]
  have h1 := h.mono (fun F e => stars_pull l j hj F e)
  have h2 : St F0 w0 (sep (sep l[i] l[j]) (stars ((l.eraseIdx j).eraseIdx i))) w := h1.mono (fun F e => by
    have e2 := sep_mono e (fun _ e => e) (fun F e => stars_pull (l.eraseIdx j) i hi2 F e)
    rw [e1] at e2
    exact sep_mono (sep_right e2) (fun _ e => sep_comm e) (fun _ e => e))
  obtain ⟨F, hA, hb⟩ := h2.call
  refine ⟨F, hA, fun A' B' w' hs => (hb _ w' hs).mono (fun F e => ?_)⟩
  have e3 := sep_left (sep_mono e (fun _ e => sep_comm e) (fun _ e => e))
  have e4 : (sep B' (stars ((l.eraseIdx j).set i A'))).P F w' := sep_mono e3 (fun _ e => e) (fun F e => stars_back (l.eraseIdx j) i hi2 A' F e)
  have e5 : (l.eraseIdx j).set i A' = (l.set i A').eraseIdx j := by rw [List.eraseIdx_set_gt hij]
  rw [e5] at e4
  have e6 := stars_back (l.set i A') j (by simpa using hj) B' F e4
  rwa [List.set_comm _ _ (by omega : i ≠ j)] at e6
theorem stars_pair {A B : As} (h : (sep A B).P F w) : (stars [A, B]).P F w :=
  sep_mono h (fun _ e => e) (fun F e => ⟨F, fun _ => False, fun k => by simp, fun k _ e => e, e, fun _ e => e⟩)
theorem pair_stars {A B : As} (h : (stars [A, B]).P F w) : (sep A B).P F w := by
  obtain ⟨F1, F2, h, d, a, G1, G2, h1, d1, b, c⟩ := h
  have e : ∀ k, F2 k ↔ G1 k := fun k => by rw [h1 k]; exact ⟨fun x => x.elim (fun y => y) (fun y => (c k y).elim), .inl⟩
  have e' : F2 = G1 := funext fun k => propext (e k)
  subst e'
  exact ⟨F1, F2, h, d, a, b⟩
/-- a call on two, which stand at places i and j -/
theorem St.two {l : List As} (h : St F0 w0 (stars l) w) (i j : Nat) (hij : i < j) (hj : j < l.length) : ∃ F, (stars [l[i]'(by omega), l[j]]).P F w ∧ ∀ (A' B' : As) (w' : World), St F w (stars [A', B']) w' → St F0 w0 (stars ((l.set j B').set i A')) w' := by
  obtain ⟨F, hA, hb⟩ := h.at2 i j hij hj
  exact ⟨F, stars_pair hA, fun A' B' w' hs => hb A' B' w' (hs.mono (fun F e => pair_stars e))⟩
theorem St.get {l : List As} (h : St F0 w0 (stars l) w) (i : Nat) (hi : i < l.length) : ∃ F, l[i].P F w := by
  obtain ⟨F, hA, -⟩ := h.at i hi
  exact ⟨F, hA⟩
theorem St.push {l : List As} (h : St F0 w0 (stars l) w) (t : TypeId) (cs : Array Value) : St F0 w0 (stars (box w.heap.size t cs :: l)) (w.alloc (.cells cs t)) := h.new t cs
theorem St.pop {l : List As} {A : As} (h : St F0 w0 (stars (A :: l)) w) : St F0 w0 (stars l) w := St.drop h
/-- a store into the block at place i -/
theorem St.put {l : List As} (h : St F0 w0 (stars l) w) (i : Nat) (hi : i < l.length) {g : Nat} {t : TypeId} {cs : Array Value} (hl : l[i] = box g t cs) (j : Nat) (v : Value) : St F0 w0 (stars (l.set i (box g t (cs.setIfInBounds j v)))) (w.setCell ⟨g, j, none⟩ v) := by
  obtain ⟨F, hA, hb⟩ := h.at i hi
  rw [hl] at hA
  exact hb _ _ (box_put hA j v)
/-- four stores, two stores -/
theorem St.put4 {l : List As} (h : St F0 w0 (stars l) w) (i : Nat) (hi : i < l.length) {g : Nat} {t : TypeId} {a b c d : Value} (hl : l[i] = box g t #[a, b, c, d]) (p q r s : Value) :
    St F0 w0 (stars (l.set i (box g t #[p, q, r, s]))) ((((w.setCell ⟨g, 0, none⟩ p).setCell ⟨g, 1, none⟩ q).setCell ⟨g, 2, none⟩ r).setCell ⟨g, 3, none⟩ s) := by
  obtain ⟨F, hA, hb⟩ := h.at i hi
  rw [hl] at hA
  refine hb _ _ ⟨F, ⟨?_, hA.2⟩, ⟨rfl, rfl, rfl, by simp [World.setCell], fun k _ hk => ?_⟩, fun _ hk => .inl hk⟩
  · have := (((hA.1.put 0 p).put 1 q).put 2 r).put 3 s
    simpa using this
  · have e : k ≠ g := fun e => hk ((hA.2 k).2 e)
    exact (Below.heap_setCell _ _ s k e).trans ((Below.heap_setCell _ _ r k e).trans ((Below.heap_setCell _ _ q k e).trans (Below.heap_setCell _ _ p k e)))
theorem St.put2 {l : List As} (h : St F0 w0 (stars l) w) (i : Nat) (hi : i < l.length) {g : Nat} {t : TypeId} {cs : Array Value} (hl : l[i] = box g t cs) (j k : Nat) (p q : Value) :
    St F0 w0 (stars (l.set i (box g t ((cs.setIfInBounds j p).setIfInBounds k q)))) ((w.setCell ⟨g, j, none⟩ p).setCell ⟨g, k, none⟩ q) := by
  obtain ⟨F, hA, hb⟩ := h.at i hi
  rw [hl] at hA
  refine hb _ _ ⟨F, ⟨(hA.1.put j p).put k q, hA.2⟩, ⟨rfl, rfl, rfl, by simp [World.setCell], fun m _ hk => ?_⟩, fun _ hk => .inl hk⟩
  have e : m ≠ g := fun e => hk ((hA.2 m).2 e)
  exact (Below.heap_setCell _ _ q m e).trans (Below.heap_setCell _ _ p m e)
theorem St.ne {l : List As} (h : St F0 w0 (stars l) w) (i j : Nat) (hij : i < j) (hj : j < l.length) {g g' : Nat} {t t' : TypeId} {cs cs' : Array Value} (hi : l[i]'(by omega) = box g t cs) (hl : l[j] = box g' t' cs') : g ≠ g' := by
  obtain ⟨F, ⟨F1, F2, -, d, a, b⟩, -⟩ := h.at2 i j hij hj
  rw [hi] at a
  rw [hl] at b
  intro e
  exact d g ((a.2 g).2 rfl) ((b.2 g).2 e)
theorem St.blk {l : List As} (h : St F0 w0 (stars l) w) (i : Nat) (hi : i < l.length) {g : Nat} {t : TypeId} {cs : Array Value} (hl : l[i] = box g t cs) : Blk w g t cs := by
  obtain ⟨F, hA⟩ := h.get i hi
  rw [hl] at hA
  exact hA.1
end
theorem St.law {w0 w : World} {A : As} (h : St (fun _ => False) w0 A w) : Below w0.heap.size w0 w := h.step.below (Nat.le_refl _) (fun _ e => e.elim)
theorem St.begin (w : World) : St (fun _ => False) w (stars []) w := ⟨fun _ => False, fun _ e => e, Step.refl _ _, fun _ e => .inl e⟩

/-- A memory: its block; its bytes. -/
def memA (g : Nat) (xs : List UInt8) : As where
  P F w := ∃ gb lv, Mem 0 g gb lv xs w ∧ ∀ k, F k ↔ k = g ∨ k = gb ∨ lv.ownBlock = some k
  lt := by
    rintro F w ⟨gb, lv, h, hF⟩ k hk
    obtain ⟨a, b, c⟩ := h.lt
    rcases (hF k).1 hk with rfl | rfl | e
    · exact a
    · exact b
    · exact c k e
  keep := by
    rintro F w w' ⟨gb, lv, h, hF⟩ hk
    exact ⟨gb, lv, h.kept (hk _ ((hF _).2 (.inl rfl))) (hk _ ((hF _).2 (.inr (.inl rfl)))) (fun k e => hk _ ((hF _).2 (.inr (.inr e)))), hF⟩
/-- a call on the memory -/
theorem St.noted {F : Nat → Prop} {w w' : World} {g gb : Nat} {lv : Value} {ys : List UInt8} (hF : ∀ k, F k ↔ k = g ∨ k = gb ∨ lv.ownBlock = some k) (hn : Noted 0 g gb lv ys w w') : St F w (memA g ys) w' := by
  obtain ⟨lv1, hM, hT, hL⟩ := hn
  refine ⟨fun k => k = g ∨ k = gb ∨ lv1.ownBlock = some k, ⟨gb, lv1, hM, fun _ => Iff.rfl⟩, ⟨hT.os, hT.tape, hT.output, hT.size, fun k hk hno => hT.block k hk (fun e => hno ((hF k).2 (.inl e))) (fun e => hno ((hF k).2 (.inr (.inl e)))) (fun e => hno ((hF k).2 (.inr (.inr e))))⟩, fun k hk => ?_⟩
  rcases hk with e | e | e
  · exact .inl ((hF k).2 (.inl e))
  · exact .inl ((hF k).2 (.inr (.inl e)))
  · rcases hL k e with e | e
    · exact .inl ((hF k).2 (.inr (.inr e)))
    · exact .inr e
section
variable {F : Nat → Prop} {w : World} {g : Nat} {xs : List UInt8}
theorem memA_read (h : (memA g xs).P F w) (a n : Nat) (hn : a + n ≤ xs.length) :
    Calls Try.prog 46 #[.pointer (some ⟨g, 0, none⟩), .int .i64 a, .int .i64 n] w fun e w' => e = .returned (.tuple #[.string ⟨((xs.drop a).take n).toArray⟩, .int .i64 0]) ∧ St F w (memA g xs) w' := by
  obtain ⟨gb, lv, hM, hF⟩ := h
  exact (read_ok hM a n hn).mono fun e w' ⟨he, hN⟩ => ⟨he, St.noted hF hN⟩
theorem memA_write (h : (memA g xs).P F w) (a : Int) (s : ByteArray) (hs : s.size ≤ maxLen) :
    Calls Try.prog 27 #[.pointer (some ⟨g, 0, none⟩), .int .i64 a, .string s] w fun e w' => e = .returned (.int .i64 (wrE xs a s)) ∧ St F w (memA g (wrX xs a s)) w' := by
  obtain ⟨gb, lv, hM, hF⟩ := h
  exact (write_any hM a s hs).mono fun e w' ⟨he, hN⟩ => ⟨he, St.noted hF hN⟩
theorem memA_put (h : (memA g xs).P F w) (a : Nat) (s : ByteArray) (hn : a + s.size ≤ xs.length) :
    Calls Try.prog 27 #[.pointer (some ⟨g, 0, none⟩), .int .i64 a, .string s] w fun e w' => e = .returned (.int .i64 0) ∧ St F w (memA g (over xs a s)) w' := by
  obtain ⟨gb, lv, hM, hF⟩ := h
  exact (write_ok hM a s hn).mono fun e w' ⟨he, hN⟩ => ⟨he, St.noted hF hN⟩
theorem memA_image (h : (memA g xs).P F w) :
    Calls Try.prog 23 #[.pointer (some ⟨g, 0, none⟩)] w fun e w' => e = .returned (.string ⟨xs.toArray⟩) ∧ w = w' := by
  obtain ⟨gb, lv, hM, hF⟩ := h
  exact image_m hM
theorem memA_may (h : (memA g xs).P F w) (a n : Int) (hn : n < 9223372036854775808) :
    Calls Try.prog 50 #[.pointer (some ⟨g, 0, none⟩), .int .i64 a, .int .i64 n] w fun e w' => e = .returned (.bool (mayB xs a n)) ∧ w = w' := by
  obtain ⟨gb, lv, hM, hF⟩ := h
  exact may_any hM a n hn
theorem memA_len (h : (memA g xs).P F w) : xs.length ≤ 1048576 := by obtain ⟨gb, lv, hM, hF⟩ := h; exact hM.len
end
def MadeM (n : Nat) (w : World) (e : Ending) (w' : World) : Prop := ∃ g F, e = .returned (.tuple #[.pointer (some ⟨g, 0, none⟩), .int .i64 0]) ∧ (memA g (List.replicate n 0)).P F w' ∧ (∀ k, F k → w.heap.size ≤ k) ∧ Below w.heap.size w w'
theorem memA_new (n : Nat) (w : World) (h1 : 64 ≤ n) (h2 : n ≤ 1048576) : Calls Try.prog 7 #[.int .i64 n] w (MadeM n w) := by
  refine (new_ok n w h1 h2).mono fun e w' ⟨g, gb, lv, he, hM, hb⟩ => ⟨g, fun k => k = g ∨ k = gb ∨ lv.ownBlock = some k, he, ⟨gb, lv, ?_, fun _ => Iff.rfl⟩, fun k hk => ?_, hb⟩
  · obtain ⟨ag, lg, old, r⟩ := hM
    exact ⟨ag, lg, old, Nat.zero_le _, Nat.zero_le _, r.blk, r.row, own_base r.log (Nat.zero_le _), r.len, r.pos, r.most, r.full⟩
  · obtain ⟨a, b, c⟩ := hM.ge
    rcases hk with rfl | rfl | e
    · exact a
    · exact b
    · exact c k e
end Go.Proofs.Ytbpgblmhacpjlaa
