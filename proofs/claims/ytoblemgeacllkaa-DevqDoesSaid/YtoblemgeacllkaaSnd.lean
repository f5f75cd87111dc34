/-
  What isAmong and Need answer.
-/
import Derived.Test.YtoblemgeacllkaaSnr
namespace Go.Proofs.Ytoblemgeacllkaa.Sp
open Go.RowKit

/-- an event's block, two positions' blocks, and all else as it was -/
structure Tri (w : World) (o v f a b c d : Value) (w' : World) : Prop where
  l : Blk w' w.heap.size 37 #[o, v, f]
  m : Blk w' (w.heap.size + 1) 46 #[a, b]
  r : Blk w' (w.heap.size + 2) 46 #[c, d]
  below : Below w.heap.size w w'
section
variable {w w1 w' : World} {o v f a b c d : Value}
theorem Tri.new (w : World) (o v f a b c d : Value) : Tri w o v f a b c d (((w.alloc (.cells #[o, v, f] 37)).alloc (.cells #[a, b] 46)).alloc (.cells #[c, d] 46)) := by
  have e : ((w.alloc (.cells #[o, v, f] 37)).alloc (.cells #[a, b] 46)).heap.size = w.heap.size + 2 := by simp
  have h := Blk.new ((w.alloc (.cells #[o, v, f] 37)).alloc (.cells #[a, b] 46)) 46 #[c, d]
  rw [e] at h
  exact ⟨((Blk.new w 37 _).alloc _).alloc _, (Blk.new2 _ _ _ _).alloc _, h, ba (ba (ba (Below.refl _ _) _) _) _⟩
theorem Tri.next (h : Tri w o v f a b c d w1) (hq : Below w1.heap.size w1 w') : Tri w o v f a b c d w' :=
  ⟨h.l.same (hq.block _ h.l.lt), h.m.same (hq.block _ h.m.lt), h.r.same (hq.block _ h.r.lt), b0 h.below hq⟩
theorem Tri.alloc (h : Tri w o v f a b c d w1) (ob : Obj) : Tri w o v f a b c d (w1.alloc ob) := ⟨h.l.alloc ob, h.m.alloc ob, h.r.alloc ob, ba h.below ob⟩
theorem Tri.put0 (h : Tri w o v f a b c d w1) (u : Value) : Tri w o v f u b c d (w1.setCell ⟨w.heap.size + 1, 0, none⟩ u) :=
  ⟨h.l.other (by omega) 0 u, h.m.put 0 u, h.r.other (by omega) 0 u, h.below.setCell (Nat.le_add_right _ 1) _⟩
theorem Tri.put1 (h : Tri w o v f a b c d w1) (u : Value) : Tri w o v f a u c d (w1.setCell ⟨w.heap.size + 1, 1, none⟩ u) :=
  ⟨h.l.other (by omega) 1 u, h.m.put 1 u, h.r.other (by omega) 1 u, h.below.setCell (Nat.le_add_right _ 1) _⟩
theorem Tri.facts (h : Tri w o v f a b c d w1) :
    w1.cell? ⟨w.heap.size, 0, none⟩ = some o ∧ w1.cell? ⟨w.heap.size, 1, none⟩ = some v ∧ w1.cell? ⟨w.heap.size, 2, none⟩ = some f ∧ w1.cell? ⟨w.heap.size + 1, 0, none⟩ = some a ∧ w1.cell? ⟨w.heap.size + 1, 1, none⟩ = some b ∧
    w1.cell? ⟨w.heap.size + 2, 0, none⟩ = some c ∧ w1.cell? ⟨w.heap.size + 2, 1, none⟩ = some d ∧ w1.frozen? ⟨w.heap.size + 1, 0, none⟩ = false ∧ w1.frozen? ⟨w.heap.size + 1, 1, none⟩ = false :=
  ⟨h.l.cell 0, h.l.cell 1, h.l.cell 2, h.m.cell 0, h.m.cell 1, h.r.cell 0, h.r.cell 1, h.m.frozen 0, h.m.frozen 1⟩
end
def RB (w : World) (B : Bool) (e : Ending) (w' : World) : Prop := e = .returned (.bool B) ∧ Below w.heap.size w w'
theorem am_bad (o a k n G E : Int) (v b : Bool) (w : World) (HG : ∀ W, Calls Try.prog 76 #[.agg #[.int .i64 a, .bool b], .agg #[.int .i64 o, .bool v], .int .i64 n] W (RG W G E)) (hE : (E == 0) = false) : Calls Try.prog 77 #[.agg #[.int .i64 o, .bool v], .agg #[.int .i64 a, .bool b], .int .i64 k, .int .i64 n] w (RB w false) := by
  have H := Lib.hid HG
  clear HG
  go_enter Try.func77, Try.ntmps77
  go_wp2_with fail
  refine (H.out _).mono ?_
  rintro e w1 ⟨rfl, hq⟩
  have h1 := (Two.new w (.int .i64 o) (.bool v) (.int .i64 a) (.bool b)).next hq
  clear hq
  go_wp2_with fail
  go_ret
  exact ⟨rfl, h1.below⟩
theorem am_yes (o a k n G : Int) (v b : Bool) (w : World) (HG : ∀ W, Calls Try.prog 76 #[.agg #[.int .i64 a, .bool b], .agg #[.int .i64 o, .bool v], .int .i64 n] W (RG W G 0)) (h : G < k) : Calls Try.prog 77 #[.agg #[.int .i64 o, .bool v], .agg #[.int .i64 a, .bool b], .int .i64 k, .int .i64 n] w (RB w true) := by
  have H := Lib.hid HG
  clear HG
  go_enter Try.func77, Try.ntmps77
  go_wp2_with fail
  refine (H.out _).mono ?_
  rintro e w1 ⟨rfl, hq⟩
  have h1 := (Two.new w (.int .i64 o) (.bool v) (.int .i64 a) (.bool b)).next hq
  clear hq
  go_wp2_with fail
  go_ret
  exact ⟨rfl, h1.below⟩
theorem am_no (o a k n G : Int) (v b : Bool) (w : World) (HG : ∀ W, Calls Try.prog 76 #[.agg #[.int .i64 a, .bool b], .agg #[.int .i64 o, .bool v], .int .i64 n] W (RG W G 0)) (h : decide (G < k) = false) : Calls Try.prog 77 #[.agg #[.int .i64 o, .bool v], .agg #[.int .i64 a, .bool b], .int .i64 k, .int .i64 n] w (RB w false) := by
  have H := Lib.hid HG
  clear HG
  go_enter Try.func77, Try.ntmps77
  go_wp2_with fail
  refine (H.out _).mono ?_
  rintro e w1 ⟨rfl, hq⟩
  have h1 := (Two.new w (.int .i64 o) (.bool v) (.int .i64 a) (.bool b)).next hq
  clear hq
  go_wp2_with fail
  go_ret
  exact ⟨rfl, h1.below⟩
theorem am_any (o a k n : Int) (v b : Bool) (w : World) : Calls Try.prog 77 #[.agg #[.int .i64 o, .bool v], .agg #[.int .i64 a, .bool b], .int .i64 k, .int .i64 n] w (RB w (decide (gpE a o n = 0 ∧ gpV a o n b v < k))) := by
  have HG := fun W => gap_any a o n b v W
  by_cases h0 : gpE a o n = 0
  · rw [h0] at HG
    by_cases h1 : gpV a o n b v < k
    · rw [decide_eq_true ⟨h0, h1⟩]; exact am_yes o a k n _ v b w HG h1
    · rw [decide_eq_false (fun h => h1 h.2)]; exact am_no o a k n _ v b w HG (decide_eq_false h1)
  · rw [decide_eq_false (fun h => h0 h.1)]
    exact am_bad o a k n _ _ v b w HG (beq_eq_false_iff_ne.2 h0)
theorem need_bad (o f a c n G E : Int) (v b d : Bool) (w : World) (HG : ∀ W, Calls Try.prog 76 #[.agg #[.int .i64 a, .bool b], .agg #[.int .i64 c, .bool d], .int .i64 n] W (RG W G E)) (hE : (E != 0) = true) : Calls Try.prog 50 #[.agg #[.int .i64 o, .bool v, .int .i64 f], .agg #[.int .i64 a, .bool b], .agg #[.int .i64 c, .bool d], .int .i64 n] w (RB w false) := by
  have H := Lib.hid HG
  clear HG
  go_enter Try.func50, Try.ntmps50
  go_wp2_with fail
  refine (H.out _).mono ?_
  rintro e w1 ⟨rfl, hq⟩
  have h1 := (Tri.new w (.int .i64 o) (.bool v) (.int .i64 f) (.int .i64 a) (.bool b) (.int .i64 c) (.bool d)).next hq
  clear hq
  obtain ⟨p0, p1, p2, p3, p4, p5, p6, z0, z1⟩ := h1.facts
  go_wp2_with fail
  go_ret
  exact ⟨rfl, h1.below⟩
theorem need_far (o f a c n G : Int) (v b d : Bool) (w : World) (HG : ∀ W, Calls Try.prog 76 #[.agg #[.int .i64 a, .bool b], .agg #[.int .i64 c, .bool d], .int .i64 n] W (RG W G 0)) (h : n < G) : Calls Try.prog 50 #[.agg #[.int .i64 o, .bool v, .int .i64 f], .agg #[.int .i64 a, .bool b], .agg #[.int .i64 c, .bool d], .int .i64 n] w (RB w false) := by
  have H := Lib.hid HG
  clear HG
  go_enter Try.func50, Try.ntmps50
  go_wp2_with fail
  refine (H.out _).mono ?_
  rintro e w1 ⟨rfl, hq⟩
  have h1 := (Tri.new w (.int .i64 o) (.bool v) (.int .i64 f) (.int .i64 a) (.bool b) (.int .i64 c) (.bool d)).next hq
  clear hq
  obtain ⟨p0, p1, p2, p3, p4, p5, p6, z0, z1⟩ := h1.facts
  go_wp2_with fail
  go_ret
  exact ⟨rfl, h1.below⟩
theorem need_zero (o a n G : Int) (v b : Bool) (w : World) (HG : ∀ W, Calls Try.prog 76 #[.agg #[.int .i64 a, .bool b], .agg #[.int .i64 a, .bool b], .int .i64 n] W (RG W G 0)) (h : ¬ n < G) : Calls Try.prog 50 #[.agg #[.int .i64 o, .bool v, .int .i64 0], .agg #[.int .i64 a, .bool b], .agg #[.int .i64 a, .bool b], .int .i64 n] w (RB w false) := by
  have H := Lib.hid HG
  clear HG
  go_enter Try.func50, Try.ntmps50
  go_wp2_with fail
  refine (H.out _).mono ?_
  rintro e w1 ⟨rfl, hq⟩
  have h1 := (Tri.new w (.int .i64 o) (.bool v) (.int .i64 0) (.int .i64 a) (.bool b) (.int .i64 a) (.bool b)).next hq
  clear hq
  obtain ⟨p0, p1, p2, p3, p4, p5, p6, z0, z1⟩ := h1.facts
  go_wp2_with fail
  go_ret
  exact ⟨rfl, h1.below⟩
theorem need_at (o a c n G : Int) (v b d : Bool) (w : World) (HG : ∀ W, Calls Try.prog 76 #[.agg #[.int .i64 a, .bool b], .agg #[.int .i64 c, .bool d], .int .i64 n] W (RG W G 0)) (h : ¬ n < G) (hc : (a == c) = false) : Calls Try.prog 50 #[.agg #[.int .i64 o, .bool v, .int .i64 0], .agg #[.int .i64 a, .bool b], .agg #[.int .i64 c, .bool d], .int .i64 n] w (RB w true) := by
  have H := Lib.hid HG
  clear HG
  go_enter Try.func50, Try.ntmps50
  go_wp2_with fail
  refine (H.out _).mono ?_
  rintro e w1 ⟨rfl, hq⟩
  have h1 := (Tri.new w (.int .i64 o) (.bool v) (.int .i64 0) (.int .i64 a) (.bool b) (.int .i64 c) (.bool d)).next hq
  clear hq
  obtain ⟨p0, p1, p2, p3, p4, p5, p6, z0, z1⟩ := h1.facts
  go_wp2_with fail
  go_ret
  exact ⟨rfl, h1.below⟩
theorem need_wrap (o a n G : Int) (v b : Bool) (w : World) (HG : ∀ W, Calls Try.prog 76 #[.agg #[.int .i64 a, .bool b], .agg #[.int .i64 a, .bool (!b)], .int .i64 n] W (RG W G 0)) (h : ¬ n < G) : Calls Try.prog 50 #[.agg #[.int .i64 o, .bool v, .int .i64 0], .agg #[.int .i64 a, .bool b], .agg #[.int .i64 a, .bool (!b)], .int .i64 n] w (RB w true) := by
  have H := Lib.hid HG
  clear HG
  go_enter Try.func50, Try.ntmps50
  go_wp2_with fail
  refine (H.out _).mono ?_
  rintro e w1 ⟨rfl, hq⟩
  have h1 := (Tri.new w (.int .i64 o) (.bool v) (.int .i64 0) (.int .i64 a) (.bool b) (.int .i64 a) (.bool (!b))).next hq
  clear hq
  obtain ⟨p0, p1, p2, p3, p4, p5, p6, z0, z1⟩ := h1.facts
  go_wp2_with fail
  go_ret
  exact ⟨rfl, h1.below⟩
theorem need_none (o f a c n G : Int) (v b d : Bool) (w : World) (HG : ∀ W, Calls Try.prog 76 #[.agg #[.int .i64 a, .bool b], .agg #[.int .i64 c, .bool d], .int .i64 n] W (RG W G 0)) (h : ¬ n < G) (f0 : (f == 0) = false) (f2 : (f == 2) = false) : Calls Try.prog 50 #[.agg #[.int .i64 o, .bool v, .int .i64 f], .agg #[.int .i64 a, .bool b], .agg #[.int .i64 c, .bool d], .int .i64 n] w (RB w false) := by
  have H := Lib.hid HG
  clear HG
  go_enter Try.func50, Try.ntmps50
  go_wp2_with fail
  refine (H.out _).mono ?_
  rintro e w1 ⟨rfl, hq⟩
  have h1 := (Tri.new w (.int .i64 o) (.bool v) (.int .i64 f) (.int .i64 a) (.bool b) (.int .i64 c) (.bool d)).next hq
  clear hq
  obtain ⟨p0, p1, p2, p3, p4, p5, p6, z0, z1⟩ := h1.facts
  go_wp2_with fail
  go_ret
  exact ⟨rfl, h1.below⟩
theorem need_two (o a c n G : Int) (v b d Q : Bool) (w : World) (HG : ∀ W, Calls Try.prog 76 #[.agg #[.int .i64 a, .bool b], .agg #[.int .i64 c, .bool d], .int .i64 n] W (RG W G 0)) (h : ¬ n < G) (HI : ∀ W, Calls Try.prog 77 #[.agg #[.int .i64 o, .bool v], .agg #[.int .i64 a, .bool b], .int .i64 G, .int .i64 n] W (RB W Q)) : Calls Try.prog 50 #[.agg #[.int .i64 o, .bool v, .int .i64 2], .agg #[.int .i64 a, .bool b], .agg #[.int .i64 c, .bool d], .int .i64 n] w (RB w Q) := by
  have H := Lib.hid HG
  clear HG
  have HJ := Lib.hid HI
  clear HI
  go_enter Try.func50, Try.ntmps50
  go_wp2_with fail
  refine (H.out _).mono ?_
  rintro e w1 ⟨rfl, hq⟩
  have h1 := (Tri.new w (.int .i64 o) (.bool v) (.int .i64 2) (.int .i64 a) (.bool b) (.int .i64 c) (.bool d)).next hq
  clear hq
  obtain ⟨p0, p1, p2, p3, p4, p5, p6, z0, z1⟩ := h1.facts
  go_wp2_with fail
  refine (HJ.out _).mono ?_
  rintro e w2 ⟨rfl, hq⟩
  have h2 := h1.next hq
  clear hq
  go_wp2_with fail
  go_ret
  exact ⟨rfl, h2.below⟩
theorem need_any (o f a c n : Int) (v b d : Bool) (w : World) : Calls Try.prog 50 #[.agg #[.int .i64 o, .bool v, .int .i64 f], .agg #[.int .i64 a, .bool b], .agg #[.int .i64 c, .bool d], .int .i64 n] w (RB w (needV o v f a b c d n)) := by
  have HG := fun W => gap_any a c n b d W
  unfold needV
  by_cases h0 : gpE a c n = 0
  · rw [h0] at HG
    rw [gpV_ok b d h0] at HG
    by_cases h1 : n < gp a c n b d
    · rw [if_pos (Or.inr h1)]
      exact need_far o f a c n _ v b d w HG h1
    rw [if_neg (by omega)]
    by_cases f0 : f = 0
    · subst f0
      rw [if_pos rfl]
      obtain ⟨_, _, h3, h4, h5, h6⟩ := gpE_zero h0
      by_cases hc : a = c
      · subst hc
        by_cases hd : b = d
        · subst hd
          rw [gp_same, decide_eq_false (by omega)]
          rw [gp_same] at HG h1
          exact need_zero o a n 0 v b w HG h1
        · obtain rfl : d = !b := by revert hd; cases b <;> cases d <;> simp
          rw [decide_eq_true (by rw [gp, if_neg hd]; omega)]
          exact need_wrap o a n _ v b w HG h1
      · have hp : 0 < gp a c n b d := by unfold gp; split <;> (try split) <;> omega
        rw [decide_eq_true hp]
        exact need_at o a c n _ v b d w HG h1 (beq_eq_false_iff_ne.2 hc)
    rw [if_neg f0]
    by_cases f2 : f = 2
    · subst f2
      rw [if_pos rfl]
      refine need_two o a c n _ v b d _ w HG h1 (fun W => ?_)
      have hI := am_any o a (gp a c n b d) n v b W
      have e : decide (gpE a o n = 0 ∧ gpV a o n b v < gp a c n b d) = decide (gpE a o n = 0 ∧ gp a o n b v < gp a c n b d) := by
        by_cases k : gpE a o n = 0
        · rw [gpV_ok b v k]
        · rw [decide_eq_false (fun h => k h.1), decide_eq_false (fun h => k h.1)]
      rwa [e] at hI
    · rw [if_neg f2]
      exact need_none o f a c n _ v b d w HG h1 (beq_eq_false_iff_ne.2 f0) (beq_eq_false_iff_ne.2 f2)
  · rw [if_pos (Or.inl h0)]
    exact need_bad o f a c n _ _ v b d w HG (by simpa using h0)
end Go.Proofs.Ytoblemgeacllkaa.Sp
