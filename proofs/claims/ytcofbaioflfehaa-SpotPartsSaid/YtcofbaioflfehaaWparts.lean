/-
  For every input the law SpotParts returns true, and its arguments read afterwards as before; no condition beyond the form's own reach.
-/
import Derived.Test.YtcofbaioflfehaaWparts0
namespace Go.Proofs.Ytcofbaioflfehaa
open Go.Joins Go.ChangeShapes Go.WideShapes Go.ChangeAt Go.RowKit Go.Deep
open Go.ChangeMaps (open_string)

theorem next_at {a n k : Int} {b : Bool} {A : Int} {B : Bool} (h : nxE a n k = 0) (hA : nxA a n k = A) (hB : nxB a n k b = B) (W : World) :
    Calls Try.prog 10 #[.agg #[.int .i64 a, .bool b], .int .i64 k, .int .i64 n] W fun e w' => e = .returned (.tuple #[.agg #[.int .i64 A, .bool B], .int .i64 0]) ∧ Below W.heap.size W w' := by
  have H := next_any a n k b W
  rw [h, hA, hB] at H
  exact H
theorem need_at' {p f a c n : Int} {u b d Q : Bool} (h : needV p u f a b c d n = Q) (W : World) :
    Calls Try.prog 21 #[.agg #[.int .i64 p, .bool u, .int .i64 f], .agg #[.int .i64 a, .bool b], .agg #[.int .i64 c, .bool d], .int .i64 n] W fun e w' => e = .returned (.bool Q) ∧ Below W.heap.size W w' := by
  have H := need_any p f a c n u b d W
  rw [h] at H
  exact H
theorem nx_both {a n k : Int} (b : Bool) (h : nxE a n k = 0) : (a + k < n ∧ nxA a n k = a + k ∧ nxB a n k b = b) ∨ (n ≤ a + k ∧ nxA a n k = a + k - n ∧ nxB a n k b = !b) := by
  by_cases q : a + k < n
  · exact Or.inl ⟨q, nx_low b h q⟩
  · exact Or.inr ⟨by omega, nx_high b h q⟩
theorem gp_add {a n m j y z : Int} {b g t : Bool} (f1 : nxE a n m = 0) (f2 : nxE y n j = 0) (hy : nxA a n m = y) (hg : nxB a n m b = g) (hz : nxA y n j = z) (ht : nxB y n j g = t) (h : m + j ≤ n) : gp a z n b t = m + j := by
  obtain ⟨n1, n2, a0, a1, m0, m1⟩ := nxE_zero f1
  obtain ⟨_, _, y0, y1, j0, j1⟩ := nxE_zero f2
  have r1 := nx_both b f1
  have r2 := nx_both g f2
  rw [hy, hg] at r1
  rw [hz, ht] at r2
  unfold gp
  rcases r1 with ⟨p1, p2, p3⟩ | ⟨p1, p2, p3⟩ <;> rcases r2 with ⟨q1, q2, q3⟩ | ⟨q1, q2, q3⟩ <;> rw [q3, p3] <;> clear q3 p3 ht hg <;> cases b <;> simp <;> (repeat' split) <;> omega
theorem gp_parts {a n m j y p : Int} {b g u : Bool} (f1 : nxE a n m = 0) (hy : nxA a n m = y) (hg : nxB a n m b = g) (j0 : 0 ≤ j) (h : m + j ≤ n) (p0 : 0 ≤ p) (p1 : p < n) :
    decide (gp a p n b u < m + j) = (decide (gp a p n b u < m) || decide (gp y p n g u < j)) := by
  have _ := h; have _ := p0
  obtain ⟨n1, n2, a0, a1, m0, m1⟩ := nxE_zero f1
  have r1 := nx_both b f1
  rw [hy, hg] at r1
  have e : gp a p n b u < m + j ↔ (gp a p n b u < m ∨ gp y p n g u < j) := by
    unfold gp
    rcases r1 with ⟨q1, q2, q3⟩ | ⟨q1, q2, q3⟩ <;> rw [q3] <;> clear q3 hg <;> cases b <;> cases u <;> simp <;> (repeat' split) <;> omega
  rw [← Bool.decide_or]
  exact decide_eq_decide.2 e
theorem needV_in {p f a c n G : Int} {u b d : Bool} (n1 : 1 ≤ n) (n2 : n ≤ 32768) (a0 : 0 ≤ a) (a1 : a < n) (c0 : 0 ≤ c) (c1 : c < n) (p0 : 0 ≤ p) (p1 : p < n) (hG : gp a c n b d = G) (h : G ≤ n) :
    needV p u f a b c d n = if f = 0 then decide (0 < G) else if f = 2 then decide (gp a p n b u < G) else false := by
  have e1 := gpE_in n1 n2 a0 a1 c0 c1
  have e2 := gpE_in n1 n2 a0 a1 p0 p1
  rw [needV, hG, if_neg (by omega), e2]
  simp
theorem spotParts_any (o : Int) (u : Bool) (f a : Int) (b : Bool) (c : Int) (d : Bool) (k n : Int) (w : World) :
    Calls Try.prog 7 #[.agg #[.int .i64 o, .bool u, .int .i64 f, .int .i64 a, .bool b, .int .i64 c, .bool d, .int .i64 k, .int .i64 n]] w fun e w' => e = .returned (.bool true) ∧ Below w.heap.size w w' := by
  obtain ⟨M, hM, eM⟩ := low15 n
  obtain ⟨A, hA, eA⟩ := low15 a
  obtain ⟨K, hK, eK⟩ := low16 k
  obtain ⟨D, hD, eD⟩ := low16 c
  obtain ⟨O, hO, eO⟩ := low15 o
  have n1 : 1 ≤ 1 + (M : Int) := by omega
  have n2 : 1 + (M : Int) ≤ 32768 := by omega
  obtain ⟨x, hx, x0, x1⟩ := pos_in A (1 + (M : Int)) n1
  obtain ⟨p, hp, p0, p1⟩ := pos_in O (1 + (M : Int)) n1
  obtain ⟨m, hm, m0, m1⟩ := pos_in K (1 + (M : Int) + 1) (by omega)
  obtain ⟨j, hj, j0, j1⟩ := pos_in D (1 + (M : Int) - m + 1) (by omega)
  have m2 : m ≤ 1 + (M : Int) := by omega
  generalize hN : 1 + (M : Int) = N at *
  have f1 : nxE x N m = 0 := nxE_in n1 n2 x0 x1 m0 m2
  obtain ⟨g1, y0, y1⟩ := gp_next b f1
  generalize hy : nxA x N m = y at *
  generalize hg : nxB x N m b = g at *
  have f2 : nxE y N j = 0 := nxE_in n1 n2 y0 y1 j0 (by omega)
  obtain ⟨g2, z0, z1⟩ := gp_next g f2
  generalize hz : nxA y N j = z at *
  generalize ht : nxB y N j g = t at *
  have g3 : gp x z N b t = m + j := gp_add f1 f2 hy hg hz ht (by omega)
  have v1 := needV_in (f := f) (u := u) n1 n2 x0 x1 z0 z1 p0 p1 g3 (by omega)
  have v2 := needV_in (f := f) (u := u) n1 n2 x0 x1 y0 y1 p0 p1 g1 m2
  have v3 := needV_in (f := f) (u := u) n1 n2 y0 y1 z0 z1 p0 p1 g2 (by omega)
  have v4 := needV_in (f := f) (u := u) n1 n2 x0 x1 x0 x1 p0 p1 (gp_same x N b) (by omega)
  have q4 : needV p u f x b x b N = false := by
    rw [v4]
    have := gp_low (b := b) (d := u) x0 x1 p0 p1
    rw [decide_eq_false (by omega), decide_eq_false (by omega)]
    split
    · rfl
    · split <;> rfl
  have q1 : needV p u f x b z t N = (needV p u f x b y g N || needV p u f y g z t N) := by
    rw [v1, v2, v3]
    by_cases h0 : f = 0
    · rw [if_pos h0, if_pos h0, if_pos h0, ← Bool.decide_or]
      exact decide_eq_decide.2 ⟨fun _ => by omega, fun _ => by omega⟩
    · rw [if_neg h0, if_neg h0, if_neg h0]
      by_cases h2 : f = 2
      · rw [if_pos h2, if_pos h2, if_pos h2]
        exact gp_parts f1 hy hg j0 (by omega) p0 p1
      · rw [if_neg h2, if_neg h2, if_neg h2]; rfl
  by_cases h : needV p u f x b y g N = true
  · rw [h, Bool.true_or] at q1
    exact spotParts_one o u f a b c d k n M N (N + 1) (N - m + 1) O A K D x y z m j p g t w eM (by omega) (by omega) hN (by omega) rfl (by omega) eA eK eD eO hx hm m0 m2 rfl (by omega) hj hp
      (next_at f1 hy hg) (next_at f2 hz ht) (need_at' q1) (need_at' h) (need_at' q4) fixed_any
  · have h' : needV p u f x b y g N = false := by simpa using h
    rw [h', Bool.false_or] at q1
    exact spotParts_no o u f a b c d k n M N (N + 1) (N - m + 1) O A K D x y z m j p g t _ w eM (by omega) (by omega) hN (by omega) rfl (by omega) eA eK eD eO hx hm m0 m2 rfl (by omega) hj hp
      (next_at f1 hy hg) (next_at f2 hz ht) (need_at' q1) (need_at' h') (need_at' rfl) (need_at' q4) fixed_any

set_option maxRecDepth 100000 in
theorem spotParts_lifted (os : Os) (started : os.Started) (H : Type) (enc : TypeId × Value → H) :
    ReturnsInHanded {} Try.checked os 7 .any (Rows.spotPartsSpec.pre6 enc Try.prog Try.f7 Rows.spotPartsRow.domain false) (Rows.spotPartsSpec.post enc Try.prog Try.f7 false true false false) := by
  have e : Try.f7.params.toList = [27] := by rw [Try.params7]
  refine law_of_walk (C := Try.checked) (tb := 4) H enc Try.own started (by kernel_rfl) Try.func7 Try.laidOut rfl rfl Try.underlying4 ?_ ?_
    (ChangeSpec.witness6 (enc := enc) (C := Try.checked) false ⟨#[], #[.agg #[.int .i64 0, .bool false, .int .i64 0, .int .i64 0, .bool false, .int .i64 0, .bool false, .int .i64 0, .int .i64 0]], []⟩ 8 (by kernel_rfl) (by kernel_rfl) (by kernel_rfl) (by kernel_rfl)) ?_
  · rw [e]
    intro t ht
    simp only [List.mem_cons, List.not_mem_nil, or_false] at ht
    rcases ht with rfl <;> exact ⟨by kernel_rfl, of_decide_eq_true (by kernel_rfl)⟩
  · intro ds hds
    rw [e] at hds
    match ds, hds with
    | [d0], _ => rfl
  · intro W base args ds p hval0 hA0 hsz0
    have hval : ∀ (j : Nat) t v, Try.f7.params[j]? = some t → args[j]? = some v → Value.okWide Try.prog W .any base t v := hval0
    have hA : DataW.TrodAll enc Try.prog W 0 (fun _ => true) true Try.f7.params.toList args.toList ds p := hA0
    have hsz : (DataW.weightsEach Try.prog Try.f7.params.toList ds).all (· ≤ reachBytes) = true := hsz0
    rw [Try.params7] at hA hval hsz
    obtain ⟨v0, d0, rfl, rfl, h0⟩ := trodAll_one hA
    obtain ⟨O0, U0, F0, A0, B0, C0, E0, K0, N0, rfl, bo0, bf0, ba0, bc0, bk0, bn0⟩ := open_walk (hval 0 27 v0 rfl rfl) h0
    exact spotParts_any O0 U0 F0 A0 B0 C0 E0 K0 N0 W

theorem spotParts_holds : Rows.SpotPartsSaid :=
  OpenClaim.holds_of_wide 7 Try.f7 rfl rfl rfl rfl rfl rfl rfl ⟨rfl, rfl, rfl, rfl, rfl⟩ rfl rfl rfl rfl rfl (by kernel_rfl) Try.func7 (by kernel_rfl)
    (of_decide_eq_true (by kernel_rfl)) (by unfold Func.isWrapper; first | (rw [if_pos (by decide +kernel)]; kernel_rfl) | (rw [if_neg (by decide +kernel)]; exact ⟨rfl, rfl⟩))
    (fun os started H enc _ => spotParts_lifted os started H enc)
end Go.Proofs.Ytcofbaioflfehaa
