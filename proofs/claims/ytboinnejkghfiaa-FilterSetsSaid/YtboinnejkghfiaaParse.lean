/-
  What the code's Parse answers, for every string: the frame, or why there is none.
-/
import Derived.Test.YtboinnejkghfiaaForm
import Derived.Deep.RegionHeld3
namespace Go.Proofs.Ytboinnejkghfiaa
open Go.RowKit

theorem bcell {W w1 : World} (hb : Below W.heap.size W w1) : (∀ b o, b < W.heap.size → w1.cell? ⟨b, o, none⟩ = W.cell? ⟨b, o, none⟩) ∧ (∀ b o, b < W.heap.size → w1.frozen? ⟨b, o, none⟩ = W.frozen? ⟨b, o, none⟩) :=
  ⟨fun b o h => hb.cell (p := ⟨b, o, none⟩) h, fun b o h => hb.frozen (p := ⟨b, o, none⟩) h⟩
theorem isFrame_yes (d r : ByteArray) (v p t : Int) (b : ByteArray) (w : World) (h1 : d.size = 6) (h2 : r.size = 6) (h3 : tagB v p = true) (k : Bool) (h4 : kindB t = k) :
    Calls Try.prog 39 #[.agg #[.string d, .string r, .int .i64 v, .int .i64 p, .int .i64 t, .string b]] w fun e w' => e = .returned (.bool k) ∧ Below w.heap.size w w' := by
  have T := fun W => isTag_any v p W
  rw [h3] at T
  have HT := Lib.hid T
  have K := fun W => isType_any t W
  rw [h4] at K
  have HK := Lib.hid K
  have e1 : ((d.size : Int) == 6) = true := by rw [h1]; rfl
  have e2 : ((r.size : Int) == 6) = true := by rw [h2]; rfl
  clear T K h1 h2 h3 h4
  go_enter Try.func39, Try.ntmps39
  go_wp2_with (first
    | (go_at_call 53; (with_reducible refine (HT.out _).mono ?_); rintro e w' ⟨rfl, rfl⟩)
    | (go_at_call 54; (with_reducible refine (HK.out _).mono ?_); rintro e w' ⟨rfl, rfl⟩))
  go_ret
  exact ⟨rfl, (Below.refl _ _).alloc (Nat.le_refl _) _⟩
theorem isFrame_tag (d r : ByteArray) (v p t : Int) (b : ByteArray) (w : World) (h1 : d.size = 6) (h2 : r.size = 6) (h3 : tagB v p = false) :
    Calls Try.prog 39 #[.agg #[.string d, .string r, .int .i64 v, .int .i64 p, .int .i64 t, .string b]] w fun e w' => e = .returned (.bool false) ∧ Below w.heap.size w w' := by
  have T := fun W => isTag_any v p W
  rw [h3] at T
  have HT := Lib.hid T
  have e1 : ((d.size : Int) == 6) = true := by rw [h1]; rfl
  have e2 : ((r.size : Int) == 6) = true := by rw [h2]; rfl
  clear T h1 h2 h3
  go_enter Try.func39, Try.ntmps39
  go_wp2_with (first
    | (go_at_call 53; (with_reducible refine (HT.out _).mono ?_); rintro e w' ⟨rfl, rfl⟩))
  go_ret
  exact ⟨rfl, (Below.refl _ _).alloc (Nat.le_refl _) _⟩
theorem isFrame_src (d r : ByteArray) (v p t : Int) (b : ByteArray) (w : World) (h1 : d.size = 6) (h2 : r.size ≠ 6) :
    Calls Try.prog 39 #[.agg #[.string d, .string r, .int .i64 v, .int .i64 p, .int .i64 t, .string b]] w fun e w' => e = .returned (.bool false) ∧ Below w.heap.size w w' := by
  have e1 : ((d.size : Int) == 6) = true := by rw [h1]; rfl
  have e2 : ((r.size : Int) == 6) = false := by simpa using (by omega : (r.size : Int) ≠ 6)
  clear h1 h2
  go_enter Try.func39, Try.ntmps39
  go_wp2_with fail
  go_ret
  exact ⟨rfl, (Below.refl _ _).alloc (Nat.le_refl _) _⟩
theorem isFrame_dst (d r : ByteArray) (v p t : Int) (b : ByteArray) (w : World) (h1 : d.size ≠ 6) :
    Calls Try.prog 39 #[.agg #[.string d, .string r, .int .i64 v, .int .i64 p, .int .i64 t, .string b]] w fun e w' => e = .returned (.bool false) ∧ Below w.heap.size w w' := by
  have e1 : ((d.size : Int) == 6) = false := by simpa using (by omega : (d.size : Int) ≠ 6)
  clear h1
  go_enter Try.func39, Try.ntmps39
  go_wp2_with fail
  go_ret
  exact ⟨rfl, (Below.refl _ _).alloc (Nat.le_refl _) _⟩
theorem isFrame_any (f : Fr) (w : World) :
    Calls Try.prog 39 #[.agg #[.string f.d, .string f.r, .int .i64 f.v, .int .i64 f.p, .int .i64 f.t, .string f.b]] w fun e w' => e = .returned (.bool (frameB f)) ∧ Below w.heap.size w w' := by
  unfold frameB
  by_cases h1 : f.d.size = 6
  · by_cases h2 : f.r.size = 6
    · cases h3 : tagB f.v f.p
      · simp only [h1, h2, Bool.false_eq_true, true_and, false_and, decide_false]
        exact isFrame_tag _ _ _ _ _ _ w h1 h2 h3
      · simp only [h1, h2, true_and, Bool.decide_eq_true]
        exact isFrame_yes _ _ _ _ _ _ w h1 h2 h3 _ rfl
    · simp only [h1, h2, true_and, false_and, decide_false]
      exact isFrame_src _ _ _ _ _ _ w h1 h2
  · simp only [h1, false_and, decide_false]
    exact isFrame_dst _ _ _ _ _ _ w h1

def parseE (s : ByteArray) : Int := if 1518 < s.size then 61 else if readE s = 0 then (if frameB (readF s) then 0 else 61) else 60
def parseF (s : ByteArray) : Fr := if parseE s = 0 then readF s else .zero
theorem readE_cases (s : ByteArray) : readE s = 0 ∨ readE s = 60 := by unfold readE; split <;> simp
theorem parse_results (w : World) (tmps : Array Value) (gf : Nat) {n : Int} (h2 : tmps[2]?.getD undef = .pointer (some ⟨gf, 0, none⟩)) (h3 : tmps[3]?.getD undef = .int .i64 n) {d r : ByteArray} {v p t : Int} {b : ByteArray}
    (hF : Blk w gf 49 (ethC d r v p t b)) : (results Try.f27 tmps).run Try.prog w = .ok (.tuple #[.agg (ethC d r v p t b), .int .i64 n]) w := by
  have c0 := hF.cell 0
  have c1 := hF.cell 1
  have c2 := hF.cell 2
  have c3 := hF.cell 3
  have c4 := hF.cell 4
  have c5 := hF.cell 5
  simp only [ethC] at c0 c1 c2 c3 c4 c5
  simp [results, Try.results27, go_sem, h2, h3, c0, c1, c2, c3, c4, c5, ethC]
theorem parse_long (s : ByteArray) (w : World) (h : 1518 < s.size) :
    Calls Try.prog 27 #[.string s] w fun e w' => e = .returned (.tuple #[.agg (ethC ⟨#[]⟩ ⟨#[]⟩ 0 0 0 ⟨#[]⟩), .int .i64 61]) ∧ Below w.heap.size w w' := by
  go_enter Try.func27, Try.ntmps27
  go_wp2
  exact bodyPost_ret (v := .tuple #[.agg (ethC ⟨#[]⟩ ⟨#[]⟩ 0 0 0 ⟨#[]⟩), .int .i64 61]) (by simp [results, Try.results27, go_sem, ethC]) rfl ⟨rfl, (Below.refl _ _).alloc (Nat.le_refl _) _⟩
theorem parse_short (s : ByteArray) (w : World) (h : s.size ≤ 1518) (h1 : readE s = 60) :
    Calls Try.prog 27 #[.string s] w fun e w' => e = .returned (.tuple #[.agg (ethC ⟨#[]⟩ ⟨#[]⟩ 0 0 0 ⟨#[]⟩), .int .i64 60]) ∧ Below w.heap.size w w' := by
  have R := read_any s
  rw [h1] at R
  generalize readF s = F at R
  obtain ⟨d, r, v, p, t, b⟩ := F
  simp only [Fr.val, ethC] at R
  have HR := Lib.hid R
  clear R h1
  go_enter Try.func27, Try.ntmps27
  go_wp2_with fail
  refine (HR.out _).mono ?_
  rintro e w1 ⟨rfl, hb⟩
  have A := (Blk.new w 49 (ethC ⟨#[]⟩ ⟨#[]⟩ 0 0 0 ⟨#[]⟩)).same (hb.block _ (by simp))
  obtain ⟨a0, a1, a2, a3, a4, a5⟩ : w1.cell? ⟨w.heap.size, 0, none⟩ = some (.string ⟨#[]⟩) ∧ w1.cell? ⟨w.heap.size, 1, none⟩ = some (.string ⟨#[]⟩) ∧ w1.cell? ⟨w.heap.size, 2, none⟩ = some (.int .i64 0) ∧ w1.cell? ⟨w.heap.size, 3, none⟩ = some (.int .i64 0) ∧ w1.cell? ⟨w.heap.size, 4, none⟩ = some (.int .i64 0) ∧ w1.cell? ⟨w.heap.size, 5, none⟩ = some (.string ⟨#[]⟩) :=
    ⟨A.cell 0, A.cell 1, A.cell 2, A.cell 3, A.cell 4, A.cell 5⟩
  have fa := A.frozen
  have hz := A.lt
  have hB : Below w.heap.size w w1 := ((Below.refl _ _).alloc (Nat.le_refl _) _).trans (hb.mono (by simp))
  have hne : w.heap.size ≠ w1.heap.size := by omega
  have HA0 := Lib.hid A
  clear A hb
  go_wp2_with fail
  refine bodyPost_ret (v := .tuple #[.agg (ethC ⟨#[]⟩ ⟨#[]⟩ 0 0 0 ⟨#[]⟩), .int .i64 60]) (by simp [results, Try.results27, go_sem, ethC, a0, a1, a2, a3, a4, a5, hz]) rfl ⟨rfl, ?_⟩
  (with_reducible (repeat' (first | exact hB | exact Below.refl _ _ | refine below_drewN ?_ _ | refine Below.drew ?_ | refine Below.alloc ?_ (by first | (simp; done) | (simp; omega) | omega) _ | refine Below.setCell ?_ (by first | (simp; done) | (simp; omega) | omega) _)))
theorem parse_true (s : ByteArray) (w : World) (h : s.size ≤ 1518) (h1 : readE s = 0) (h2 : frameB (readF s) = true) :
    Calls Try.prog 27 #[.string s] w fun e w' => e = .returned (.tuple #[(readF s).val, .int .i64 0]) ∧ Below w.heap.size w w' := by
  have R := read_any s
  rw [h1] at R
  generalize readF s = F at *
  have I := isFrame_any F
  rw [h2] at I
  obtain ⟨d, r, v, p, t, b⟩ := F
  simp only [Fr.val, ethC] at R I
  have HR := Lib.hid R
  have HI := Lib.hid I
  clear R I h1 h2
  go_enter Try.func27, Try.ntmps27
  go_wp2_with fail
  refine (HR.out _).mono ?_
  rintro e w1 ⟨rfl, hb⟩
  have A := (Blk.new w 49 (ethC ⟨#[]⟩ ⟨#[]⟩ 0 0 0 ⟨#[]⟩)).same (hb.block _ (by simp))
  obtain ⟨a0, a1, a2, a3, a4, a5⟩ : w1.cell? ⟨w.heap.size, 0, none⟩ = some (.string ⟨#[]⟩) ∧ w1.cell? ⟨w.heap.size, 1, none⟩ = some (.string ⟨#[]⟩) ∧ w1.cell? ⟨w.heap.size, 2, none⟩ = some (.int .i64 0) ∧ w1.cell? ⟨w.heap.size, 3, none⟩ = some (.int .i64 0) ∧ w1.cell? ⟨w.heap.size, 4, none⟩ = some (.int .i64 0) ∧ w1.cell? ⟨w.heap.size, 5, none⟩ = some (.string ⟨#[]⟩) :=
    ⟨A.cell 0, A.cell 1, A.cell 2, A.cell 3, A.cell 4, A.cell 5⟩
  have fa := A.frozen
  have hz := A.lt
  have hB : Below w.heap.size w w1 := ((Below.refl _ _).alloc (Nat.le_refl _) _).trans (hb.mono (by simp))
  have hne : w.heap.size ≠ w1.heap.size := by omega
  have HA0 := Lib.hid A
  clear A hb
  go_wp2_with fail
  refine (HI.out _).mono ?_
  rintro e w2 ⟨rfl, hb2⟩
  obtain ⟨g1, g2⟩ := bcell hb2
  have hz2 : w1.heap.size < w2.heap.size := by have := hb2.size; simp at this; omega
  have hB2 : Below w.heap.size w w2 := (hB.alloc (by omega) _).trans (hb2.mono (by simp; omega))
  have HA := Lib.hid ((HA0.out.alloc (.cells #[.string d, .string r, .int .i64 v, .int .i64 p, .int .i64 t, .string b] 49)).same (hb2.block _ (by simp; omega)))
  clear hb2
  go_wp2_with fail
  refine bodyPost_ret (v := .tuple #[.agg (ethC d r v p t b), .int .i64 0]) ?_ rfl ⟨rfl, ?_⟩
  · exact parse_results _ _ _ rfl rfl ((((((HA.out.put 0 (.string d)).put 1 (.string r)).put 2 (.int .i64 v)).put 3 (.int .i64 p)).put 4 (.int .i64 t)).put 5 (.string b))
  · (with_reducible (repeat' (first | exact hB2 | exact Below.refl _ _ | refine below_drewN ?_ _ | refine Below.drew ?_ | refine Below.alloc ?_ (by first | (simp; done) | (simp; omega) | omega) _ | refine Below.setCell ?_ (by first | (simp; done) | (simp; omega) | omega) _)))
theorem parse_false (s : ByteArray) (w : World) (h : s.size ≤ 1518) (h1 : readE s = 0) (h2 : frameB (readF s) = false) :
    Calls Try.prog 27 #[.string s] w fun e w' => e = .returned (.tuple #[.agg (ethC ⟨#[]⟩ ⟨#[]⟩ 0 0 0 ⟨#[]⟩), .int .i64 61]) ∧ Below w.heap.size w w' := by
  have R := read_any s
  rw [h1] at R
  generalize readF s = F at *
  have I := isFrame_any F
  rw [h2] at I
  obtain ⟨d, r, v, p, t, b⟩ := F
  simp only [Fr.val, ethC] at R I
  have HR := Lib.hid R
  have HI := Lib.hid I
  clear R I h1 h2
  go_enter Try.func27, Try.ntmps27
  go_wp2_with fail
  refine (HR.out _).mono ?_
  rintro e w1 ⟨rfl, hb⟩
  have A := (Blk.new w 49 (ethC ⟨#[]⟩ ⟨#[]⟩ 0 0 0 ⟨#[]⟩)).same (hb.block _ (by simp))
  obtain ⟨a0, a1, a2, a3, a4, a5⟩ : w1.cell? ⟨w.heap.size, 0, none⟩ = some (.string ⟨#[]⟩) ∧ w1.cell? ⟨w.heap.size, 1, none⟩ = some (.string ⟨#[]⟩) ∧ w1.cell? ⟨w.heap.size, 2, none⟩ = some (.int .i64 0) ∧ w1.cell? ⟨w.heap.size, 3, none⟩ = some (.int .i64 0) ∧ w1.cell? ⟨w.heap.size, 4, none⟩ = some (.int .i64 0) ∧ w1.cell? ⟨w.heap.size, 5, none⟩ = some (.string ⟨#[]⟩) :=
    ⟨A.cell 0, A.cell 1, A.cell 2, A.cell 3, A.cell 4, A.cell 5⟩
  have fa := A.frozen
  have hz := A.lt
  have hB : Below w.heap.size w w1 := ((Below.refl _ _).alloc (Nat.le_refl _) _).trans (hb.mono (by simp))
  have hne : w.heap.size ≠ w1.heap.size := by omega
  have HA0 := Lib.hid A
  clear A hb
  go_wp2_with fail
  refine (HI.out _).mono ?_
  rintro e w2 ⟨rfl, hb2⟩
  obtain ⟨g1, g2⟩ := bcell hb2
  have hz2 : w1.heap.size < w2.heap.size := by have := hb2.size; simp at this; omega
  have hB2 : Below w.heap.size w w2 := (hB.alloc (by omega) _).trans (hb2.mono (by simp; omega))
  have HA := Lib.hid ((HA0.out.alloc (.cells #[.string d, .string r, .int .i64 v, .int .i64 p, .int .i64 t, .string b] 49)).same (hb2.block _ (by simp; omega)))
  clear hb2
  go_wp2_with fail
  refine bodyPost_ret (v := .tuple #[.agg (ethC ⟨#[]⟩ ⟨#[]⟩ 0 0 0 ⟨#[]⟩), .int .i64 61]) ?_ rfl ⟨rfl, ?_⟩
  · exact parse_results _ _ _ rfl rfl ((((((HA.out.put 0 (.string ⟨#[]⟩)).put 1 (.string ⟨#[]⟩)).put 2 (.int .i64 0)).put 3 (.int .i64 0)).put 4 (.int .i64 0)).put 5 (.string ⟨#[]⟩))
  · (with_reducible (repeat' (first | exact hB2 | exact Below.refl _ _ | refine below_drewN ?_ _ | refine Below.drew ?_ | refine Below.alloc ?_ (by first | (simp; done) | (simp; omega) | omega) _ | refine Below.setCell ?_ (by first | (simp; done) | (simp; omega) | omega) _)))
theorem parse_any (s : ByteArray) (w : World) :
    Calls Try.prog 27 #[.string s] w fun e w' => e = .returned (.tuple #[(parseF s).val, .int .i64 (parseE s)]) ∧ Below w.heap.size w w' := by
  by_cases h1 : 1518 < s.size
  · have e1 : parseE s = 61 := by rw [parseE, if_pos h1]
    have e2 : parseF s = .zero := by rw [parseF, e1, if_neg (by decide)]
    rw [e1, e2]
    exact parse_long s w h1
  · rcases readE_cases s with h2 | h2
    · cases h3 : frameB (readF s)
      · have e1 : parseE s = 61 := by rw [parseE, if_neg h1, if_pos h2, h3]; rfl
        have e2 : parseF s = .zero := by rw [parseF, e1, if_neg (by decide)]
        rw [e1, e2]
        exact parse_false s w (by omega) h2 h3
      · have e1 : parseE s = 0 := by rw [parseE, if_neg h1, if_pos h2, h3]; rfl
        have e2 : parseF s = readF s := by rw [parseF, e1, if_pos rfl]
        rw [e1, e2]
        exact parse_true s w (by omega) h2 h3
    · have e1 : parseE s = 60 := by rw [parseE, if_neg h1, h2, if_neg (by decide)]
      have e2 : parseF s = .zero := by rw [parseF, e1, if_neg (by decide)]
      rw [e1, e2]
      exact parse_short s w (by omega) h2
end Go.Proofs.Ytboinnejkghfiaa
