/-
  Walks of the law EthBack; no condition.
-/
import Derived.Test.YtdfllobhcfajjaaFixed
import Derived.Test.YtdfllobhcfajjaaBack
namespace Go.Proofs.Ytdfllobhcfajjaa
open Go.RowKit

set_option maxRecDepth 100000 in
set_option maxHeartbeats 3200000 in
theorem back_bad_no (f : Fr) (g : Fr) (s : ByteArray) (w : World) (hf : f.b.size ≤ 140737488351232) (hg : g.b.size ≤ 140737488351232) (h1 : (buildE f != 0) = true) (h3 : (parseE s != 0) = true) :
    Calls Try.prog 6 #[.agg #[.string f.d, .string f.r, .int .i64 f.v, .int .i64 f.p, .int .i64 f.t, .string f.b], .agg #[.string g.d, .string g.r, .int .i64 g.v, .int .i64 g.p, .int .i64 g.t, .string g.b], .string s] w fun e w' => e = .returned (.bool true) ∧ Below w.heap.size w w' := by
  have B1 := fun W => build_any f W hf
  have B2 := fun W => build_any g W hg
  have P2 := parse_any s
  have e3 : parseF s = .zero := if_neg (by simpa using h3)
  rw [e3] at P2
  generalize buildE f = E1 at *
  generalize buildE g = E2 at *
  generalize buildS f = S1 at *
  generalize buildS g = S2 at *
  generalize parseE s = E3 at *
  obtain ⟨d1, r1, v1, p1, t1, b1⟩ := f
  obtain ⟨d2, r2, v2, p2, t2, b2⟩ := g
  simp only [Fr.val, ethC, Fr.zero] at *
  have HB1 := Lib.hid B1
  have HB2 := Lib.hid B2
  have HP2 := Lib.hid P2
  clear B1 P2 B2 e3
  have HF := Lib.hid ((Hold.new (Below.refl w.heap.size w) #[.string d1, .string r1, .int .i64 v1, .int .i64 p1, .int .i64 t1, .string b1]).alloc (.cells #[.string d2, .string r2, .int .i64 v2, .int .i64 p2, .int .i64 t2, .string b2] 23))
  have HG : Hid (Hold w (w.heap.size + 1) #[.string d2, .string r2, .int .i64 v2, .int .i64 p2, .int .i64 t2, .string b2] ((w.alloc (.cells #[.string d1, .string r1, .int .i64 v1, .int .i64 p1, .int .i64 t1, .string b1] 23)).alloc (.cells #[.string d2, .string r2, .int .i64 v2, .int .i64 p2, .int .i64 t2, .string b2] 23))) := Lib.hid (by simpa using Hold.new ((Below.refl w.heap.size w).alloc (Nat.le_refl _) (.cells #[.string d1, .string r1, .int .i64 v1, .int .i64 p1, .int .i64 t1, .string b1] 23)) #[.string d2, .string r2, .int .i64 v2, .int .i64 p2, .int .i64 t2, .string b2])
  go_enter Try.func6, Try.ntmps6
  go_wp2_with fail
  refine (HB1.out _).mono ?_
  rintro e w1 ⟨rfl, hq⟩
  have HF1 := Lib.hid (HF.out.next hq)
  have HG1 := Lib.hid (HG.out.next hq)
  clear hq HF HG
  obtain ⟨c0, c1, c2, c3, c4, c5, c6⟩ := HG1.out.cells
  go_wp2_with fail
  refine (HB2.out _).mono ?_
  rintro e w2 ⟨rfl, hq⟩
  have HF2 := Lib.hid (HF1.out.next hq)
  have HG2 := Lib.hid (HG1.out.next hq)
  clear hq HF1 HG1 c0 c1 c2 c3 c4 c5 c6
  go_wp2_with fail
  refine (HP2.out _).mono ?_
  rintro e w4 ⟨rfl, hq⟩
  have HB := Lib.hid (HF2.out.next hq).below
  clear hq HF2 HG2
  have HX := Lib.hid (Hold.new HB.out #[.string ⟨#[]⟩, .string ⟨#[]⟩, .int .i64 0, .int .i64 0, .int .i64 0, .string ⟨#[]⟩])
  clear HB
  go_wp2_with fail
  refine (fixed_any _).mono ?_
  rintro e w5 ⟨rfl, hq⟩
  have HE := Lib.hid (HX.out.next hq).below
  clear hq HX
  go_wp2_with fail
  go_ret
  exact ⟨rfl, HE.out⟩
set_option maxRecDepth 100000 in
set_option maxHeartbeats 3200000 in
theorem back_other_no (f : Fr) (g : Fr) (s : ByteArray) (w : World) (hf : f.b.size ≤ 140737488351232) (hg : g.b.size ≤ 140737488351232) (h1 : buildE f = 0) (h2b : (buildE g == 0) = false) (h3 : (parseE s != 0) = true) :
    Calls Try.prog 6 #[.agg #[.string f.d, .string f.r, .int .i64 f.v, .int .i64 f.p, .int .i64 f.t, .string f.b], .agg #[.string g.d, .string g.r, .int .i64 g.v, .int .i64 g.p, .int .i64 g.t, .string g.b], .string s] w fun e w' => e = .returned (.bool true) ∧ Below w.heap.size w w' := by
  have B1 := fun W => build_any f W hf
  have B2 := fun W => build_any g W hg
  have P1 := parse_any (buildS f)
  obtain ⟨g1, g2, g3, g4⟩ := parse_build h1
  rw [g1, g2] at P1
  rw [h1] at B1
  have P2 := parse_any s
  have e3 : parseF s = .zero := if_neg (by simpa using h3)
  rw [e3] at P2
  generalize buildE g = E2 at *
  generalize buildS f = S1 at *
  generalize buildS g = S2 at *
  generalize parseE s = E3 at *
  obtain ⟨d1, r1, v1, p1, t1, b1⟩ := f
  obtain ⟨d2, r2, v2, p2, t2, b2⟩ := g
  simp only [Fr.val, ethC, Fr.zero] at *
  have HB1 := Lib.hid B1
  have HB2 := Lib.hid B2
  have HP1 := Lib.hid P1
  have HP2 := Lib.hid P2
  clear B1 P2 B2 P1 g1 g2 g3 e3 h1
  have HF := Lib.hid ((Hold.new (Below.refl w.heap.size w) #[.string d1, .string r1, .int .i64 v1, .int .i64 p1, .int .i64 t1, .string b1]).alloc (.cells #[.string d2, .string r2, .int .i64 v2, .int .i64 p2, .int .i64 t2, .string b2] 23))
  have HG : Hid (Hold w (w.heap.size + 1) #[.string d2, .string r2, .int .i64 v2, .int .i64 p2, .int .i64 t2, .string b2] ((w.alloc (.cells #[.string d1, .string r1, .int .i64 v1, .int .i64 p1, .int .i64 t1, .string b1] 23)).alloc (.cells #[.string d2, .string r2, .int .i64 v2, .int .i64 p2, .int .i64 t2, .string b2] 23))) := Lib.hid (by simpa using Hold.new ((Below.refl w.heap.size w).alloc (Nat.le_refl _) (.cells #[.string d1, .string r1, .int .i64 v1, .int .i64 p1, .int .i64 t1, .string b1] 23)) #[.string d2, .string r2, .int .i64 v2, .int .i64 p2, .int .i64 t2, .string b2])
  go_enter Try.func6, Try.ntmps6
  go_wp2_with fail
  refine (HB1.out _).mono ?_
  rintro e w1 ⟨rfl, hq⟩
  have HF1 := Lib.hid (HF.out.next hq)
  have HG1 := Lib.hid (HG.out.next hq)
  clear hq HF HG
  obtain ⟨c0, c1, c2, c3, c4, c5, c6⟩ := HG1.out.cells
  go_wp2_with fail
  refine (HB2.out _).mono ?_
  rintro e w2 ⟨rfl, hq⟩
  have HF2 := Lib.hid (HF1.out.next hq)
  have HG2 := Lib.hid (HG1.out.next hq)
  clear hq HF1 HG1 c0 c1 c2 c3 c4 c5 c6
  go_wp2_with fail
  refine (HP1.out _).mono ?_
  rintro e w3 ⟨rfl, hq⟩
  have HF3 := Lib.hid (HF2.out.next hq)
  have HG3 := Lib.hid (HG2.out.next hq)
  clear hq HF2 HG2
  obtain ⟨c0, c1, c2, c3, c4, c5, c6⟩ := HF3.out.cells
  obtain ⟨a0, a1, a2, a3, a4, a5, a6⟩ := HG3.out.cells
  have HF4 := Lib.hid (HF3.out.alloc (.cells #[.string d1, .string r1, .int .i64 v1, .int .i64 p1, .int .i64 t1, .string b1] 23))
  clear HF3 HG3
  go_wp2_with fail
  refine (HP2.out _).mono ?_
  rintro e w4 ⟨rfl, hq⟩
  have HB := Lib.hid (HF4.out.next hq).below
  clear hq HF4 c0 c1 c2 c3 c4 c5 c6 a0 a1 a2 a3 a4 a5 a6
  have HX := Lib.hid (Hold.new HB.out #[.string ⟨#[]⟩, .string ⟨#[]⟩, .int .i64 0, .int .i64 0, .int .i64 0, .string ⟨#[]⟩])
  clear HB
  go_wp2_with fail
  refine (fixed_any _).mono ?_
  rintro e w5 ⟨rfl, hq⟩
  have HE := Lib.hid (HX.out.next hq).below
  clear hq HX
  go_wp2_with fail
  go_ret
  exact ⟨rfl, HE.out⟩
set_option maxRecDepth 100000 in
set_option maxHeartbeats 3200000 in
theorem back_same_no (f : Fr) (s : ByteArray) (w : World) (hf : f.b.size ≤ 140737488351232) (h1 : buildE f = 0) (h3 : (parseE s != 0) = true) :
    Calls Try.prog 6 #[.agg #[.string f.d, .string f.r, .int .i64 f.v, .int .i64 f.p, .int .i64 f.t, .string f.b], .agg #[.string f.d, .string f.r, .int .i64 f.v, .int .i64 f.p, .int .i64 f.t, .string f.b], .string s] w fun e w' => e = .returned (.bool true) ∧ Below w.heap.size w w' := by
  have B1 := fun W => build_any f W hf
  have P1 := parse_any (buildS f)
  obtain ⟨g1, g2, g3, g4⟩ := parse_build h1
  rw [g1, g2] at P1
  rw [h1] at B1
  have P2 := parse_any s
  have e3 : parseF s = .zero := if_neg (by simpa using h3)
  rw [e3] at P2
  generalize buildS f = S1 at *
  generalize parseE s = E3 at *
  obtain ⟨d1, r1, v1, p1, t1, b1⟩ := f
  simp only [Fr.val, ethC, Fr.zero] at *
  have HB1 := Lib.hid B1
  have HP1 := Lib.hid P1
  have HP2 := Lib.hid P2
  clear B1 P2 P1 g1 g2 g3 e3 h1
  have HF := Lib.hid ((Hold.new (Below.refl w.heap.size w) #[.string d1, .string r1, .int .i64 v1, .int .i64 p1, .int .i64 t1, .string b1]).alloc (.cells #[.string d1, .string r1, .int .i64 v1, .int .i64 p1, .int .i64 t1, .string b1] 23))
  have HG : Hid (Hold w (w.heap.size + 1) #[.string d1, .string r1, .int .i64 v1, .int .i64 p1, .int .i64 t1, .string b1] ((w.alloc (.cells #[.string d1, .string r1, .int .i64 v1, .int .i64 p1, .int .i64 t1, .string b1] 23)).alloc (.cells #[.string d1, .string r1, .int .i64 v1, .int .i64 p1, .int .i64 t1, .string b1] 23))) := Lib.hid (by simpa using Hold.new ((Below.refl w.heap.size w).alloc (Nat.le_refl _) (.cells #[.string d1, .string r1, .int .i64 v1, .int .i64 p1, .int .i64 t1, .string b1] 23)) #[.string d1, .string r1, .int .i64 v1, .int .i64 p1, .int .i64 t1, .string b1])
  go_enter Try.func6, Try.ntmps6
  go_wp2_with fail
  refine (HB1.out _).mono ?_
  rintro e w1 ⟨rfl, hq⟩
  have HF1 := Lib.hid (HF.out.next hq)
  have HG1 := Lib.hid (HG.out.next hq)
  clear hq HF HG
  obtain ⟨c0, c1, c2, c3, c4, c5, c6⟩ := HG1.out.cells
  go_wp2_with fail
  refine (HB1.out _).mono ?_
  rintro e w2 ⟨rfl, hq⟩
  have HF2 := Lib.hid (HF1.out.next hq)
  have HG2 := Lib.hid (HG1.out.next hq)
  clear hq HF1 HG1 c0 c1 c2 c3 c4 c5 c6
  go_wp2_with fail
  refine (HP1.out _).mono ?_
  rintro e w3 ⟨rfl, hq⟩
  have HF3 := Lib.hid (HF2.out.next hq)
  have HG3 := Lib.hid (HG2.out.next hq)
  clear hq HF2 HG2
  obtain ⟨c0, c1, c2, c3, c4, c5, c6⟩ := HF3.out.cells
  obtain ⟨a0, a1, a2, a3, a4, a5, a6⟩ := HG3.out.cells
  have HF4 := Lib.hid (HF3.out.alloc (.cells #[.string d1, .string r1, .int .i64 v1, .int .i64 p1, .int .i64 t1, .string b1] 23))
  clear HF3 HG3
  go_wp2_with fail
  refine (HP2.out _).mono ?_
  rintro e w4 ⟨rfl, hq⟩
  have HB := Lib.hid (HF4.out.next hq).below
  clear hq HF4 c0 c1 c2 c3 c4 c5 c6 a0 a1 a2 a3 a4 a5 a6
  have HX := Lib.hid (Hold.new HB.out #[.string ⟨#[]⟩, .string ⟨#[]⟩, .int .i64 0, .int .i64 0, .int .i64 0, .string ⟨#[]⟩])
  clear HB
  go_wp2_with fail
  refine (fixed_any _).mono ?_
  rintro e w5 ⟨rfl, hq⟩
  have HE := Lib.hid (HX.out.next hq).below
  clear hq HX
  go_wp2_with fail
  go_ret
  exact ⟨rfl, HE.out⟩
set_option maxRecDepth 100000 in
set_option maxHeartbeats 3200000 in
theorem back_two0_no (d1 r1 : ByteArray) (v1 p1 t1 : Int) (b1 : ByteArray) (d2 : ByteArray) (r2 : ByteArray) (v2 : Int) (p2 : Int) (t2 : Int) (b2 : ByteArray) (s : ByteArray) (w : World) (hf : b1.size ≤ 140737488351232) (hg : b2.size ≤ 140737488351232) (h1 : buildE ⟨d1, r1, v1, p1, t1, b1⟩ = 0) (h2 : buildE ⟨d2, r2, v2, p2, t2, b2⟩ = 0) (hne : d1 ≠ d2) (h3 : (parseE s != 0) = true) :
    Calls Try.prog 6 #[.agg #[.string d1, .string r1, .int .i64 v1, .int .i64 p1, .int .i64 t1, .string b1], .agg #[.string d2, .string r2, .int .i64 v2, .int .i64 p2, .int .i64 t2, .string b2], .string s] w fun e w' => e = .returned (.bool true) ∧ Below w.heap.size w w' := by
  have B1 := fun W => build_any ⟨d1, r1, v1, p1, t1, b1⟩ W hf
  have B2 := fun W => build_any ⟨d2, r2, v2, p2, t2, b2⟩ W hg
  have P1 := parse_any (buildS ⟨d1, r1, v1, p1, t1, b1⟩)
  obtain ⟨g1, g2, g3, g4⟩ := parse_build h1
  rw [g1, g2] at P1
  have hst : buildS ⟨d1, r1, v1, p1, t1, b1⟩ ≠ buildS ⟨d2, r2, v2, p2, t2, b2⟩ := fun e => hne (by
    have hh := (parse_build h2).2.1
    rw [← e, g2] at hh
    exact congrArg Fr.d hh)
  rw [h1] at B1
  rw [h2] at B2
  have P2 := parse_any s
  have e3 : parseF s = .zero := if_neg (by simpa using h3)
  rw [e3] at P2
  generalize buildS ⟨d1, r1, v1, p1, t1, b1⟩ = S1 at *
  generalize buildS ⟨d2, r2, v2, p2, t2, b2⟩ = S2 at *
  generalize parseE s = E3 at *
  simp only [Fr.val, ethC, Fr.zero] at *
  have HB1 := Lib.hid B1
  have HB2 := Lib.hid B2
  have HP1 := Lib.hid P1
  have HP2 := Lib.hid P2
  have hS := str_ne hst
  have hD := str_ne hne
  clear B1 B2 P1 P2 g1 g2 g3 h1 h2 hst hne e3
  have HF := Lib.hid ((Hold.new (Below.refl w.heap.size w) #[.string d1, .string r1, .int .i64 v1, .int .i64 p1, .int .i64 t1, .string b1]).alloc (.cells #[.string d2, .string r2, .int .i64 v2, .int .i64 p2, .int .i64 t2, .string b2] 23))
  have HG : Hid (Hold w (w.heap.size + 1) #[.string d2, .string r2, .int .i64 v2, .int .i64 p2, .int .i64 t2, .string b2] ((w.alloc (.cells #[.string d1, .string r1, .int .i64 v1, .int .i64 p1, .int .i64 t1, .string b1] 23)).alloc (.cells #[.string d2, .string r2, .int .i64 v2, .int .i64 p2, .int .i64 t2, .string b2] 23))) := Lib.hid (by simpa using Hold.new ((Below.refl w.heap.size w).alloc (Nat.le_refl _) (.cells #[.string d1, .string r1, .int .i64 v1, .int .i64 p1, .int .i64 t1, .string b1] 23)) #[.string d2, .string r2, .int .i64 v2, .int .i64 p2, .int .i64 t2, .string b2])
  go_enter Try.func6, Try.ntmps6
  go_wp2_with fail
  refine (HB1.out _).mono ?_
  rintro e w1 ⟨rfl, hq⟩
  have HF1 := Lib.hid (HF.out.next hq)
  have HG1 := Lib.hid (HG.out.next hq)
  clear hq HF HG
  obtain ⟨c0, c1, c2, c3, c4, c5, c6⟩ := HG1.out.cells
  go_wp2_with fail
  refine (HB2.out _).mono ?_
  rintro e w2 ⟨rfl, hq⟩
  have HF2 := Lib.hid (HF1.out.next hq)
  have HG2 := Lib.hid (HG1.out.next hq)
  clear hq HF1 HG1 c0 c1 c2 c3 c4 c5 c6
  go_wp2_with fail
  refine (HP1.out _).mono ?_
  rintro e w3 ⟨rfl, hq⟩
  have HF3 := Lib.hid (HF2.out.next hq)
  have HG3 := Lib.hid (HG2.out.next hq)
  clear hq HF2 HG2
  obtain ⟨c0, c1, c2, c3, c4, c5, c6⟩ := HF3.out.cells
  obtain ⟨a0, a1, a2, a3, a4, a5, a6⟩ := HG3.out.cells
  have HF4 := Lib.hid (HF3.out.alloc (.cells #[.string d1, .string r1, .int .i64 v1, .int .i64 p1, .int .i64 t1, .string b1] 23))
  clear HF3 HG3
  go_wp2_with fail
  refine (HP2.out _).mono ?_
  rintro e w4 ⟨rfl, hq⟩
  have HB := Lib.hid (HF4.out.next hq).below
  clear hq HF4 c0 c1 c2 c3 c4 c5 c6 a0 a1 a2 a3 a4 a5 a6
  have HX := Lib.hid (Hold.new HB.out #[.string ⟨#[]⟩, .string ⟨#[]⟩, .int .i64 0, .int .i64 0, .int .i64 0, .string ⟨#[]⟩])
  clear HB
  go_wp2_with fail
  refine (fixed_any _).mono ?_
  rintro e w5 ⟨rfl, hq⟩
  have HE := Lib.hid (HX.out.next hq).below
  clear hq HX
  go_wp2_with fail
  go_ret
  exact ⟨rfl, HE.out⟩
set_option maxRecDepth 100000 in
set_option maxHeartbeats 3200000 in
theorem back_two1_no (d1 r1 : ByteArray) (v1 p1 t1 : Int) (b1 : ByteArray) (r2 : ByteArray) (v2 : Int) (p2 : Int) (t2 : Int) (b2 : ByteArray) (s : ByteArray) (w : World) (hf : b1.size ≤ 140737488351232) (hg : b2.size ≤ 140737488351232) (h1 : buildE ⟨d1, r1, v1, p1, t1, b1⟩ = 0) (h2 : buildE ⟨d1, r2, v2, p2, t2, b2⟩ = 0) (hne : r1 ≠ r2) (h3 : (parseE s != 0) = true) :
    Calls Try.prog 6 #[.agg #[.string d1, .string r1, .int .i64 v1, .int .i64 p1, .int .i64 t1, .string b1], .agg #[.string d1, .string r2, .int .i64 v2, .int .i64 p2, .int .i64 t2, .string b2], .string s] w fun e w' => e = .returned (.bool true) ∧ Below w.heap.size w w' := by
  have B1 := fun W => build_any ⟨d1, r1, v1, p1, t1, b1⟩ W hf
  have B2 := fun W => build_any ⟨d1, r2, v2, p2, t2, b2⟩ W hg
  have P1 := parse_any (buildS ⟨d1, r1, v1, p1, t1, b1⟩)
  obtain ⟨g1, g2, g3, g4⟩ := parse_build h1
  rw [g1, g2] at P1
  have hst : buildS ⟨d1, r1, v1, p1, t1, b1⟩ ≠ buildS ⟨d1, r2, v2, p2, t2, b2⟩ := fun e => hne (by
    have hh := (parse_build h2).2.1
    rw [← e, g2] at hh
    exact congrArg Fr.r hh)
  rw [h1] at B1
  rw [h2] at B2
  have P2 := parse_any s
  have e3 : parseF s = .zero := if_neg (by simpa using h3)
  rw [e3] at P2
  generalize buildS ⟨d1, r1, v1, p1, t1, b1⟩ = S1 at *
  generalize buildS ⟨d1, r2, v2, p2, t2, b2⟩ = S2 at *
  generalize parseE s = E3 at *
  simp only [Fr.val, ethC, Fr.zero] at *
  have HB1 := Lib.hid B1
  have HB2 := Lib.hid B2
  have HP1 := Lib.hid P1
  have HP2 := Lib.hid P2
  have hS := str_ne hst
  have hD := str_ne hne
  clear B1 B2 P1 P2 g1 g2 g3 h1 h2 hst hne e3
  have HF := Lib.hid ((Hold.new (Below.refl w.heap.size w) #[.string d1, .string r1, .int .i64 v1, .int .i64 p1, .int .i64 t1, .string b1]).alloc (.cells #[.string d1, .string r2, .int .i64 v2, .int .i64 p2, .int .i64 t2, .string b2] 23))
  have HG : Hid (Hold w (w.heap.size + 1) #[.string d1, .string r2, .int .i64 v2, .int .i64 p2, .int .i64 t2, .string b2] ((w.alloc (.cells #[.string d1, .string r1, .int .i64 v1, .int .i64 p1, .int .i64 t1, .string b1] 23)).alloc (.cells #[.string d1, .string r2, .int .i64 v2, .int .i64 p2, .int .i64 t2, .string b2] 23))) := Lib.hid (by simpa using Hold.new ((Below.refl w.heap.size w).alloc (Nat.le_refl _) (.cells #[.string d1, .string r1, .int .i64 v1, .int .i64 p1, .int .i64 t1, .string b1] 23)) #[.string d1, .string r2, .int .i64 v2, .int .i64 p2, .int .i64 t2, .string b2])
  go_enter Try.func6, Try.ntmps6
  go_wp2_with fail
  refine (HB1.out _).mono ?_
  rintro e w1 ⟨rfl, hq⟩
  have HF1 := Lib.hid (HF.out.next hq)
  have HG1 := Lib.hid (HG.out.next hq)
  clear hq HF HG
  obtain ⟨c0, c1, c2, c3, c4, c5, c6⟩ := HG1.out.cells
  go_wp2_with fail
  refine (HB2.out _).mono ?_
  rintro e w2 ⟨rfl, hq⟩
  have HF2 := Lib.hid (HF1.out.next hq)
  have HG2 := Lib.hid (HG1.out.next hq)
  clear hq HF1 HG1 c0 c1 c2 c3 c4 c5 c6
  go_wp2_with fail
  refine (HP1.out _).mono ?_
  rintro e w3 ⟨rfl, hq⟩
  have HF3 := Lib.hid (HF2.out.next hq)
  have HG3 := Lib.hid (HG2.out.next hq)
  clear hq HF2 HG2
  obtain ⟨c0, c1, c2, c3, c4, c5, c6⟩ := HF3.out.cells
  obtain ⟨a0, a1, a2, a3, a4, a5, a6⟩ := HG3.out.cells
  have HF4 := Lib.hid (HF3.out.alloc (.cells #[.string d1, .string r1, .int .i64 v1, .int .i64 p1, .int .i64 t1, .string b1] 23))
  clear HF3 HG3
  go_wp2_with fail
  refine (HP2.out _).mono ?_
  rintro e w4 ⟨rfl, hq⟩
  have HB := Lib.hid (HF4.out.next hq).below
  clear hq HF4 c0 c1 c2 c3 c4 c5 c6 a0 a1 a2 a3 a4 a5 a6
  have HX := Lib.hid (Hold.new HB.out #[.string ⟨#[]⟩, .string ⟨#[]⟩, .int .i64 0, .int .i64 0, .int .i64 0, .string ⟨#[]⟩])
  clear HB
  go_wp2_with fail
  refine (fixed_any _).mono ?_
  rintro e w5 ⟨rfl, hq⟩
  have HE := Lib.hid (HX.out.next hq).below
  clear hq HX
  go_wp2_with fail
  go_ret
  exact ⟨rfl, HE.out⟩
set_option maxRecDepth 100000 in
set_option maxHeartbeats 3200000 in
theorem back_two2_no (d1 r1 : ByteArray) (v1 p1 t1 : Int) (b1 : ByteArray) (v2 : Int) (p2 : Int) (t2 : Int) (b2 : ByteArray) (s : ByteArray) (w : World) (hf : b1.size ≤ 140737488351232) (hg : b2.size ≤ 140737488351232) (h1 : buildE ⟨d1, r1, v1, p1, t1, b1⟩ = 0) (h2 : buildE ⟨d1, r1, v2, p2, t2, b2⟩ = 0) (hne : v1 ≠ v2) (h3 : (parseE s != 0) = true) :
    Calls Try.prog 6 #[.agg #[.string d1, .string r1, .int .i64 v1, .int .i64 p1, .int .i64 t1, .string b1], .agg #[.string d1, .string r1, .int .i64 v2, .int .i64 p2, .int .i64 t2, .string b2], .string s] w fun e w' => e = .returned (.bool true) ∧ Below w.heap.size w w' := by
  have B1 := fun W => build_any ⟨d1, r1, v1, p1, t1, b1⟩ W hf
  have B2 := fun W => build_any ⟨d1, r1, v2, p2, t2, b2⟩ W hg
  have P1 := parse_any (buildS ⟨d1, r1, v1, p1, t1, b1⟩)
  obtain ⟨g1, g2, g3, g4⟩ := parse_build h1
  rw [g1, g2] at P1
  have hst : buildS ⟨d1, r1, v1, p1, t1, b1⟩ ≠ buildS ⟨d1, r1, v2, p2, t2, b2⟩ := fun e => hne (by
    have hh := (parse_build h2).2.1
    rw [← e, g2] at hh
    exact congrArg Fr.v hh)
  rw [h1] at B1
  rw [h2] at B2
  have P2 := parse_any s
  have e3 : parseF s = .zero := if_neg (by simpa using h3)
  rw [e3] at P2
  generalize buildS ⟨d1, r1, v1, p1, t1, b1⟩ = S1 at *
  generalize buildS ⟨d1, r1, v2, p2, t2, b2⟩ = S2 at *
  generalize parseE s = E3 at *
  simp only [Fr.val, ethC, Fr.zero] at *
  have HB1 := Lib.hid B1
  have HB2 := Lib.hid B2
  have HP1 := Lib.hid P1
  have HP2 := Lib.hid P2
  have hS := str_ne hst
  have hD : (v1 == v2) = false := by simpa using hne
  clear B1 B2 P1 P2 g1 g2 g3 h1 h2 hst hne e3
  have HF := Lib.hid ((Hold.new (Below.refl w.heap.size w) #[.string d1, .string r1, .int .i64 v1, .int .i64 p1, .int .i64 t1, .string b1]).alloc (.cells #[.string d1, .string r1, .int .i64 v2, .int .i64 p2, .int .i64 t2, .string b2] 23))
  have HG : Hid (Hold w (w.heap.size + 1) #[.string d1, .string r1, .int .i64 v2, .int .i64 p2, .int .i64 t2, .string b2] ((w.alloc (.cells #[.string d1, .string r1, .int .i64 v1, .int .i64 p1, .int .i64 t1, .string b1] 23)).alloc (.cells #[.string d1, .string r1, .int .i64 v2, .int .i64 p2, .int .i64 t2, .string b2] 23))) := Lib.hid (by simpa using Hold.new ((Below.refl w.heap.size w).alloc (Nat.le_refl _) (.cells #[.string d1, .string r1, .int .i64 v1, .int .i64 p1, .int .i64 t1, .string b1] 23)) #[.string d1, .string r1, .int .i64 v2, .int .i64 p2, .int .i64 t2, .string b2])
  go_enter Try.func6, Try.ntmps6
  go_wp2_with fail
  refine (HB1.out _).mono ?_
  rintro e w1 ⟨rfl, hq⟩
  have HF1 := Lib.hid (HF.out.next hq)
  have HG1 := Lib.hid (HG.out.next hq)
  clear hq HF HG
  obtain ⟨c0, c1, c2, c3, c4, c5, c6⟩ := HG1.out.cells
  go_wp2_with fail
  refine (HB2.out _).mono ?_
  rintro e w2 ⟨rfl, hq⟩
  have HF2 := Lib.hid (HF1.out.next hq)
  have HG2 := Lib.hid (HG1.out.next hq)
  clear hq HF1 HG1 c0 c1 c2 c3 c4 c5 c6
  go_wp2_with fail
  refine (HP1.out _).mono ?_
  rintro e w3 ⟨rfl, hq⟩
  have HF3 := Lib.hid (HF2.out.next hq)
  have HG3 := Lib.hid (HG2.out.next hq)
  clear hq HF2 HG2
  obtain ⟨c0, c1, c2, c3, c4, c5, c6⟩ := HF3.out.cells
  obtain ⟨a0, a1, a2, a3, a4, a5, a6⟩ := HG3.out.cells
  have HF4 := Lib.hid (HF3.out.alloc (.cells #[.string d1, .string r1, .int .i64 v1, .int .i64 p1, .int .i64 t1, .string b1] 23))
  clear HF3 HG3
  go_wp2_with fail
  refine (HP2.out _).mono ?_
  rintro e w4 ⟨rfl, hq⟩
  have HB := Lib.hid (HF4.out.next hq).below
  clear hq HF4 c0 c1 c2 c3 c4 c5 c6 a0 a1 a2 a3 a4 a5 a6
  have HX := Lib.hid (Hold.new HB.out #[.string ⟨#[]⟩, .string ⟨#[]⟩, .int .i64 0, .int .i64 0, .int .i64 0, .string ⟨#[]⟩])
  clear HB
  go_wp2_with fail
  refine (fixed_any _).mono ?_
  rintro e w5 ⟨rfl, hq⟩
  have HE := Lib.hid (HX.out.next hq).below
  clear hq HX
  go_wp2_with fail
  go_ret
  exact ⟨rfl, HE.out⟩
set_option maxRecDepth 100000 in
set_option maxHeartbeats 3200000 in
theorem back_two3_no (d1 r1 : ByteArray) (v1 p1 t1 : Int) (b1 : ByteArray) (p2 : Int) (t2 : Int) (b2 : ByteArray) (s : ByteArray) (w : World) (hf : b1.size ≤ 140737488351232) (hg : b2.size ≤ 140737488351232) (h1 : buildE ⟨d1, r1, v1, p1, t1, b1⟩ = 0) (h2 : buildE ⟨d1, r1, v1, p2, t2, b2⟩ = 0) (hne : p1 ≠ p2) (h3 : (parseE s != 0) = true) :
    Calls Try.prog 6 #[.agg #[.string d1, .string r1, .int .i64 v1, .int .i64 p1, .int .i64 t1, .string b1], .agg #[.string d1, .string r1, .int .i64 v1, .int .i64 p2, .int .i64 t2, .string b2], .string s] w fun e w' => e = .returned (.bool true) ∧ Below w.heap.size w w' := by
  have B1 := fun W => build_any ⟨d1, r1, v1, p1, t1, b1⟩ W hf
  have B2 := fun W => build_any ⟨d1, r1, v1, p2, t2, b2⟩ W hg
  have P1 := parse_any (buildS ⟨d1, r1, v1, p1, t1, b1⟩)
  obtain ⟨g1, g2, g3, g4⟩ := parse_build h1
  rw [g1, g2] at P1
  have hst : buildS ⟨d1, r1, v1, p1, t1, b1⟩ ≠ buildS ⟨d1, r1, v1, p2, t2, b2⟩ := fun e => hne (by
    have hh := (parse_build h2).2.1
    rw [← e, g2] at hh
    exact congrArg Fr.p hh)
  rw [h1] at B1
  rw [h2] at B2
  have P2 := parse_any s
  have e3 : parseF s = .zero := if_neg (by simpa using h3)
  rw [e3] at P2
  generalize buildS ⟨d1, r1, v1, p1, t1, b1⟩ = S1 at *
  generalize buildS ⟨d1, r1, v1, p2, t2, b2⟩ = S2 at *
  generalize parseE s = E3 at *
  simp only [Fr.val, ethC, Fr.zero] at *
  have HB1 := Lib.hid B1
  have HB2 := Lib.hid B2
  have HP1 := Lib.hid P1
  have HP2 := Lib.hid P2
  have hS := str_ne hst
  have hD : (p1 == p2) = false := by simpa using hne
  clear B1 B2 P1 P2 g1 g2 g3 h1 h2 hst hne e3
  have HF := Lib.hid ((Hold.new (Below.refl w.heap.size w) #[.string d1, .string r1, .int .i64 v1, .int .i64 p1, .int .i64 t1, .string b1]).alloc (.cells #[.string d1, .string r1, .int .i64 v1, .int .i64 p2, .int .i64 t2, .string b2] 23))
  have HG : Hid (Hold w (w.heap.size + 1) #[.string d1, .string r1, .int .i64 v1, .int .i64 p2, .int .i64 t2, .string b2] ((w.alloc (.cells #[.string d1, .string r1, .int .i64 v1, .int .i64 p1, .int .i64 t1, .string b1] 23)).alloc (.cells #[.string d1, .string r1, .int .i64 v1, .int .i64 p2, .int .i64 t2, .string b2] 23))) := Lib.hid (by simpa using Hold.new ((Below.refl w.heap.size w).alloc (Nat.le_refl _) (.cells #[.string d1, .string r1, .int .i64 v1, .int .i64 p1, .int .i64 t1, .string b1] 23)) #[.string d1, .string r1, .int .i64 v1, .int .i64 p2, .int .i64 t2, .string b2])
  go_enter Try.func6, Try.ntmps6
  go_wp2_with fail
  refine (HB1.out _).mono ?_
  rintro e w1 ⟨rfl, hq⟩
  have HF1 := Lib.hid (HF.out.next hq)
  have HG1 := Lib.hid (HG.out.next hq)
  clear hq HF HG
  obtain ⟨c0, c1, c2, c3, c4, c5, c6⟩ := HG1.out.cells
  go_wp2_with fail
  refine (HB2.out _).mono ?_
  rintro e w2 ⟨rfl, hq⟩
  have HF2 := Lib.hid (HF1.out.next hq)
  have HG2 := Lib.hid (HG1.out.next hq)
  clear hq HF1 HG1 c0 c1 c2 c3 c4 c5 c6
  go_wp2_with fail
  refine (HP1.out _).mono ?_
  rintro e w3 ⟨rfl, hq⟩
  have HF3 := Lib.hid (HF2.out.next hq)
  have HG3 := Lib.hid (HG2.out.next hq)
  clear hq HF2 HG2
  obtain ⟨c0, c1, c2, c3, c4, c5, c6⟩ := HF3.out.cells
  obtain ⟨a0, a1, a2, a3, a4, a5, a6⟩ := HG3.out.cells
  have HF4 := Lib.hid (HF3.out.alloc (.cells #[.string d1, .string r1, .int .i64 v1, .int .i64 p1, .int .i64 t1, .string b1] 23))
  clear HF3 HG3
  go_wp2_with fail
  refine (HP2.out _).mono ?_
  rintro e w4 ⟨rfl, hq⟩
  have HB := Lib.hid (HF4.out.next hq).below
  clear hq HF4 c0 c1 c2 c3 c4 c5 c6 a0 a1 a2 a3 a4 a5 a6
  have HX := Lib.hid (Hold.new HB.out #[.string ⟨#[]⟩, .string ⟨#[]⟩, .int .i64 0, .int .i64 0, .int .i64 0, .string ⟨#[]⟩])
  clear HB
  go_wp2_with fail
  refine (fixed_any _).mono ?_
  rintro e w5 ⟨rfl, hq⟩
  have HE := Lib.hid (HX.out.next hq).below
  clear hq HX
  go_wp2_with fail
  go_ret
  exact ⟨rfl, HE.out⟩
set_option maxRecDepth 100000 in
set_option maxHeartbeats 3200000 in
theorem back_two4_no (d1 r1 : ByteArray) (v1 p1 t1 : Int) (b1 : ByteArray) (t2 : Int) (b2 : ByteArray) (s : ByteArray) (w : World) (hf : b1.size ≤ 140737488351232) (hg : b2.size ≤ 140737488351232) (h1 : buildE ⟨d1, r1, v1, p1, t1, b1⟩ = 0) (h2 : buildE ⟨d1, r1, v1, p1, t2, b2⟩ = 0) (hne : t1 ≠ t2) (h3 : (parseE s != 0) = true) :
    Calls Try.prog 6 #[.agg #[.string d1, .string r1, .int .i64 v1, .int .i64 p1, .int .i64 t1, .string b1], .agg #[.string d1, .string r1, .int .i64 v1, .int .i64 p1, .int .i64 t2, .string b2], .string s] w fun e w' => e = .returned (.bool true) ∧ Below w.heap.size w w' := by
  have B1 := fun W => build_any ⟨d1, r1, v1, p1, t1, b1⟩ W hf
  have B2 := fun W => build_any ⟨d1, r1, v1, p1, t2, b2⟩ W hg
  have P1 := parse_any (buildS ⟨d1, r1, v1, p1, t1, b1⟩)
  obtain ⟨g1, g2, g3, g4⟩ := parse_build h1
  rw [g1, g2] at P1
  have hst : buildS ⟨d1, r1, v1, p1, t1, b1⟩ ≠ buildS ⟨d1, r1, v1, p1, t2, b2⟩ := fun e => hne (by
    have hh := (parse_build h2).2.1
    rw [← e, g2] at hh
    exact congrArg Fr.t hh)
  rw [h1] at B1
  rw [h2] at B2
  have P2 := parse_any s
  have e3 : parseF s = .zero := if_neg (by simpa using h3)
  rw [e3] at P2
  generalize buildS ⟨d1, r1, v1, p1, t1, b1⟩ = S1 at *
  generalize buildS ⟨d1, r1, v1, p1, t2, b2⟩ = S2 at *
  generalize parseE s = E3 at *
  simp only [Fr.val, ethC, Fr.zero] at *
  have HB1 := Lib.hid B1
  have HB2 := Lib.hid B2
  have HP1 := Lib.hid P1
  have HP2 := Lib.hid P2
  have hS := str_ne hst
  have hD : (t1 == t2) = false := by simpa using hne
  clear B1 B2 P1 P2 g1 g2 g3 h1 h2 hst hne e3
  have HF := Lib.hid ((Hold.new (Below.refl w.heap.size w) #[.string d1, .string r1, .int .i64 v1, .int .i64 p1, .int .i64 t1, .string b1]).alloc (.cells #[.string d1, .string r1, .int .i64 v1, .int .i64 p1, .int .i64 t2, .string b2] 23))
  have HG : Hid (Hold w (w.heap.size + 1) #[.string d1, .string r1, .int .i64 v1, .int .i64 p1, .int .i64 t2, .string b2] ((w.alloc (.cells #[.string d1, .string r1, .int .i64 v1, .int .i64 p1, .int .i64 t1, .string b1] 23)).alloc (.cells #[.string d1, .string r1, .int .i64 v1, .int .i64 p1, .int .i64 t2, .string b2] 23))) := Lib.hid (by simpa using Hold.new ((Below.refl w.heap.size w).alloc (Nat.le_refl _) (.cells #[.string d1, .string r1, .int .i64 v1, .int .i64 p1, .int .i64 t1, .string b1] 23)) #[.string d1, .string r1, .int .i64 v1, .int .i64 p1, .int .i64 t2, .string b2])
  go_enter Try.func6, Try.ntmps6
  go_wp2_with fail
  refine (HB1.out _).mono ?_
  rintro e w1 ⟨rfl, hq⟩
  have HF1 := Lib.hid (HF.out.next hq)
  have HG1 := Lib.hid (HG.out.next hq)
  clear hq HF HG
  obtain ⟨c0, c1, c2, c3, c4, c5, c6⟩ := HG1.out.cells
  go_wp2_with fail
  refine (HB2.out _).mono ?_
  rintro e w2 ⟨rfl, hq⟩
  have HF2 := Lib.hid (HF1.out.next hq)
  have HG2 := Lib.hid (HG1.out.next hq)
  clear hq HF1 HG1 c0 c1 c2 c3 c4 c5 c6
  go_wp2_with fail
  refine (HP1.out _).mono ?_
  rintro e w3 ⟨rfl, hq⟩
  have HF3 := Lib.hid (HF2.out.next hq)
  have HG3 := Lib.hid (HG2.out.next hq)
  clear hq HF2 HG2
  obtain ⟨c0, c1, c2, c3, c4, c5, c6⟩ := HF3.out.cells
  obtain ⟨a0, a1, a2, a3, a4, a5, a6⟩ := HG3.out.cells
  have HF4 := Lib.hid (HF3.out.alloc (.cells #[.string d1, .string r1, .int .i64 v1, .int .i64 p1, .int .i64 t1, .string b1] 23))
  clear HF3 HG3
  go_wp2_with fail
  refine (HP2.out _).mono ?_
  rintro e w4 ⟨rfl, hq⟩
  have HB := Lib.hid (HF4.out.next hq).below
  clear hq HF4 c0 c1 c2 c3 c4 c5 c6 a0 a1 a2 a3 a4 a5 a6
  have HX := Lib.hid (Hold.new HB.out #[.string ⟨#[]⟩, .string ⟨#[]⟩, .int .i64 0, .int .i64 0, .int .i64 0, .string ⟨#[]⟩])
  clear HB
  go_wp2_with fail
  refine (fixed_any _).mono ?_
  rintro e w5 ⟨rfl, hq⟩
  have HE := Lib.hid (HX.out.next hq).below
  clear hq HX
  go_wp2_with fail
  go_ret
  exact ⟨rfl, HE.out⟩
set_option maxRecDepth 100000 in
set_option maxHeartbeats 3200000 in
theorem back_two5_no (d1 r1 : ByteArray) (v1 p1 t1 : Int) (b1 : ByteArray) (b2 : ByteArray) (s : ByteArray) (w : World) (hf : b1.size ≤ 140737488351232) (hg : b2.size ≤ 140737488351232) (h1 : buildE ⟨d1, r1, v1, p1, t1, b1⟩ = 0) (h2 : buildE ⟨d1, r1, v1, p1, t1, b2⟩ = 0) (hne : b1 ≠ b2) (h3 : (parseE s != 0) = true) :
    Calls Try.prog 6 #[.agg #[.string d1, .string r1, .int .i64 v1, .int .i64 p1, .int .i64 t1, .string b1], .agg #[.string d1, .string r1, .int .i64 v1, .int .i64 p1, .int .i64 t1, .string b2], .string s] w fun e w' => e = .returned (.bool true) ∧ Below w.heap.size w w' := by
  have B1 := fun W => build_any ⟨d1, r1, v1, p1, t1, b1⟩ W hf
  have B2 := fun W => build_any ⟨d1, r1, v1, p1, t1, b2⟩ W hg
  have P1 := parse_any (buildS ⟨d1, r1, v1, p1, t1, b1⟩)
  obtain ⟨g1, g2, g3, g4⟩ := parse_build h1
  rw [g1, g2] at P1
  have hst : buildS ⟨d1, r1, v1, p1, t1, b1⟩ ≠ buildS ⟨d1, r1, v1, p1, t1, b2⟩ := fun e => hne (by
    have hh := (parse_build h2).2.1
    rw [← e, g2] at hh
    exact congrArg Fr.b hh)
  rw [h1] at B1
  rw [h2] at B2
  have P2 := parse_any s
  have e3 : parseF s = .zero := if_neg (by simpa using h3)
  rw [e3] at P2
  generalize buildS ⟨d1, r1, v1, p1, t1, b1⟩ = S1 at *
  generalize buildS ⟨d1, r1, v1, p1, t1, b2⟩ = S2 at *
  generalize parseE s = E3 at *
  simp only [Fr.val, ethC, Fr.zero] at *
  have HB1 := Lib.hid B1
  have HB2 := Lib.hid B2
  have HP1 := Lib.hid P1
  have HP2 := Lib.hid P2
  have hS := str_ne hst
  have hD := str_ne hne
  clear B1 B2 P1 P2 g1 g2 g3 h1 h2 hst hne e3
  have HF := Lib.hid ((Hold.new (Below.refl w.heap.size w) #[.string d1, .string r1, .int .i64 v1, .int .i64 p1, .int .i64 t1, .string b1]).alloc (.cells #[.string d1, .string r1, .int .i64 v1, .int .i64 p1, .int .i64 t1, .string b2] 23))
  have HG : Hid (Hold w (w.heap.size + 1) #[.string d1, .string r1, .int .i64 v1, .int .i64 p1, .int .i64 t1, .string b2] ((w.alloc (.cells #[.string d1, .string r1, .int .i64 v1, .int .i64 p1, .int .i64 t1, .string b1] 23)).alloc (.cells #[.string d1, .string r1, .int .i64 v1, .int .i64 p1, .int .i64 t1, .string b2] 23))) := Lib.hid (by simpa using Hold.new ((Below.refl w.heap.size w).alloc (Nat.le_refl _) (.cells #[.string d1, .string r1, .int .i64 v1, .int .i64 p1, .int .i64 t1, .string b1] 23)) #[.string d1, .string r1, .int .i64 v1, .int .i64 p1, .int .i64 t1, .string b2])
  go_enter Try.func6, Try.ntmps6
  go_wp2_with fail
  refine (HB1.out _).mono ?_
  rintro e w1 ⟨rfl, hq⟩
  have HF1 := Lib.hid (HF.out.next hq)
  have HG1 := Lib.hid (HG.out.next hq)
  clear hq HF HG
  obtain ⟨c0, c1, c2, c3, c4, c5, c6⟩ := HG1.out.cells
  go_wp2_with fail
  refine (HB2.out _).mono ?_
  rintro e w2 ⟨rfl, hq⟩
  have HF2 := Lib.hid (HF1.out.next hq)
  have HG2 := Lib.hid (HG1.out.next hq)
  clear hq HF1 HG1 c0 c1 c2 c3 c4 c5 c6
  go_wp2_with fail
  refine (HP1.out _).mono ?_
  rintro e w3 ⟨rfl, hq⟩
  have HF3 := Lib.hid (HF2.out.next hq)
  have HG3 := Lib.hid (HG2.out.next hq)
  clear hq HF2 HG2
  obtain ⟨c0, c1, c2, c3, c4, c5, c6⟩ := HF3.out.cells
  obtain ⟨a0, a1, a2, a3, a4, a5, a6⟩ := HG3.out.cells
  have HF4 := Lib.hid (HF3.out.alloc (.cells #[.string d1, .string r1, .int .i64 v1, .int .i64 p1, .int .i64 t1, .string b1] 23))
  clear HF3 HG3
  go_wp2_with fail
  refine (HP2.out _).mono ?_
  rintro e w4 ⟨rfl, hq⟩
  have HB := Lib.hid (HF4.out.next hq).below
  clear hq HF4 c0 c1 c2 c3 c4 c5 c6 a0 a1 a2 a3 a4 a5 a6
  have HX := Lib.hid (Hold.new HB.out #[.string ⟨#[]⟩, .string ⟨#[]⟩, .int .i64 0, .int .i64 0, .int .i64 0, .string ⟨#[]⟩])
  clear HB
  go_wp2_with fail
  refine (fixed_any _).mono ?_
  rintro e w5 ⟨rfl, hq⟩
  have HE := Lib.hid (HX.out.next hq).below
  clear hq HX
  go_wp2_with fail
  go_ret
  exact ⟨rfl, HE.out⟩
end Go.Proofs.Ytdfllobhcfajjaa
