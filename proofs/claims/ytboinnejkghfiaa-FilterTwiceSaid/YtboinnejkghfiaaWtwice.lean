/-
  FilterTwice: a network that is added twice is there once; one that is not there is taken away without a trace; the order of two makes no difference.
-/
import Derived.Test.YtboinnejkghfiaaVp
import Derived.Test.YtboinnejkghfiaaMt
namespace Go.Proofs.Ytboinnejkghfiaa
open Go.Joins Go.ChangeShapes Go.WideShapes Go.ChangeAt Go.RowKit Go.Deep
open Go.ChangeMaps (open_string)

theorem vs_begin {F G : Fl} {w w1 : World} (hG : G.At w.heap.size w) (hl : G.Few) (hq : Below (w.alloc (.cells F.cells 25)).heap.size (w.alloc (.cells F.cells 25)) w1) :
    Vs w [(w.heap.size, G)] (((((((((((w1.setCell ⟨w.heap.size, 0, none⟩ (.string G.mac)).setCell ⟨w.heap.size, 1, none⟩ (.bool G.pr)).setCell ⟨w.heap.size, 2, none⟩ (.bool G.au)).setCell ⟨w.heap.size, 3, none⟩ (.bool G.am)).setCell ⟨w.heap.size, 4, none⟩ (.bool G.nu)).setCell ⟨w.heap.size, 5, none⟩ (.bool G.nm)).setCell ⟨w.heap.size, 6, none⟩ (.bool G.na)).setCell ⟨w.heap.size, 7, none⟩ (.slice G.U G.us.length G.uc)).setCell ⟨w.heap.size, 8, none⟩ (.slice G.M G.ms.length G.mc)).setCell ⟨w.heap.size, 9, none⟩ (.bool G.vo)).setCell ⟨w.heap.size, 10, none⟩ (.slice G.V G.vs.length G.vc)) := by
  have h1 := ba (b0 w) (.cells F.cells 25)
  have h2 := bt2 h1 hq
  have hb := below_set11 h2 (Nat.le_refl _) (.string G.mac) (.bool G.pr) (.bool G.au) (.bool G.am) (.bool G.nu) (.bool G.nm) (.bool G.na) (.slice G.U G.us.length G.uc) (.slice G.M G.ms.length G.mc) (.bool G.vo) (.slice G.V G.vs.length G.vc)
  have k := ((Blk.new w 25 F.cells).next hq).set11 (.string G.mac) (.bool G.pr) (.bool G.au) (.bool G.am) (.bool G.nu) (.bool G.nm) (.bool G.na) (.slice G.U G.us.length G.uc) (.slice G.M G.ms.length G.mc) (.bool G.vo) (.slice G.V G.vs.length G.vc)
  refine ⟨hb, fun p hp => ?_, fun p hp q hq' => ?_⟩
  · obtain rfl : p = (w.heap.size, G) := by simpa using hp
    exact ⟨Nat.le_refl _, k, (hG.far (Nat.le_refl _) hb).more hb.size, hl⟩
  · obtain rfl : p = (w.heap.size, G) := by simpa using hp
    obtain rfl : q = (w.heap.size, G) := by simpa using hq'
    exact hG.off (Nat.le_refl _)
set_option maxRecDepth 100000 in
set_option maxHeartbeats 8000000 in
theorem twice_walk (mac0 mac : ByteArray) (pr0 au0 am0 nu0 nm0 na0 vo0 pr au am nu nm na vo : Bool) (U0 M0 V0 U M V : Option Addr) (us0 ms0 us ms : List ByteArray) (vs0 vs : List Int) (uc0 mc0 vc0 uc mc vc : Nat) (a b XA XB N K : Int) (X Z U9 Y : List Int) (w : World) (hG : (⟨mac, pr, au, am, nu, nm, na, U, us, uc, M, ms, mc, vo, V, vs, vc⟩ : Fl).At w.heap.size w) (hl : (⟨mac, pr, au, am, nu, nm, na, U, us, uc, M, ms, mc, vo, V, vs, vc⟩ : Fl).Few)
    (ea : bits .and .i64 a 65535 = XA) (nA : Int.tmod XA 4095 = N) (xa0 : 0 ≤ XA) (xa1 : XA ≤ 65535) (eb : bits .and .i64 b 65535 = XB) (nB : Int.tmod XB 4095 = K) (xb0 : 0 ≤ XB) (xb1 : XB ≤ 65535)
    (AB : ∀ W, Calls Try.prog 9 #[.agg #[.string mac0, .bool pr0, .bool au0, .bool am0, .bool nu0, .bool nm0, .bool na0, .slice U0 us0.length uc0, .slice M0 ms0.length mc0, .bool vo0, .slice V0 vs0.length vc0]] W fun e w' => e = .returned (.agg #[.string mac, .bool pr, .bool au, .bool am, .bool nu, .bool nm, .bool na, .slice U us.length uc, .slice M ms.length mc, .bool vo, .slice V vs.length vc]) ∧ Below W.heap.size W w')
    (A1 : ∀ (L : List (Nat × Fl)) (F : Fl) (g : Nat) W, Vs w L W → (g, F) ∈ L → F.vs = vs → Calls Try.prog 15 #[F.val, .int .i64 N] W (StepP w L F X))
    (A2 : ∀ (L : List (Nat × Fl)) (F : Fl) (g : Nat) W, Vs w L W → (g, F) ∈ L → F.vs = X → Calls Try.prog 15 #[F.val, .int .i64 N] W (StepP w L F X))
    (A3 : ∀ (L : List (Nat × Fl)) (F : Fl) (g : Nat) W, Vs w L W → (g, F) ∈ L → F.vs = X → Calls Try.prog 15 #[F.val, .int .i64 K] W (StepP w L F Z))
    (A4 : ∀ (L : List (Nat × Fl)) (F : Fl) (g : Nat) W, Vs w L W → (g, F) ∈ L → F.vs = vs → Calls Try.prog 15 #[F.val, .int .i64 K] W (StepP w L F U9))
    (A5 : ∀ (L : List (Nat × Fl)) (F : Fl) (g : Nat) W, Vs w L W → (g, F) ∈ L → F.vs = U9 → Calls Try.prog 15 #[F.val, .int .i64 N] W (StepP w L F Z))
    (A6 : ∀ (L : List (Nat × Fl)) (F : Fl) (g : Nat) W, Vs w L W → (g, F) ∈ L → F.vs = X → Calls Try.prog 17 #[F.val, .int .i64 N] W (StepP w L F Y))
    (A7 : ∀ (L : List (Nat × Fl)) (F : Fl) (g : Nat) W, Vs w L W → (g, F) ∈ L → F.vs = Y → Calls Try.prog 17 #[F.val, .int .i64 N] W (StepP w L F Y))
    (AS : ∀ (L : List (Nat × Fl)) (F G : Fl) (g k : Nat) W, Vs w L W → (g, F) ∈ L → (k, G) ∈ L → F.Same G → Calls Try.prog 18 #[F.val, G.val] W fun e w' => e = .returned (.bool true) ∧ Vs w L w') :
    Calls Try.prog 7 #[.agg #[.string mac0, .bool pr0, .bool au0, .bool am0, .bool nu0, .bool nm0, .bool na0, .slice U0 us0.length uc0, .slice M0 ms0.length mc0, .bool vo0, .slice V0 vs0.length vc0], .int .i64 a, .int .i64 b] w fun e w' => e = .returned (.bool true) ∧ Below w.heap.size w w' := by
  have _ := xa0; have _ := xa1; have _ := xb0; have _ := xb1
  have HB := Lib.hid AB
  have H1 := Lib.hid A1
  have H2 := Lib.hid A2
  have H3 := Lib.hid A3
  have H4 := Lib.hid A4
  have H5 := Lib.hid A5
  have H6 := Lib.hid A6
  have H7 := Lib.hid A7
  have HS := Lib.hid AS
  clear AB AS A1 A2 A3 A4 A5 A6 A7
  go_enter Try.func7, Try.ntmps7
  go_wp2_with fail
  refine (HB.out _).mono ?_
  rintro e w1 ⟨rfl, hq⟩
  have k1 : Blk w1 w.heap.size 25 #[.string mac0, .bool pr0, .bool au0, .bool am0, .bool nu0, .bool nm0, .bool na0, .slice U0 us0.length uc0, .slice M0 ms0.length mc0, .bool vo0, .slice V0 vs0.length vc0] := (Blk.new w 25 _).next hq
  have c0 := k1.cell 0
  have c1 := k1.cell 1
  have c2 := k1.cell 2
  have c3 := k1.cell 3
  have c4 := k1.cell 4
  have c5 := k1.cell 5
  have c6 := k1.cell 6
  have c7 := k1.cell 7
  have c8 := k1.cell 8
  have c9 := k1.cell 9
  have c10 := k1.cell 10
  simp only [List.getElem?_toArray, List.getElem?_cons_zero, List.getElem?_cons_succ] at c0 c1 c2 c3 c4 c5 c6 c7 c8 c9 c10
  have f0 := k1.frozen 0
  have f1 := k1.frozen 1
  have f2 := k1.frozen 2
  have f3 := k1.frozen 3
  have f4 := k1.frozen 4
  have f5 := k1.frozen 5
  have f6 := k1.frozen 6
  have f7 := k1.frozen 7
  have f8 := k1.frozen 8
  have f9 := k1.frozen 9
  have f10 := k1.frozen 10
  obtain ⟨w2, hw2⟩ : ∃ w2, (((((((((((w1.setCell ⟨w.heap.size, 0, none⟩ (.string mac)).setCell ⟨w.heap.size, 1, none⟩ (.bool pr)).setCell ⟨w.heap.size, 2, none⟩ (.bool au)).setCell ⟨w.heap.size, 3, none⟩ (.bool am)).setCell ⟨w.heap.size, 4, none⟩ (.bool nu)).setCell ⟨w.heap.size, 5, none⟩ (.bool nm)).setCell ⟨w.heap.size, 6, none⟩ (.bool na)).setCell ⟨w.heap.size, 7, none⟩ (.slice U us.length uc)).setCell ⟨w.heap.size, 8, none⟩ (.slice M ms.length mc)).setCell ⟨w.heap.size, 9, none⟩ (.bool vo)).setCell ⟨w.heap.size, 10, none⟩ (.slice V vs.length vc)) = w2 := ⟨_, rfl⟩
  have hv : Vs w [(w.heap.size, ⟨mac, pr, au, am, nu, nm, na, U, us, uc, M, ms, mc, vo, V, vs, vc⟩)] w2 := hw2 ▸ vs_begin (F := ⟨mac0, pr0, au0, am0, nu0, nm0, na0, U0, us0, uc0, M0, ms0, mc0, vo0, V0, vs0, vc0⟩) (G := ⟨mac, pr, au, am, nu, nm, na, U, us, uc, M, ms, mc, vo, V, vs, vc⟩) hG hl hq
  have HW := Lib.hid hw2
  have k2 : Blk w2 w.heap.size 25 #[.string mac, .bool pr, .bool au, .bool am, .bool nu, .bool nm, .bool na, .slice U us.length uc, .slice M ms.length mc, .bool vo, .slice V vs.length vc] := hv.get (show (w.heap.size, (⟨mac, pr, au, am, nu, nm, na, U, us, uc, M, ms, mc, vo, V, vs, vc⟩ : Fl)) ∈ _ by simp)
  clear hw2 k1 hq
  have d0 := k2.cell 0
  have d1 := k2.cell 1
  have d2 := k2.cell 2
  have d3 := k2.cell 3
  have d4 := k2.cell 4
  have d5 := k2.cell 5
  have d6 := k2.cell 6
  have d7 := k2.cell 7
  have d8 := k2.cell 8
  have d9 := k2.cell 9
  have d10 := k2.cell 10
  simp only [List.getElem?_toArray, List.getElem?_cons_zero, List.getElem?_cons_succ] at d0 d1 d2 d3 d4 d5 d6 d7 d8 d9 d10
  clear k2
  have C0 := H1.out [(w.heap.size, (⟨mac, pr, au, am, nu, nm, na, U, us, uc, M, ms, mc, vo, V, vs, vc⟩ : Fl))] (⟨mac, pr, au, am, nu, nm, na, U, us, uc, M, ms, mc, vo, V, vs, vc⟩ : Fl) w.heap.size _ hv (by simp) rfl
  simp only [Fl.val, Fl.cells] at C0
  have HC0 := Lib.hid C0
  clear C0
  go_wp2_with (rw [HW.out]; clear c0 c1 c2 c3 c4 c5 c6 c7 c8 c9 c10 f0 f1 f2 f3 f4 f5 f6 f7 f8 f9 f10 HW)
  refine (HC0.out).mono ?_
  rintro e w3 ⟨U1, uc1, M1, mc1, V1, vc1, rfl, ho1, hn1⟩
  clear d0 d1 d2 d3 d4 d5 d6 d7 d8 d9 d10 HC0
  have C1 := H2.out [(w3.heap.size, (⟨mac, pr, au, am, nu, nm, na, U1, us, uc1, M1, ms, mc1, vo, V1, X, vc1⟩ : Fl)), (w.heap.size, (⟨mac, pr, au, am, nu, nm, na, U, us, uc, M, ms, mc, vo, V, vs, vc⟩ : Fl))] (⟨mac, pr, au, am, nu, nm, na, U1, us, uc1, M1, ms, mc1, vo, V1, X, vc1⟩ : Fl) w3.heap.size _ hn1 (by simp) rfl
  simp only [Fl.val, Fl.cells] at C1
  have HC1 := Lib.hid C1
  clear C1
  go_wp2_with fail
  refine (HC1.out).mono ?_
  rintro e w4 ⟨U2, uc2, M2, mc2, V2, vc2, rfl, ho2, hn2⟩
  clear ho1 HC1
  have qx : Blk w4 w3.heap.size 25 #[.string mac, .bool pr, .bool au, .bool am, .bool nu, .bool nm, .bool na, .slice U1 us.length uc1, .slice M1 ms.length mc1, .bool vo, .slice V1 X.length vc1] := ho2.get (show (w3.heap.size, (⟨mac, pr, au, am, nu, nm, na, U1, us, uc1, M1, ms, mc1, vo, V1, X, vc1⟩ : Fl)) ∈ _ by simp)
  have lx := qx.lt
  have xq0 := qx.cell 0
  have xq1 := qx.cell 1
  have xq2 := qx.cell 2
  have xq3 := qx.cell 3
  have xq4 := qx.cell 4
  have xq5 := qx.cell 5
  have xq6 := qx.cell 6
  have xq7 := qx.cell 7
  have xq8 := qx.cell 8
  have xq9 := qx.cell 9
  have xq10 := qx.cell 10
  simp only [List.getElem?_toArray, List.getElem?_cons_zero, List.getElem?_cons_succ] at xq0 xq1 xq2 xq3 xq4 xq5 xq6 xq7 xq8 xq9 xq10
  clear qx
  have C2 := H3.out [(w4.heap.size, (⟨mac, pr, au, am, nu, nm, na, U2, us, uc2, M2, ms, mc2, vo, V2, X, vc2⟩ : Fl)), (w3.heap.size, (⟨mac, pr, au, am, nu, nm, na, U1, us, uc1, M1, ms, mc1, vo, V1, X, vc1⟩ : Fl)), (w.heap.size, (⟨mac, pr, au, am, nu, nm, na, U, us, uc, M, ms, mc, vo, V, vs, vc⟩ : Fl))] (⟨mac, pr, au, am, nu, nm, na, U1, us, uc1, M1, ms, mc1, vo, V1, X, vc1⟩ : Fl) w3.heap.size _ hn2 (by simp) rfl
  simp only [Fl.val, Fl.cells] at C2
  have HC2 := Lib.hid C2
  clear C2
  go_wp2_with fail
  refine (HC2.out).mono ?_
  rintro e w5 ⟨U3, uc3, M3, mc3, V3, vc3, rfl, ho3, hn3⟩
  clear xq0 xq1 xq2 xq3 xq4 xq5 xq6 xq7 xq8 xq9 xq10 lx ho2 HC2
  have qf : Blk w5 w.heap.size 25 #[.string mac, .bool pr, .bool au, .bool am, .bool nu, .bool nm, .bool na, .slice U us.length uc, .slice M ms.length mc, .bool vo, .slice V vs.length vc] := ho3.get (show (w.heap.size, (⟨mac, pr, au, am, nu, nm, na, U, us, uc, M, ms, mc, vo, V, vs, vc⟩ : Fl)) ∈ _ by simp)
  have lf := qf.lt
  have fq0 := qf.cell 0
  have fq1 := qf.cell 1
  have fq2 := qf.cell 2
  have fq3 := qf.cell 3
  have fq4 := qf.cell 4
  have fq5 := qf.cell 5
  have fq6 := qf.cell 6
  have fq7 := qf.cell 7
  have fq8 := qf.cell 8
  have fq9 := qf.cell 9
  have fq10 := qf.cell 10
  simp only [List.getElem?_toArray, List.getElem?_cons_zero, List.getElem?_cons_succ] at fq0 fq1 fq2 fq3 fq4 fq5 fq6 fq7 fq8 fq9 fq10
  clear qf
  have C3 := H4.out [(w5.heap.size, (⟨mac, pr, au, am, nu, nm, na, U3, us, uc3, M3, ms, mc3, vo, V3, Z, vc3⟩ : Fl)), (w4.heap.size, (⟨mac, pr, au, am, nu, nm, na, U2, us, uc2, M2, ms, mc2, vo, V2, X, vc2⟩ : Fl)), (w3.heap.size, (⟨mac, pr, au, am, nu, nm, na, U1, us, uc1, M1, ms, mc1, vo, V1, X, vc1⟩ : Fl)), (w.heap.size, (⟨mac, pr, au, am, nu, nm, na, U, us, uc, M, ms, mc, vo, V, vs, vc⟩ : Fl))] (⟨mac, pr, au, am, nu, nm, na, U, us, uc, M, ms, mc, vo, V, vs, vc⟩ : Fl) w.heap.size _ hn3 (by simp) rfl
  simp only [Fl.val, Fl.cells] at C3
  have HC3 := Lib.hid C3
  clear C3
  go_wp2_with fail
  refine (HC3.out).mono ?_
  rintro e w6 ⟨U4, uc4, M4, mc4, V4, vc4, rfl, ho4, hn4⟩
  clear fq0 fq1 fq2 fq3 fq4 fq5 fq6 fq7 fq8 fq9 fq10 lf ho3 HC3
  have C4 := H5.out [(w6.heap.size, (⟨mac, pr, au, am, nu, nm, na, U4, us, uc4, M4, ms, mc4, vo, V4, U9, vc4⟩ : Fl)), (w5.heap.size, (⟨mac, pr, au, am, nu, nm, na, U3, us, uc3, M3, ms, mc3, vo, V3, Z, vc3⟩ : Fl)), (w4.heap.size, (⟨mac, pr, au, am, nu, nm, na, U2, us, uc2, M2, ms, mc2, vo, V2, X, vc2⟩ : Fl)), (w3.heap.size, (⟨mac, pr, au, am, nu, nm, na, U1, us, uc1, M1, ms, mc1, vo, V1, X, vc1⟩ : Fl)), (w.heap.size, (⟨mac, pr, au, am, nu, nm, na, U, us, uc, M, ms, mc, vo, V, vs, vc⟩ : Fl))] (⟨mac, pr, au, am, nu, nm, na, U4, us, uc4, M4, ms, mc4, vo, V4, U9, vc4⟩ : Fl) w6.heap.size _ hn4 (by simp) rfl
  simp only [Fl.val, Fl.cells] at C4
  have HC4 := Lib.hid C4
  clear C4
  go_wp2_with fail
  refine (HC4.out).mono ?_
  rintro e w7 ⟨U5, uc5, M5, mc5, V5, vc5, rfl, ho5, hn5⟩
  clear ho4 HC4
  have qx : Blk w7 w3.heap.size 25 #[.string mac, .bool pr, .bool au, .bool am, .bool nu, .bool nm, .bool na, .slice U1 us.length uc1, .slice M1 ms.length mc1, .bool vo, .slice V1 X.length vc1] := ho5.get (show (w3.heap.size, (⟨mac, pr, au, am, nu, nm, na, U1, us, uc1, M1, ms, mc1, vo, V1, X, vc1⟩ : Fl)) ∈ _ by simp)
  have lx := qx.lt
  have xq0 := qx.cell 0
  have xq1 := qx.cell 1
  have xq2 := qx.cell 2
  have xq3 := qx.cell 3
  have xq4 := qx.cell 4
  have xq5 := qx.cell 5
  have xq6 := qx.cell 6
  have xq7 := qx.cell 7
  have xq8 := qx.cell 8
  have xq9 := qx.cell 9
  have xq10 := qx.cell 10
  simp only [List.getElem?_toArray, List.getElem?_cons_zero, List.getElem?_cons_succ] at xq0 xq1 xq2 xq3 xq4 xq5 xq6 xq7 xq8 xq9 xq10
  clear qx
  have C5 := H6.out [(w7.heap.size, (⟨mac, pr, au, am, nu, nm, na, U5, us, uc5, M5, ms, mc5, vo, V5, Z, vc5⟩ : Fl)), (w6.heap.size, (⟨mac, pr, au, am, nu, nm, na, U4, us, uc4, M4, ms, mc4, vo, V4, U9, vc4⟩ : Fl)), (w5.heap.size, (⟨mac, pr, au, am, nu, nm, na, U3, us, uc3, M3, ms, mc3, vo, V3, Z, vc3⟩ : Fl)), (w4.heap.size, (⟨mac, pr, au, am, nu, nm, na, U2, us, uc2, M2, ms, mc2, vo, V2, X, vc2⟩ : Fl)), (w3.heap.size, (⟨mac, pr, au, am, nu, nm, na, U1, us, uc1, M1, ms, mc1, vo, V1, X, vc1⟩ : Fl)), (w.heap.size, (⟨mac, pr, au, am, nu, nm, na, U, us, uc, M, ms, mc, vo, V, vs, vc⟩ : Fl))] (⟨mac, pr, au, am, nu, nm, na, U1, us, uc1, M1, ms, mc1, vo, V1, X, vc1⟩ : Fl) w3.heap.size _ hn5 (by simp) rfl
  simp only [Fl.val, Fl.cells] at C5
  have HC5 := Lib.hid C5
  clear C5
  go_wp2_with fail
  refine (HC5.out).mono ?_
  rintro e w8 ⟨U6, uc6, M6, mc6, V6, vc6, rfl, ho6, hn6⟩
  clear xq0 xq1 xq2 xq3 xq4 xq5 xq6 xq7 xq8 xq9 xq10 lx ho5 HC5
  have C6 := H7.out [(w8.heap.size, (⟨mac, pr, au, am, nu, nm, na, U6, us, uc6, M6, ms, mc6, vo, V6, Y, vc6⟩ : Fl)), (w7.heap.size, (⟨mac, pr, au, am, nu, nm, na, U5, us, uc5, M5, ms, mc5, vo, V5, Z, vc5⟩ : Fl)), (w6.heap.size, (⟨mac, pr, au, am, nu, nm, na, U4, us, uc4, M4, ms, mc4, vo, V4, U9, vc4⟩ : Fl)), (w5.heap.size, (⟨mac, pr, au, am, nu, nm, na, U3, us, uc3, M3, ms, mc3, vo, V3, Z, vc3⟩ : Fl)), (w4.heap.size, (⟨mac, pr, au, am, nu, nm, na, U2, us, uc2, M2, ms, mc2, vo, V2, X, vc2⟩ : Fl)), (w3.heap.size, (⟨mac, pr, au, am, nu, nm, na, U1, us, uc1, M1, ms, mc1, vo, V1, X, vc1⟩ : Fl)), (w.heap.size, (⟨mac, pr, au, am, nu, nm, na, U, us, uc, M, ms, mc, vo, V, vs, vc⟩ : Fl))] (⟨mac, pr, au, am, nu, nm, na, U6, us, uc6, M6, ms, mc6, vo, V6, Y, vc6⟩ : Fl) w8.heap.size _ hn6 (by simp) rfl
  simp only [Fl.val, Fl.cells] at C6
  have HC6 := Lib.hid C6
  clear C6
  go_wp2_with fail
  refine (HC6.out).mono ?_
  rintro e w9 ⟨U7, uc7, M7, mc7, V7, vc7, rfl, ho7, hn7⟩
  clear ho6 HC6
  have qx : Blk w9 w3.heap.size 25 #[.string mac, .bool pr, .bool au, .bool am, .bool nu, .bool nm, .bool na, .slice U1 us.length uc1, .slice M1 ms.length mc1, .bool vo, .slice V1 X.length vc1] := ho7.get (show (w3.heap.size, (⟨mac, pr, au, am, nu, nm, na, U1, us, uc1, M1, ms, mc1, vo, V1, X, vc1⟩ : Fl)) ∈ _ by simp)
  have lx := qx.lt
  have xq0 := qx.cell 0
  have xq1 := qx.cell 1
  have xq2 := qx.cell 2
  have xq3 := qx.cell 3
  have xq4 := qx.cell 4
  have xq5 := qx.cell 5
  have xq6 := qx.cell 6
  have xq7 := qx.cell 7
  have xq8 := qx.cell 8
  have xq9 := qx.cell 9
  have xq10 := qx.cell 10
  simp only [List.getElem?_toArray, List.getElem?_cons_zero, List.getElem?_cons_succ] at xq0 xq1 xq2 xq3 xq4 xq5 xq6 xq7 xq8 xq9 xq10
  clear qx
  have qy : Blk w9 w4.heap.size 25 #[.string mac, .bool pr, .bool au, .bool am, .bool nu, .bool nm, .bool na, .slice U2 us.length uc2, .slice M2 ms.length mc2, .bool vo, .slice V2 X.length vc2] := ho7.get (show (w4.heap.size, (⟨mac, pr, au, am, nu, nm, na, U2, us, uc2, M2, ms, mc2, vo, V2, X, vc2⟩ : Fl)) ∈ _ by simp)
  have ly := qy.lt
  have yq0 := qy.cell 0
  have yq1 := qy.cell 1
  have yq2 := qy.cell 2
  have yq3 := qy.cell 3
  have yq4 := qy.cell 4
  have yq5 := qy.cell 5
  have yq6 := qy.cell 6
  have yq7 := qy.cell 7
  have yq8 := qy.cell 8
  have yq9 := qy.cell 9
  have yq10 := qy.cell 10
  simp only [List.getElem?_toArray, List.getElem?_cons_zero, List.getElem?_cons_succ] at yq0 yq1 yq2 yq3 yq4 yq5 yq6 yq7 yq8 yq9 yq10
  clear qy
  have qz : Blk w9 w5.heap.size 25 #[.string mac, .bool pr, .bool au, .bool am, .bool nu, .bool nm, .bool na, .slice U3 us.length uc3, .slice M3 ms.length mc3, .bool vo, .slice V3 Z.length vc3] := ho7.get (show (w5.heap.size, (⟨mac, pr, au, am, nu, nm, na, U3, us, uc3, M3, ms, mc3, vo, V3, Z, vc3⟩ : Fl)) ∈ _ by simp)
  have lz := qz.lt
  have zq0 := qz.cell 0
  have zq1 := qz.cell 1
  have zq2 := qz.cell 2
  have zq3 := qz.cell 3
  have zq4 := qz.cell 4
  have zq5 := qz.cell 5
  have zq6 := qz.cell 6
  have zq7 := qz.cell 7
  have zq8 := qz.cell 8
  have zq9 := qz.cell 9
  have zq10 := qz.cell 10
  simp only [List.getElem?_toArray, List.getElem?_cons_zero, List.getElem?_cons_succ] at zq0 zq1 zq2 zq3 zq4 zq5 zq6 zq7 zq8 zq9 zq10
  clear qz
  have qv : Blk w9 w7.heap.size 25 #[.string mac, .bool pr, .bool au, .bool am, .bool nu, .bool nm, .bool na, .slice U5 us.length uc5, .slice M5 ms.length mc5, .bool vo, .slice V5 Z.length vc5] := ho7.get (show (w7.heap.size, (⟨mac, pr, au, am, nu, nm, na, U5, us, uc5, M5, ms, mc5, vo, V5, Z, vc5⟩ : Fl)) ∈ _ by simp)
  have lv := qv.lt
  have vq0 := qv.cell 0
  have vq1 := qv.cell 1
  have vq2 := qv.cell 2
  have vq3 := qv.cell 3
  have vq4 := qv.cell 4
  have vq5 := qv.cell 5
  have vq6 := qv.cell 6
  have vq7 := qv.cell 7
  have vq8 := qv.cell 8
  have vq9 := qv.cell 9
  have vq10 := qv.cell 10
  simp only [List.getElem?_toArray, List.getElem?_cons_zero, List.getElem?_cons_succ] at vq0 vq1 vq2 vq3 vq4 vq5 vq6 vq7 vq8 vq9 vq10
  clear qv
  have qw : Blk w9 w8.heap.size 25 #[.string mac, .bool pr, .bool au, .bool am, .bool nu, .bool nm, .bool na, .slice U6 us.length uc6, .slice M6 ms.length mc6, .bool vo, .slice V6 Y.length vc6] := ho7.get (show (w8.heap.size, (⟨mac, pr, au, am, nu, nm, na, U6, us, uc6, M6, ms, mc6, vo, V6, Y, vc6⟩ : Fl)) ∈ _ by simp)
  have lw := qw.lt
  have wq0 := qw.cell 0
  have wq1 := qw.cell 1
  have wq2 := qw.cell 2
  have wq3 := qw.cell 3
  have wq4 := qw.cell 4
  have wq5 := qw.cell 5
  have wq6 := qw.cell 6
  have wq7 := qw.cell 7
  have wq8 := qw.cell 8
  have wq9 := qw.cell 9
  have wq10 := qw.cell 10
  simp only [List.getElem?_toArray, List.getElem?_cons_zero, List.getElem?_cons_succ] at wq0 wq1 wq2 wq3 wq4 wq5 wq6 wq7 wq8 wq9 wq10
  clear qw
  have S1 := HS.out [(w9.heap.size, (⟨mac, pr, au, am, nu, nm, na, U7, us, uc7, M7, ms, mc7, vo, V7, Y, vc7⟩ : Fl)), (w8.heap.size, (⟨mac, pr, au, am, nu, nm, na, U6, us, uc6, M6, ms, mc6, vo, V6, Y, vc6⟩ : Fl)), (w7.heap.size, (⟨mac, pr, au, am, nu, nm, na, U5, us, uc5, M5, ms, mc5, vo, V5, Z, vc5⟩ : Fl)), (w6.heap.size, (⟨mac, pr, au, am, nu, nm, na, U4, us, uc4, M4, ms, mc4, vo, V4, U9, vc4⟩ : Fl)), (w5.heap.size, (⟨mac, pr, au, am, nu, nm, na, U3, us, uc3, M3, ms, mc3, vo, V3, Z, vc3⟩ : Fl)), (w4.heap.size, (⟨mac, pr, au, am, nu, nm, na, U2, us, uc2, M2, ms, mc2, vo, V2, X, vc2⟩ : Fl)), (w3.heap.size, (⟨mac, pr, au, am, nu, nm, na, U1, us, uc1, M1, ms, mc1, vo, V1, X, vc1⟩ : Fl)), (w.heap.size, (⟨mac, pr, au, am, nu, nm, na, U, us, uc, M, ms, mc, vo, V, vs, vc⟩ : Fl))] (⟨mac, pr, au, am, nu, nm, na, U1, us, uc1, M1, ms, mc1, vo, V1, X, vc1⟩ : Fl) (⟨mac, pr, au, am, nu, nm, na, U2, us, uc2, M2, ms, mc2, vo, V2, X, vc2⟩ : Fl) w3.heap.size w4.heap.size _ hn7 (by simp) (by simp) ⟨rfl, rfl, rfl, rfl, rfl, rfl, rfl, rfl, rfl, rfl, rfl⟩
  simp only [Fl.val, Fl.cells] at S1
  have HS1 := Lib.hid S1
  clear S1
  go_wp2_with fail
  refine (HS1.out).mono ?_
  rintro e w10 ⟨rfl, hm1⟩
  clear xq0 xq1 xq2 xq3 xq4 xq5 xq6 xq7 xq8 xq9 xq10 lx yq0 yq1 yq2 yq3 yq4 yq5 yq6 yq7 yq8 yq9 yq10 ly zq0 zq1 zq2 zq3 zq4 zq5 zq6 zq7 zq8 zq9 zq10 lz vq0 vq1 vq2 vq3 vq4 vq5 vq6 vq7 vq8 vq9 vq10 lv wq0 wq1 wq2 wq3 wq4 wq5 wq6 wq7 wq8 wq9 wq10 lw ho7 HS1
  have qz : Blk w10 w5.heap.size 25 #[.string mac, .bool pr, .bool au, .bool am, .bool nu, .bool nm, .bool na, .slice U3 us.length uc3, .slice M3 ms.length mc3, .bool vo, .slice V3 Z.length vc3] := hm1.get (show (w5.heap.size, (⟨mac, pr, au, am, nu, nm, na, U3, us, uc3, M3, ms, mc3, vo, V3, Z, vc3⟩ : Fl)) ∈ _ by simp)
  have zq0 := qz.cell 0
  have zq1 := qz.cell 1
  have zq2 := qz.cell 2
  have zq3 := qz.cell 3
  have zq4 := qz.cell 4
  have zq5 := qz.cell 5
  have zq6 := qz.cell 6
  have zq7 := qz.cell 7
  have zq8 := qz.cell 8
  have zq9 := qz.cell 9
  have zq10 := qz.cell 10
  simp only [List.getElem?_toArray, List.getElem?_cons_zero, List.getElem?_cons_succ] at zq0 zq1 zq2 zq3 zq4 zq5 zq6 zq7 zq8 zq9 zq10
  clear qz
  have qv : Blk w10 w7.heap.size 25 #[.string mac, .bool pr, .bool au, .bool am, .bool nu, .bool nm, .bool na, .slice U5 us.length uc5, .slice M5 ms.length mc5, .bool vo, .slice V5 Z.length vc5] := hm1.get (show (w7.heap.size, (⟨mac, pr, au, am, nu, nm, na, U5, us, uc5, M5, ms, mc5, vo, V5, Z, vc5⟩ : Fl)) ∈ _ by simp)
  have vq0 := qv.cell 0
  have vq1 := qv.cell 1
  have vq2 := qv.cell 2
  have vq3 := qv.cell 3
  have vq4 := qv.cell 4
  have vq5 := qv.cell 5
  have vq6 := qv.cell 6
  have vq7 := qv.cell 7
  have vq8 := qv.cell 8
  have vq9 := qv.cell 9
  have vq10 := qv.cell 10
  simp only [List.getElem?_toArray, List.getElem?_cons_zero, List.getElem?_cons_succ] at vq0 vq1 vq2 vq3 vq4 vq5 vq6 vq7 vq8 vq9 vq10
  clear qv
  have S2 := HS.out [(w9.heap.size, (⟨mac, pr, au, am, nu, nm, na, U7, us, uc7, M7, ms, mc7, vo, V7, Y, vc7⟩ : Fl)), (w8.heap.size, (⟨mac, pr, au, am, nu, nm, na, U6, us, uc6, M6, ms, mc6, vo, V6, Y, vc6⟩ : Fl)), (w7.heap.size, (⟨mac, pr, au, am, nu, nm, na, U5, us, uc5, M5, ms, mc5, vo, V5, Z, vc5⟩ : Fl)), (w6.heap.size, (⟨mac, pr, au, am, nu, nm, na, U4, us, uc4, M4, ms, mc4, vo, V4, U9, vc4⟩ : Fl)), (w5.heap.size, (⟨mac, pr, au, am, nu, nm, na, U3, us, uc3, M3, ms, mc3, vo, V3, Z, vc3⟩ : Fl)), (w4.heap.size, (⟨mac, pr, au, am, nu, nm, na, U2, us, uc2, M2, ms, mc2, vo, V2, X, vc2⟩ : Fl)), (w3.heap.size, (⟨mac, pr, au, am, nu, nm, na, U1, us, uc1, M1, ms, mc1, vo, V1, X, vc1⟩ : Fl)), (w.heap.size, (⟨mac, pr, au, am, nu, nm, na, U, us, uc, M, ms, mc, vo, V, vs, vc⟩ : Fl))] (⟨mac, pr, au, am, nu, nm, na, U3, us, uc3, M3, ms, mc3, vo, V3, Z, vc3⟩ : Fl) (⟨mac, pr, au, am, nu, nm, na, U5, us, uc5, M5, ms, mc5, vo, V5, Z, vc5⟩ : Fl) w5.heap.size w7.heap.size _ hm1 (by simp) (by simp) ⟨rfl, rfl, rfl, rfl, rfl, rfl, rfl, rfl, rfl, rfl, rfl⟩
  simp only [Fl.val, Fl.cells] at S2
  have HS2 := Lib.hid S2
  clear S2
  go_wp2_with fail
  refine (HS2.out).mono ?_
  rintro e w11 ⟨rfl, hm2⟩
  clear zq0 zq1 zq2 zq3 zq4 zq5 zq6 zq7 zq8 zq9 zq10 vq0 vq1 vq2 vq3 vq4 vq5 vq6 vq7 vq8 vq9 vq10 hm1 HS2
  have qw : Blk w11 w8.heap.size 25 #[.string mac, .bool pr, .bool au, .bool am, .bool nu, .bool nm, .bool na, .slice U6 us.length uc6, .slice M6 ms.length mc6, .bool vo, .slice V6 Y.length vc6] := hm2.get (show (w8.heap.size, (⟨mac, pr, au, am, nu, nm, na, U6, us, uc6, M6, ms, mc6, vo, V6, Y, vc6⟩ : Fl)) ∈ _ by simp)
  have wq0 := qw.cell 0
  have wq1 := qw.cell 1
  have wq2 := qw.cell 2
  have wq3 := qw.cell 3
  have wq4 := qw.cell 4
  have wq5 := qw.cell 5
  have wq6 := qw.cell 6
  have wq7 := qw.cell 7
  have wq8 := qw.cell 8
  have wq9 := qw.cell 9
  have wq10 := qw.cell 10
  simp only [List.getElem?_toArray, List.getElem?_cons_zero, List.getElem?_cons_succ] at wq0 wq1 wq2 wq3 wq4 wq5 wq6 wq7 wq8 wq9 wq10
  clear qw
  have qo : Blk w11 w9.heap.size 25 #[.string mac, .bool pr, .bool au, .bool am, .bool nu, .bool nm, .bool na, .slice U7 us.length uc7, .slice M7 ms.length mc7, .bool vo, .slice V7 Y.length vc7] := hm2.get (show (w9.heap.size, (⟨mac, pr, au, am, nu, nm, na, U7, us, uc7, M7, ms, mc7, vo, V7, Y, vc7⟩ : Fl)) ∈ _ by simp)
  have oq0 := qo.cell 0
  have oq1 := qo.cell 1
  have oq2 := qo.cell 2
  have oq3 := qo.cell 3
  have oq4 := qo.cell 4
  have oq5 := qo.cell 5
  have oq6 := qo.cell 6
  have oq7 := qo.cell 7
  have oq8 := qo.cell 8
  have oq9 := qo.cell 9
  have oq10 := qo.cell 10
  simp only [List.getElem?_toArray, List.getElem?_cons_zero, List.getElem?_cons_succ] at oq0 oq1 oq2 oq3 oq4 oq5 oq6 oq7 oq8 oq9 oq10
  clear qo
  have S3 := HS.out [(w9.heap.size, (⟨mac, pr, au, am, nu, nm, na, U7, us, uc7, M7, ms, mc7, vo, V7, Y, vc7⟩ : Fl)), (w8.heap.size, (⟨mac, pr, au, am, nu, nm, na, U6, us, uc6, M6, ms, mc6, vo, V6, Y, vc6⟩ : Fl)), (w7.heap.size, (⟨mac, pr, au, am, nu, nm, na, U5, us, uc5, M5, ms, mc5, vo, V5, Z, vc5⟩ : Fl)), (w6.heap.size, (⟨mac, pr, au, am, nu, nm, na, U4, us, uc4, M4, ms, mc4, vo, V4, U9, vc4⟩ : Fl)), (w5.heap.size, (⟨mac, pr, au, am, nu, nm, na, U3, us, uc3, M3, ms, mc3, vo, V3, Z, vc3⟩ : Fl)), (w4.heap.size, (⟨mac, pr, au, am, nu, nm, na, U2, us, uc2, M2, ms, mc2, vo, V2, X, vc2⟩ : Fl)), (w3.heap.size, (⟨mac, pr, au, am, nu, nm, na, U1, us, uc1, M1, ms, mc1, vo, V1, X, vc1⟩ : Fl)), (w.heap.size, (⟨mac, pr, au, am, nu, nm, na, U, us, uc, M, ms, mc, vo, V, vs, vc⟩ : Fl))] (⟨mac, pr, au, am, nu, nm, na, U6, us, uc6, M6, ms, mc6, vo, V6, Y, vc6⟩ : Fl) (⟨mac, pr, au, am, nu, nm, na, U7, us, uc7, M7, ms, mc7, vo, V7, Y, vc7⟩ : Fl) w8.heap.size w9.heap.size _ hm2 (by simp) (by simp) ⟨rfl, rfl, rfl, rfl, rfl, rfl, rfl, rfl, rfl, rfl, rfl⟩
  simp only [Fl.val, Fl.cells] at S3
  have HS3 := Lib.hid S3
  clear S3
  go_wp2_with fail
  refine (HS3.out).mono ?_
  rintro e w12 ⟨rfl, hm3⟩
  clear wq0 wq1 wq2 wq3 wq4 wq5 wq6 wq7 wq8 wq9 wq10 oq0 oq1 oq2 oq3 oq4 oq5 oq6 oq7 oq8 oq9 oq10 hm2 HS3
  go_wp2_with fail
  refine (fixed_step hm3).mono ?_
  rintro e w13 ⟨rfl, hm4⟩
  go_wp2_with fail
  go_ret
  exact ⟨rfl, hm4.below⟩
set_option maxHeartbeats 1000000 in
theorem twice_bad (mac0 mac : ByteArray) (pr0 au0 am0 nu0 nm0 na0 vo0 pr au am nu nm na vo : Bool) (U0 M0 V0 U M V : Option Addr) (us0 ms0 us ms : List ByteArray) (vs0 vs : List Int) (uc0 mc0 vc0 uc mc vc : Nat) (a b XA XB N K : Int) (w : World) (hG : (⟨mac, pr, au, am, nu, nm, na, U, us, uc, M, ms, mc, vo, V, vs, vc⟩ : Fl).At w.heap.size w) (hl : (⟨mac, pr, au, am, nu, nm, na, U, us, uc, M, ms, mc, vo, V, vs, vc⟩ : Fl).Few)
    (ea : bits .and .i64 a 65535 = XA) (nA : Int.tmod XA 4095 = N) (xa0 : 0 ≤ XA) (xa1 : XA ≤ 65535) (eb : bits .and .i64 b 65535 = XB) (nB : Int.tmod XB 4095 = K) (xb0 : 0 ≤ XB) (xb1 : XB ≤ 65535)
    (AB : ∀ W, Calls Try.prog 9 #[.agg #[.string mac0, .bool pr0, .bool au0, .bool am0, .bool nu0, .bool nm0, .bool na0, .slice U0 us0.length uc0, .slice M0 ms0.length mc0, .bool vo0, .slice V0 vs0.length vc0]] W fun e w' => e = .returned (.agg #[.string mac, .bool pr, .bool au, .bool am, .bool nu, .bool nm, .bool na, .slice U us.length uc, .slice M ms.length mc, .bool vo, .slice V vs.length vc]) ∧ Below W.heap.size W w')
    (A1 : ∀ W, Vs w [(w.heap.size, ⟨mac, pr, au, am, nu, nm, na, U, us, uc, M, ms, mc, vo, V, vs, vc⟩)] W → Calls Try.prog 15 #[.agg #[.string mac, .bool pr, .bool au, .bool am, .bool nu, .bool nm, .bool na, .slice U us.length uc, .slice M ms.length mc, .bool vo, .slice V vs.length vc], .int .i64 N] W fun e w' => e = .returned (.tuple #[.agg #[.string ⟨#[]⟩, .bool false, .bool false, .bool false, .bool false, .bool false, .bool false, .slice none 0 0, .slice none 0 0, .bool false, .slice none 0 0], .int .i64 1]) ∧ Below W.heap.size W w') :
    Calls Try.prog 7 #[.agg #[.string mac0, .bool pr0, .bool au0, .bool am0, .bool nu0, .bool nm0, .bool na0, .slice U0 us0.length uc0, .slice M0 ms0.length mc0, .bool vo0, .slice V0 vs0.length vc0], .int .i64 a, .int .i64 b] w fun e w' => e = .returned (.bool true) ∧ Below w.heap.size w w' := by
  have _ := xa0; have _ := xa1; have _ := xb0; have _ := xb1
  have HB := Lib.hid AB
  have H1 := Lib.hid A1
  clear AB A1
  go_enter Try.func7, Try.ntmps7
  go_wp2_with fail
  refine (HB.out _).mono ?_
  rintro e w1 ⟨rfl, hq⟩
  have k1 : Blk w1 w.heap.size 25 #[.string mac0, .bool pr0, .bool au0, .bool am0, .bool nu0, .bool nm0, .bool na0, .slice U0 us0.length uc0, .slice M0 ms0.length mc0, .bool vo0, .slice V0 vs0.length vc0] := (Blk.new w 25 _).next hq
  have c0 := k1.cell 0
  have c1 := k1.cell 1
  have c2 := k1.cell 2
  have c3 := k1.cell 3
  have c4 := k1.cell 4
  have c5 := k1.cell 5
  have c6 := k1.cell 6
  have c7 := k1.cell 7
  have c8 := k1.cell 8
  have c9 := k1.cell 9
  have c10 := k1.cell 10
  simp only [List.getElem?_toArray, List.getElem?_cons_zero, List.getElem?_cons_succ] at c0 c1 c2 c3 c4 c5 c6 c7 c8 c9 c10
  have f0 := k1.frozen 0
  have f1 := k1.frozen 1
  have f2 := k1.frozen 2
  have f3 := k1.frozen 3
  have f4 := k1.frozen 4
  have f5 := k1.frozen 5
  have f6 := k1.frozen 6
  have f7 := k1.frozen 7
  have f8 := k1.frozen 8
  have f9 := k1.frozen 9
  have f10 := k1.frozen 10
  obtain ⟨w2, hw2⟩ : ∃ w2, (((((((((((w1.setCell ⟨w.heap.size, 0, none⟩ (.string mac)).setCell ⟨w.heap.size, 1, none⟩ (.bool pr)).setCell ⟨w.heap.size, 2, none⟩ (.bool au)).setCell ⟨w.heap.size, 3, none⟩ (.bool am)).setCell ⟨w.heap.size, 4, none⟩ (.bool nu)).setCell ⟨w.heap.size, 5, none⟩ (.bool nm)).setCell ⟨w.heap.size, 6, none⟩ (.bool na)).setCell ⟨w.heap.size, 7, none⟩ (.slice U us.length uc)).setCell ⟨w.heap.size, 8, none⟩ (.slice M ms.length mc)).setCell ⟨w.heap.size, 9, none⟩ (.bool vo)).setCell ⟨w.heap.size, 10, none⟩ (.slice V vs.length vc)) = w2 := ⟨_, rfl⟩
  have hv : Vs w [(w.heap.size, ⟨mac, pr, au, am, nu, nm, na, U, us, uc, M, ms, mc, vo, V, vs, vc⟩)] w2 := hw2 ▸ vs_begin (F := ⟨mac0, pr0, au0, am0, nu0, nm0, na0, U0, us0, uc0, M0, ms0, mc0, vo0, V0, vs0, vc0⟩) (G := ⟨mac, pr, au, am, nu, nm, na, U, us, uc, M, ms, mc, vo, V, vs, vc⟩) hG hl hq
  have HW := Lib.hid hw2
  have k2 : Blk w2 w.heap.size 25 #[.string mac, .bool pr, .bool au, .bool am, .bool nu, .bool nm, .bool na, .slice U us.length uc, .slice M ms.length mc, .bool vo, .slice V vs.length vc] := hv.get (show (w.heap.size, (⟨mac, pr, au, am, nu, nm, na, U, us, uc, M, ms, mc, vo, V, vs, vc⟩ : Fl)) ∈ _ by simp)
  clear hw2 k1 hq
  have d0 := k2.cell 0
  have d1 := k2.cell 1
  have d2 := k2.cell 2
  have d3 := k2.cell 3
  have d4 := k2.cell 4
  have d5 := k2.cell 5
  have d6 := k2.cell 6
  have d7 := k2.cell 7
  have d8 := k2.cell 8
  have d9 := k2.cell 9
  have d10 := k2.cell 10
  simp only [List.getElem?_toArray, List.getElem?_cons_zero, List.getElem?_cons_succ] at d0 d1 d2 d3 d4 d5 d6 d7 d8 d9 d10
  clear k2
  go_wp2_with (rw [HW.out]; clear c0 c1 c2 c3 c4 c5 c6 c7 c8 c9 c10 f0 f1 f2 f3 f4 f5 f6 f7 f8 f9 f10 HW)
  refine (H1.out _ hv).mono ?_
  rintro e w3 ⟨rfl, hq⟩
  have hv3 := (hv.next hq).alloc (.cells #[.string ⟨#[]⟩, .bool false, .bool false, .bool false, .bool false, .bool false, .bool false, .slice none 0 0, .slice none 0 0, .bool false, .slice none 0 0] 25)
  clear hq hv d0 d1 d2 d3 d4 d5 d6 d7 d8 d9 d10
  go_wp2_with fail
  refine (fixed_step hv3).mono ?_
  rintro e w4 ⟨rfl, hv4⟩
  go_wp2_with fail
  go_ret
  exact ⟨rfl, hv4.below⟩
theorem filterTwice_any (F : Fl) (a b : Int) (w : World) (hF : F.At w.heap.size w) (hFit : F.Fit) :
    Calls Try.prog 7 #[F.val, .int .i64 a, .int .i64 b] w fun e w' => e = .returned (.bool true) ∧ Below w.heap.size w w' := by
  have AB := fun W => bound_any F W hFit
  have hG := bnd_at hF
  have hl := bnd_few F
  have hb60 : (bnd F).vs.length ≤ 60 := by show (F.vs.take 60).length ≤ 60; rw [List.length_take]; omega
  generalize bnd F = G at *
  obtain ⟨XA, N, ea, nA, hN, xa0, xa1⟩ := low12 a
  obtain ⟨XB, K, eb, nB, hK, xb0, xb1⟩ := low12 b
  by_cases ha : ascB G.vs = true
  · have hs := ((ascB_iff G.vs).1 ha).2
    have hX := addL_ok ha hN
    have hU := addL_ok ha hK
    have hY := delL_ok (x := N) hX
    have lX := addL_length G.vs N
    have lU := addL_length G.vs K
    have lZ := addL_length (addL G.vs N) K
    have lY := delL_length (addL G.vs N) N
    refine twice_walk F.mac G.mac F.pr F.au F.am F.nu F.nm F.na F.vo G.pr G.au G.am G.nu G.nm G.na G.vo F.U F.M F.V G.U G.M G.V F.us F.ms G.us G.ms F.vs G.vs F.uc F.mc F.vc G.uc G.mc G.vc a b XA XB N K (addL G.vs N) (addL (addL G.vs N) K) (addL G.vs K) (delL (addL G.vs N) N) w hG hl ea nA xa0 xa1 eb nB xb0 xb1 AB ?_ ?_ ?_ ?_ ?_ ?_ ?_ ?_
    · intro L F g W h hm e
      exact add_step h hm hN (by rw [e]; exact ha) (by rw [e]) (by omega)
    · intro L F g W h hm e
      exact add_step h hm hN (by rw [e]; exact hX) (by rw [e]; exact add_twice hs) (by omega)
    · intro L F g W h hm e
      exact add_step h hm hK (by rw [e]; exact hX) (by rw [e]) (by omega)
    · intro L F g W h hm e
      exact add_step h hm hK (by rw [e]; exact ha) (by rw [e]) (by omega)
    · intro L F g W h hm e
      exact add_step h hm hN (by rw [e]; exact hU) (by rw [e]; exact (add_swap hs).symm) (by omega)
    · intro L F g W h hm e
      exact del_step h hm hN (by rw [e]; exact hX) (by rw [e]) (by omega)
    · intro L F g W h hm e
      exact del_step h hm hN (by rw [e]; exact hY) (by rw [e]; exact del_twice (addL_asc _ _ hs)) (by omega)
    · intro L F G g k W h hm hk hS
      exact same_step h hm hk hS
  · refine twice_bad F.mac G.mac F.pr F.au F.am F.nu F.nm F.na F.vo G.pr G.au G.am G.nu G.nm G.na G.vo F.U F.M F.V G.U G.M G.V F.us F.ms G.us G.ms F.vs G.vs F.uc F.mc F.vc G.uc G.mc G.vc a b XA XB N K w hG hl ea nA xa0 xa1 eb nB xb0 xb1 AB ?_
    intro W h
    exact add_bad G N W.heap.size W (h.at (show (w.heap.size, G) ∈ _ from List.mem_singleton.2 rfl)) (Nat.le_refl _) hl (.inr (by simpa using ha))

set_option maxRecDepth 100000 in
theorem filterTwice_lifted (os : Os) (started : os.Started) (H : Type) (enc : TypeId × Value → H) :
    ReturnsInHanded {} Try.checked os 7 .any (Rows.filterTwiceSpec.pre6 enc Try.prog Try.f7 Rows.filterTwiceRow.domain false) (Rows.filterTwiceSpec.post enc Try.prog Try.f7 false true false false) := by
  have e : Try.f7.params.toList = [25, 3, 3] := by rw [Try.params7]
  refine law_of_walk (C := Try.checked) (tb := 4) H enc Try.own started (by kernel_rfl) Try.func7 Try.laidOut rfl rfl Try.underlying4 ?_ ?_
    (ChangeSpec.witness6 (enc := enc) (C := Try.checked) false ⟨#[], #[.agg #[.string ByteArray.empty, .bool false, .bool false, .bool false, .bool false, .bool false, .bool false, .slice none 0 0, .slice none 0 0, .bool false, .slice none 0 0], .int .i64 0, .int .i64 0], []⟩ 8 (by kernel_rfl) (by kernel_rfl) (by kernel_rfl) (by kernel_rfl)) ?_
  · rw [e]
    intro t ht
    simp only [List.mem_cons, List.not_mem_nil, or_false] at ht
    rcases ht with rfl | rfl | rfl <;> exact ⟨by kernel_rfl, of_decide_eq_true (by kernel_rfl)⟩
  · intro ds hds
    rw [e] at hds
    match ds, hds with
    | [d0, d1, d2], _ => rfl
  · intro W base args ds p hval0 hA0 hsz0
    have hval : ∀ (j : Nat) t v, Try.f7.params[j]? = some t → args[j]? = some v → Value.okWide Try.prog W .any base t v := hval0
    have hA : DataW.TrodAll enc Try.prog W 0 (fun _ => true) true Try.f7.params.toList args.toList ds p := hA0
    have hsz : (DataW.weightsEach Try.prog Try.f7.params.toList ds).all (· ≤ reachBytes) = true := hsz0
    rw [Try.params7] at hA hval hsz
    obtain ⟨v0, v1, v2, d0, d1, d2, p0, p1, p2, rfl, rfl, rfl, h0, h1, h2⟩ := trodAll_three hA
    obtain ⟨F, rfl, hF, hFit⟩ := open_filter (hval 0 25 v0 rfl rfl) h0
    obtain ⟨x1, rfl, rfl, rfl, k1⟩ := open_int Try.underlying3 (hval 1 3 v1 rfl rfl) h1
    have i1 := bounds_i64 k1
    obtain ⟨x2, rfl, rfl, rfl, k2⟩ := open_int Try.underlying3 (hval 2 3 v2 rfl rfl) h2
    have i2 := bounds_i64 k2
    exact filterTwice_any F x1 x2 W hF hFit

theorem filterTwice_holds : Rows.FilterTwiceSaid :=
  OpenClaim.holds_of_wide 7 Try.f7 rfl rfl rfl rfl rfl rfl rfl ⟨rfl, rfl, rfl, rfl, rfl⟩ rfl rfl rfl rfl rfl (by kernel_rfl) Try.func7 (by kernel_rfl)
    (of_decide_eq_true (by kernel_rfl)) (by unfold Func.isWrapper; first | (rw [if_pos (by decide +kernel)]; kernel_rfl) | (rw [if_neg (by decide +kernel)]; exact ⟨rfl, rfl⟩))
    (fun os started H enc _ => filterTwice_lifted os started H enc)
end Go.Proofs.Ytboinnejkghfiaa
