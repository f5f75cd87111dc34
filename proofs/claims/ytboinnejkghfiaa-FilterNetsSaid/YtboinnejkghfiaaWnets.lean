/-
  FilterNets: a network that was added is there, and admitted; taken away again it is not there; all others stay.
-/
import Derived.Test.YtboinnejkghfiaaVp
import Derived.Test.YtboinnejkghfiaaMt
import Derived.BigRegion
import Derived.Laws.BytesArg
namespace Go.Proofs.Ytboinnejkghfiaa
open Go.Joins Go.ChangeShapes Go.WideShapes Go.ChangeAt Go.RowKit Go.Deep
open Go.ChangeMaps (open_string)

theorem vs_begin {F G : Fl} {w w1 : World} (hG : G.At w.heap.size w) (hl : G.Few) (hq : Below (w.alloc (.cells F.cells 25)).heap.size (w.alloc (.cells F.cells 25)) w1) :
    Vs w [(w.heap.size, G)] (((((((((((w1.setCell ⟨w.heap.size, 0, none⟩ (.string G.mac)).setCell ⟨w.heap.size, 1, none⟩ (.bool G.pr)).setCell ⟨w.heap.size, 2, none⟩ (.bool G.au)).setCell ⟨w.heap.size, 3, none⟩ (.bool G.am)).setCell ⟨w.heap.size, 4, none⟩ (.bool G.nu)).setCell ⟨w.heap.size, 5, none⟩ (.bool G.nm)).setCell ⟨w.heap.size, 6, none⟩ (.bool G.na)).setCell ⟨w.heap.size, 7, none⟩ (.slice G.U G.us.length G.uc)).setCell ⟨w.heap.size, 8, none⟩ (.slice G.M G.ms.length G.mc)).setCell ⟨w.heap.size, 9, none⟩ (.bool G.vo)).setCell ⟨w.heap.size, 10, none⟩ (.slice G.V G.vs.length G.vc)) := by
  have h1 := ba (b0 w) (.cells F.cells 25)
  have h2 := bt2 h1 hq
  have hb := below_set11 h2 (Nat.le_refl _) (.string G.mac) (.bool G.pr) (.bool G.au) (.bool G.am) (.bool G.nu) (.bool G.nm) (.bool G.na) (.slice G.U G.us.length G.uc) (.slice G.M G.ms.length G.mc) (.bool G.vo) (.slice G.V G.vs.length G.vc)
  have k := ((Blk.new w 25 F.cells).next hq).set11 (.string G.mac) (.bool G.pr) (.bool G.au) (.bool G.am) (.bool G.nu) (.bool G.nm) (.bool G.na) (.slice G.U G.us.length G.uc) (.slice G.M G.ms.length G.mc) (.bool G.vo) (.slice G.V G.vs.length G.vc)
  refine ⟨hb, fun p hp => ?_, fun p hp q hq' => ?_⟩
  · obtain rfl : p = (w.heap.size, G) := by simpa using hp
    exact ⟨Nat.le_refl _, k, (hG.far (Nat.le_refl _) hb).more hb.size, hl⟩
  · obtain rfl : p = (w.heap.size, G) := by simpa using hp
    obtain rfl : q = (w.heap.size, G) := by simpa using hq'
    exact hG.off (Nat.le_refl _)
theorem rd_unalloc {A : Option Addr} {xs : List Value} {w : World} {o : Obj} (h : Rd (w.alloc o).heap.size A xs (w.alloc o)) (hn : ∀ b off, 0 < xs.length → A = some ⟨b, off, none⟩ → b ≠ w.heap.size) : Rd w.heap.size A xs w := by
  intro hl
  obtain ⟨b, off, hA, hb, hc⟩ := h hl
  have hne := hn b off hl hA
  have hlt : b < w.heap.size := by simp at hb; omega
  exact ⟨b, off, hA, hlt, fun i hi => (World.cell?_of_block (w := w) (Below.heap_alloc w o b hlt)).symm.trans (hc i hi)⟩
theorem at_unalloc {F : Fl} {w : World} {o : Obj} (h : F.At (w.alloc o).heap.size (w.alloc o)) (hn : F.Off w.heap.size) : F.At w.heap.size w :=
  ⟨rd_unalloc h.u (fun b off hl hA => hn.1 b off (by simpa using hl) hA), rd_unalloc h.m (fun b off hl hA => hn.2.1 b off (by simpa using hl) hA), rd_unalloc h.v (fun b off hl hA => hn.2.2 b off (by simpa using hl) hA)⟩
theorem two_bytes_drew (W : World) (a b : Int) : (convert 39 9 (.slice (some ⟨W.heap.size, 0, none⟩) 2 2)).run Try.prog (W.alloc (.cells #[.int .u8 a, .int .u8 b] 5)).drew = .ok (.string (strOfNums [a, b])) (W.alloc (.cells #[.int .u8 a, .int .u8 b] 5)).drew := by
  refine run_convert_bytes_arg _ 39 5 Try.underlying39 Try.underlying5 W.heap.size 0 2 2 [a, b] rfl ?_ 9 Try.underlying9
  intro i hi
  match i, hi with
  | 0, _ => show (W.alloc _).cell? _ = _; simp
  | 1, _ => show (W.alloc _).cell? _ = _; simp
set_option maxRecDepth 100000 in
set_option maxHeartbeats 8000000 in
theorem nets_walk (mac0 mac : ByteArray) (pr0 au0 am0 nu0 nm0 na0 vo0 pr au am nu nm na vo : Bool) (U0 M0 V0 U M V : Option Addr) (us0 ms0 us ms : List ByteArray) (vs0 vs : List Int) (uc0 mc0 vc0 uc mc vc : Nat) (n XA N : Int) (X Y : List Int) (body S y T : ByteArray) (w : World) (hG : (⟨mac, pr, au, am, nu, nm, na, U, us, uc, M, ms, mc, vo, V, vs, vc⟩ : Fl).At w.heap.size w) (hl : (⟨mac, pr, au, am, nu, nm, na, U, us, uc, M, ms, mc, vo, V, vs, vc⟩ : Fl).Few)
    (ea : bits .and .i64 n 65535 = XA) (nA : Int.tmod XA 4095 = N) (xa0 : 0 ≤ XA) (xa1 : XA ≤ 65535) (n0 : 0 ≤ N) (n1 : N ≤ 4094) (hy : body.extract 0 (min body.size 500) = y) (eT : Hid (strOfNums [N / 256, N % 256] = T)) (hs1 : T.size ≤ 2) (hs2 : y.size ≤ 500) (hXY : Y.length + 1 = X.length) (hX100 : X.length ≤ 100)
    (hS : Hid (((⟨#[65, 66, 67, 68, 69, 70, 71, 72, 73, 74, 75, 76, 129, 0]⟩ : ByteArray) ++ T) ++ (⟨#[8, 0]⟩ : ByteArray) ++ y = S))
    (AB : ∀ W, Calls Try.prog 9 #[.agg #[.string mac0, .bool pr0, .bool au0, .bool am0, .bool nu0, .bool nm0, .bool na0, .slice U0 us0.length uc0, .slice M0 ms0.length mc0, .bool vo0, .slice V0 vs0.length vc0]] W fun e w' => e = .returned (.agg #[.string mac, .bool pr, .bool au, .bool am, .bool nu, .bool nm, .bool na, .slice U us.length uc, .slice M ms.length mc, .bool vo, .slice V vs.length vc]) ∧ Below W.heap.size W w')
    (A1 : ∀ (L : List (Nat × Fl)) (F : Fl) (g : Nat) W, Vs w L W → (g, F) ∈ L → F.vs = vs → Calls Try.prog 15 #[F.val, .int .i64 N] W (StepP w L F X))
    (A2 : ∀ (L : List (Nat × Fl)) (F : Fl) (g : Nat) W, Vs w L W → (g, F) ∈ L → F.vs = X → Calls Try.prog 17 #[F.val, .int .i64 N] W (StepP w L F Y))
    (D1 : ∀ (L : List (Nat × Fl)) (F : Fl) (g : Nat) W, Vs w L W → (g, F) ∈ L → F.vs = X → F.vo = true → F.pr = true → Calls Try.prog 13 #[F.val, .string S] W fun e w' => e = .returned (.bool true) ∧ Vs w L w')
    (D2 : ∀ (L : List (Nat × Fl)) (F : Fl) (g : Nat) W, Vs w L W → (g, F) ∈ L → F.vs = Y → F.vo = true → F.pr = true → Calls Try.prog 13 #[F.val, .string S] W fun e w' => e = .returned (.bool false) ∧ Vs w L w')
    (N1 : ∀ (L : List (Nat × Fl)) (F : Fl) (g : Nat) W, Vs w L W → (g, F) ∈ L → F.vs = X → ∀ v : Int, v ∈ vs → Calls Try.prog 19 #[.slice F.V F.vs.length F.vc, .int .i64 v] W fun e w' => e = .returned (.bool true) ∧ w' = W)
    (N2 : ∀ (L : List (Nat × Fl)) (F : Fl) (g : Nat) W, Vs w L W → (g, F) ∈ L → F.vs = Y → ∀ v : Int, v ∈ vs → v ≠ N → Calls Try.prog 19 #[.slice F.V F.vs.length F.vc, .int .i64 v] W fun e w' => e = .returned (.bool true) ∧ w' = W) :
    Calls Try.prog 6 #[.agg #[.string mac0, .bool pr0, .bool au0, .bool am0, .bool nu0, .bool nm0, .bool na0, .slice U0 us0.length uc0, .slice M0 ms0.length mc0, .bool vo0, .slice V0 vs0.length vc0], .int .i64 n, .string body] w fun e w' => e = .returned (.bool true) ∧ Below w.heap.size w w' := by
  have _ := xa0; have _ := xa1
  have HB := Lib.hid AB
  have H1 := Lib.hid A1
  have H2 := Lib.hid A2
  have HD1 := Lib.hid D1
  have HD2 := Lib.hid D2
  have HN1 := Lib.hid N1
  have HN2 := Lib.hid N2
  clear AB A1 A2 D1 D2 N1 N2
  have HXY := Lib.hid hXY
  have hvl : vs.length ≤ 100 := hl.v
  clear hXY
  go_enter Try.func6, Try.ntmps6
  go_wp2_with fail
  refine (HB.out _).mono ?_
  rintro e w1 ⟨rfl, hq⟩
  have k1 : Blk w1 w.heap.size 25 #[.string mac0, .bool pr0, .bool au0, .bool am0, .bool nu0, .bool nm0, .bool na0, .slice U0 us0.length uc0, .slice M0 ms0.length mc0, .bool vo0, .slice V0 vs0.length vc0] := (Blk.new w 25 _).next hq
  have c0 := k1.cell 0
  have c1 := k1.cell 1
  have c2 := k1.cell 2
  have c3 := k1.cell 3
  have c4 := k1.cell 4
  have c5 := k1.cell 5
  have c6 := k1.cell 6
  have c7 := k1.cell 7
  have c8 := k1.cell 8
  have c9 := k1.cell 9
  have c10 := k1.cell 10
  simp only [List.getElem?_toArray, List.getElem?_cons_zero, List.getElem?_cons_succ] at c0 c1 c2 c3 c4 c5 c6 c7 c8 c9 c10
  have f0 := k1.frozen 0
  have f1 := k1.frozen 1
  have f2 := k1.frozen 2
  have f3 := k1.frozen 3
  have f4 := k1.frozen 4
  have f5 := k1.frozen 5
  have f6 := k1.frozen 6
  have f7 := k1.frozen 7
  have f8 := k1.frozen 8
  have f9 := k1.frozen 9
  have f10 := k1.frozen 10
  obtain ⟨w2, hw2⟩ : ∃ w2, (((((((((((w1.setCell ⟨w.heap.size, 0, none⟩ (.string mac)).setCell ⟨w.heap.size, 1, none⟩ (.bool pr)).setCell ⟨w.heap.size, 2, none⟩ (.bool au)).setCell ⟨w.heap.size, 3, none⟩ (.bool am)).setCell ⟨w.heap.size, 4, none⟩ (.bool nu)).setCell ⟨w.heap.size, 5, none⟩ (.bool nm)).setCell ⟨w.heap.size, 6, none⟩ (.bool na)).setCell ⟨w.heap.size, 7, none⟩ (.slice U us.length uc)).setCell ⟨w.heap.size, 8, none⟩ (.slice M ms.length mc)).setCell ⟨w.heap.size, 9, none⟩ (.bool vo)).setCell ⟨w.heap.size, 10, none⟩ (.slice V vs.length vc)) = w2 := ⟨_, rfl⟩
  have hv : Vs w [(w.heap.size, ⟨mac, pr, au, am, nu, nm, na, U, us, uc, M, ms, mc, vo, V, vs, vc⟩)] w2 := hw2 ▸ vs_begin (F := ⟨mac0, pr0, au0, am0, nu0, nm0, na0, U0, us0, uc0, M0, ms0, mc0, vo0, V0, vs0, vc0⟩) (G := ⟨mac, pr, au, am, nu, nm, na, U, us, uc, M, ms, mc, vo, V, vs, vc⟩) hG hl hq
  have HW := Lib.hid hw2
  have k2 : Blk w2 w.heap.size 25 #[.string mac, .bool pr, .bool au, .bool am, .bool nu, .bool nm, .bool na, .slice U us.length uc, .slice M ms.length mc, .bool vo, .slice V vs.length vc] := hv.get (show (w.heap.size, (⟨mac, pr, au, am, nu, nm, na, U, us, uc, M, ms, mc, vo, V, vs, vc⟩ : Fl)) ∈ _ by simp)
  clear hw2 k1 hq
  have d0 := k2.cell 0
  have d1 := k2.cell 1
  have d2 := k2.cell 2
  have d3 := k2.cell 3
  have d4 := k2.cell 4
  have d5 := k2.cell 5
  have d6 := k2.cell 6
  have d7 := k2.cell 7
  have d8 := k2.cell 8
  have d9 := k2.cell 9
  have d10 := k2.cell 10
  simp only [List.getElem?_toArray, List.getElem?_cons_zero, List.getElem?_cons_succ] at d0 d1 d2 d3 d4 d5 d6 d7 d8 d9 d10
  clear k2
  have C1 := H1.out [(w.heap.size, (⟨mac, pr, au, am, nu, nm, na, U, us, uc, M, ms, mc, vo, V, vs, vc⟩ : Fl))] (⟨mac, pr, au, am, nu, nm, na, U, us, uc, M, ms, mc, vo, V, vs, vc⟩ : Fl) w.heap.size _ hv (by simp) rfl
  simp only [Fl.val, Fl.cells] at C1
  have HC1 := Lib.hid C1
  clear C1
  go_wp2_with (rw [HW.out]; clear c0 c1 c2 c3 c4 c5 c6 c7 c8 c9 c10 f0 f1 f2 f3 f4 f5 f6 f7 f8 f9 f10 HW)
  refine (HC1.out).mono ?_
  rintro e w3 ⟨U1, uc1, M1, mc1, V1, vc1, rfl, ho1, hn1⟩
  clear d0 d1 d2 d3 d4 d5 d6 d7 d8 d9 d10 HC1
  have ho1x := ho1
  clear ho1
  have C2 := H2.out [(w3.heap.size, (⟨mac, pr, au, am, nu, nm, na, U1, us, uc1, M1, ms, mc1, vo, V1, X, vc1⟩ : Fl)), (w.heap.size, (⟨mac, pr, au, am, nu, nm, na, U, us, uc, M, ms, mc, vo, V, vs, vc⟩ : Fl))] (⟨mac, pr, au, am, nu, nm, na, U1, us, uc1, M1, ms, mc1, vo, V1, X, vc1⟩ : Fl) w3.heap.size _ hn1 (by simp) rfl
  simp only [Fl.val, Fl.cells] at C2
  have HC2 := Lib.hid C2
  clear C2
  go_wp2_with fail
  refine (HC2.out).mono ?_
  rintro e w4 ⟨U2, uc2, M2, mc2, V2, vc2, rfl, ho2, hn2⟩
  clear HC2
  have la := ho2.lt (show (w3.heap.size, (⟨mac, pr, au, am, nu, nm, na, U1, us, uc1, M1, ms, mc1, vo, V1, X, vc1⟩ : Fl)) ∈ _ by simp)
  have l0 := ho2.lt (show (w.heap.size, (⟨mac, pr, au, am, nu, nm, na, U, us, uc, M, ms, mc, vo, V, vs, vc⟩ : Fl)) ∈ _ by simp)
  have l1 := hn1.lt (show (w.heap.size, (⟨mac, pr, au, am, nu, nm, na, U, us, uc, M, ms, mc, vo, V, vs, vc⟩ : Fl)) ∈ _ by simp)
  have l1 : w.heap.size < w3.heap.size := (ho1x).lt (show (w.heap.size, (⟨mac, pr, au, am, nu, nm, na, U, us, uc, M, ms, mc, vo, V, vs, vc⟩ : Fl)) ∈ _ by simp)
  have hva : Vs w [(w3.heap.size, (⟨mac, pr, au, am, nu, nm, na, U1, us, uc1, M1, ms, mc1, true, V1, X, vc1⟩ : Fl)), (w.heap.size, (⟨mac, pr, au, am, nu, nm, na, U, us, uc, M, ms, mc, vo, V, vs, vc⟩ : Fl))] (w4.setCell ⟨w3.heap.size, 9, none⟩ (.bool true)) := by
    refine ho2.put (g := w3.heap.size) (i := 9) (u := .bool true) (F := (⟨mac, pr, au, am, nu, nm, na, U1, us, uc1, M1, ms, mc1, vo, V1, X, vc1⟩ : Fl)) (G := (⟨mac, pr, au, am, nu, nm, na, U1, us, uc1, M1, ms, mc1, true, V1, X, vc1⟩ : Fl)) (by simp) rfl ⟨rfl, rfl, rfl, rfl, rfl, rfl⟩ (fun p hp => ?_)
    simp only [List.mem_cons, List.not_mem_nil, or_false] at hp
    rcases hp with rfl | rfl
    · exact .inl rfl
    · exact .inr ⟨by simp, by show w.heap.size ≠ w3.heap.size; omega⟩
  have hvb : Vs w [(w3.heap.size, (⟨mac, true, au, am, nu, nm, na, U1, us, uc1, M1, ms, mc1, true, V1, X, vc1⟩ : Fl)), (w.heap.size, (⟨mac, pr, au, am, nu, nm, na, U, us, uc, M, ms, mc, vo, V, vs, vc⟩ : Fl))] ((w4.setCell ⟨w3.heap.size, 9, none⟩ (.bool true)).setCell ⟨w3.heap.size, 1, none⟩ (.bool true)) := by
    refine hva.put (g := w3.heap.size) (i := 1) (u := .bool true) (F := (⟨mac, pr, au, am, nu, nm, na, U1, us, uc1, M1, ms, mc1, true, V1, X, vc1⟩ : Fl)) (G := (⟨mac, true, au, am, nu, nm, na, U1, us, uc1, M1, ms, mc1, true, V1, X, vc1⟩ : Fl)) (by simp) rfl ⟨rfl, rfl, rfl, rfl, rfl, rfl⟩ (fun p hp => ?_)
    simp only [List.mem_cons, List.not_mem_nil, or_false] at hp
    rcases hp with rfl | rfl
    · exact .inl rfl
    · exact .inr ⟨by simp, by show w.heap.size ≠ w3.heap.size; omega⟩
  have hsz : ((w4.setCell ⟨w3.heap.size, 9, none⟩ (.bool true)).setCell ⟨w3.heap.size, 1, none⟩ (.bool true)).heap.size = w4.heap.size := by rw [setCell_size, setCell_size]
  have hBat := ho2
  have hvb4 : (⟨mac, true, au, am, nu, nm, na, U2, us, uc2, M2, ms, mc2, true, V2, Y, vc2⟩ : Fl).At w4.heap.size ((w4.setCell ⟨w3.heap.size, 9, none⟩ (.bool true)).setCell ⟨w3.heap.size, 1, none⟩ (.bool true)) := by
    have hat0 : (⟨mac, true, au, am, nu, nm, na, U2, us, uc2, M2, ms, mc2, true, V2, Y, vc2⟩ : Fl).At w4.heap.size w4 := by
      have h := hn2.at (show (w4.heap.size, (⟨mac, pr, au, am, nu, nm, na, U2, us, uc2, M2, ms, mc2, vo, V2, Y, vc2⟩ : Fl)) ∈ _ by simp)
      have ho := hn2.off (w4.heap.size, (⟨mac, pr, au, am, nu, nm, na, U2, us, uc2, M2, ms, mc2, vo, V2, Y, vc2⟩ : Fl)) (by simp) (w4.heap.size, (⟨mac, pr, au, am, nu, nm, na, U2, us, uc2, M2, ms, mc2, vo, V2, Y, vc2⟩ : Fl)) (by simp)
      exact at_unalloc (F := (⟨mac, true, au, am, nu, nm, na, U2, us, uc2, M2, ms, mc2, true, V2, Y, vc2⟩ : Fl)) ⟨h.u, h.m, h.v⟩ ho
    have hoff : (⟨mac, true, au, am, nu, nm, na, U2, us, uc2, M2, ms, mc2, true, V2, Y, vc2⟩ : Fl).Off w3.heap.size := hn2.off (w4.heap.size, (⟨mac, pr, au, am, nu, nm, na, U2, us, uc2, M2, ms, mc2, vo, V2, Y, vc2⟩ : Fl)) (by simp) (w3.heap.size, (⟨mac, pr, au, am, nu, nm, na, U1, us, uc1, M1, ms, mc1, vo, V1, X, vc1⟩ : Fl)) (by simp)
    exact (hat0.set hoff).set hoff
  have qa : Blk w4 w3.heap.size 25 #[.string mac, .bool pr, .bool au, .bool am, .bool nu, .bool nm, .bool na, .slice U1 us.length uc1, .slice M1 ms.length mc1, .bool vo, .slice V1 X.length vc1] := ho2.get (show (w3.heap.size, (⟨mac, pr, au, am, nu, nm, na, U1, us, uc1, M1, ms, mc1, vo, V1, X, vc1⟩ : Fl)) ∈ _ by simp)
  have x0 := qa.cell 0
  have x1 := qa.cell 1
  have x2 := qa.cell 2
  have x3 := qa.cell 3
  have x4 := qa.cell 4
  have x5 := qa.cell 5
  have x6 := qa.cell 6
  have x7 := qa.cell 7
  have x8 := qa.cell 8
  have x9 := qa.cell 9
  have x10 := qa.cell 10
  simp only [List.getElem?_toArray, List.getElem?_cons_zero, List.getElem?_cons_succ] at x0 x1 x2 x3 x4 x5 x6 x7 x8 x9 x10
  have y0 := qa.frozen 0
  have y1 := qa.frozen 1
  have y2 := qa.frozen 2
  have y3 := qa.frozen 3
  have y4 := qa.frozen 4
  have y5 := qa.frozen 5
  have y6 := qa.frozen 6
  have y7 := qa.frozen 7
  have y8 := qa.frozen 8
  have y9 := qa.frozen 9
  have y10 := qa.frozen 10
  clear qa
  go_wp2_with fail
  have hv5 : Vs w [(w4.heap.size, (⟨mac, true, au, am, nu, nm, na, U2, us, uc2, M2, ms, mc2, true, V2, Y, vc2⟩ : Fl)), (w3.heap.size, (⟨mac, true, au, am, nu, nm, na, U1, us, uc1, M1, ms, mc1, true, V1, X, vc1⟩ : Fl)), (w.heap.size, (⟨mac, pr, au, am, nu, nm, na, U, us, uc, M, ms, mc, vo, V, vs, vc⟩ : Fl))] (((w4.setCell ⟨w3.heap.size, 9, none⟩ (.bool true)).setCell ⟨w3.heap.size, 1, none⟩ (.bool true)).alloc (.cells #[.string mac, .bool true, .bool au, .bool am, .bool nu, .bool nm, .bool na, .slice U2 us.length uc2, .slice M2 ms.length mc2, .bool true, .slice V2 Y.length vc2] 25)) := by
    have hq2 := hn2.off
    have hat : (⟨mac, true, au, am, nu, nm, na, U2, us, uc2, M2, ms, mc2, true, V2, Y, vc2⟩ : Fl).At ((w4.setCell ⟨w3.heap.size, 9, none⟩ (.bool true)).setCell ⟨w3.heap.size, 1, none⟩ (.bool true)).heap.size ((w4.setCell ⟨w3.heap.size, 9, none⟩ (.bool true)).setCell ⟨w3.heap.size, 1, none⟩ (.bool true)) := by
      rw [hsz]
      exact hvb4
    have hf := hn2.few (show (w4.heap.size, (⟨mac, pr, au, am, nu, nm, na, U2, us, uc2, M2, ms, mc2, vo, V2, Y, vc2⟩ : Fl)) ∈ _ by simp)
    have := hvb.new (F := (⟨mac, true, au, am, nu, nm, na, U2, us, uc2, M2, ms, mc2, true, V2, Y, vc2⟩ : Fl)) hat ⟨hf.u, hf.m, hf.v⟩ (fun q hq => ?_)
    · rw [hsz] at this
      exact this
    · simp only [List.mem_cons, List.not_mem_nil, or_false] at hq
      rcases hq with rfl | rfl
      · exact hn2.off (w4.heap.size, (⟨mac, pr, au, am, nu, nm, na, U2, us, uc2, M2, ms, mc2, vo, V2, Y, vc2⟩ : Fl)) (by simp) (w3.heap.size, (⟨mac, pr, au, am, nu, nm, na, U1, us, uc1, M1, ms, mc1, vo, V1, X, vc1⟩ : Fl)) (by simp)
      · exact hn2.off (w4.heap.size, (⟨mac, pr, au, am, nu, nm, na, U2, us, uc2, M2, ms, mc2, vo, V2, Y, vc2⟩ : Fl)) (by simp) (w.heap.size, (⟨mac, pr, au, am, nu, nm, na, U, us, uc, M, ms, mc, vo, V, vs, vc⟩ : Fl)) (by simp)
  generalize ((w4.setCell ⟨w3.heap.size, 9, none⟩ (.bool true)).setCell ⟨w3.heap.size, 1, none⟩ (.bool true)).alloc (.cells #[.string mac, .bool true, .bool au, .bool am, .bool nu, .bool nm, .bool na, .slice U2 us.length uc2, .slice M2 ms.length mc2, .bool true, .slice V2 Y.length vc2] 25) = w5 at hv5 ⊢
  clear hva hvb hn2 ho2 hn1 ho1x hsz hBat hvb4 x0 x1 x2 x3 x4 x5 x6 x7 x8 x9 x10 y0 y1 y2 y3 y4 y5 y6 y7 y8 y9 y10 la l0 l1
  have u1 : IntKind.u8.wrap (N / 256) = N / 256 := by rw [IntKind.wrap_u8]; omega
  have u2 : IntKind.u8.wrap N = N % 256 := by rw [IntKind.wrap_u8]
  have hcv : ∀ W : World, (convert 39 9 (.slice (some ⟨W.heap.size, 0, none⟩) 2 2)).run Try.prog (W.alloc (.cells #[.int .u8 (N / 256), .int .u8 (N % 256)] 5)).drew = .ok (.string T) (W.alloc (.cells #[.int .u8 (N / 256), .int .u8 (N % 256)] 5)).drew := fun W => by rw [two_bytes_drew, eT.out]
  have b1 : (0 : Int) ≤ min (body.size : Int) 500 := by omega
  have b2 : min (body.size : Int) 500 ≤ body.size := by omega
  have b3 : (min (body.size : Int) 500).toNat = min body.size 500 := by omega
  have b4 : min body.size 500 ≤ body.size := by omega
  have t1 : ¬ 9223372036854775807 < 14 + T.size := by omega
  have t2 : ¬ 9223372036854775807 < 14 + T.size + 2 := by omega
  have t3 : ¬ 9223372036854775807 < 14 + T.size + 2 + y.size := by omega
  go_region
  rw [hS.out]
  have hv6 : Vs w [(w4.heap.size, (⟨mac, true, au, am, nu, nm, na, U2, us, uc2, M2, ms, mc2, true, V2, Y, vc2⟩ : Fl)), (w3.heap.size, (⟨mac, true, au, am, nu, nm, na, U1, us, uc1, M1, ms, mc1, true, V1, X, vc1⟩ : Fl)), (w.heap.size, (⟨mac, pr, au, am, nu, nm, na, U, us, uc, M, ms, mc, vo, V, vs, vc⟩ : Fl))] ((w5.alloc (.cells #[.int .u8 (N / 256), .int .u8 (N % 256)] 5)).drew) := (hv5.alloc _).drew
  generalize ((w5.alloc (.cells #[.int .u8 (N / 256), .int .u8 (N % 256)] 5)).drew) = w6 at hv6 ⊢
  clear hv5 hcv u1 u2 t1 t2 t3 b1 b2 b3 b4 hs1 hs2 hS eT
  go_wp2_with fail
  go_loopw [13] (fun i wr => ∃ k : Nat, k ≤ vs.length ∧ i = .int .i64 k ∧ Vs w [(w4.heap.size, (⟨mac, true, au, am, nu, nm, na, U2, us, uc2, M2, ms, mc2, true, V2, Y, vc2⟩ : Fl)), (w3.heap.size, (⟨mac, true, au, am, nu, nm, na, U1, us, uc1, M1, ms, mc1, true, V1, X, vc1⟩ : Fl)), (w.heap.size, (⟨mac, pr, au, am, nu, nm, na, U, us, uc, M, ms, mc, vo, V, vs, vc⟩ : Fl))] wr) (fun i _ => vs.length - (intOf i).toNat)
  case atStart => exact ⟨0, Nat.zero_le _, rfl, hv6⟩
  case round =>
    obtain ⟨k, hk, rfl, hvr⟩ := hrel
    clear hv6
    have qf := hvr.get (show (w.heap.size, (⟨mac, pr, au, am, nu, nm, na, U, us, uc, M, ms, mc, vo, V, vs, vc⟩ : Fl)) ∈ _ by simp)
    have qa := hvr.get (show (w3.heap.size, (⟨mac, true, au, am, nu, nm, na, U1, us, uc1, M1, ms, mc1, true, V1, X, vc1⟩ : Fl)) ∈ _ by simp)
    have qb := hvr.get (show (w4.heap.size, (⟨mac, true, au, am, nu, nm, na, U2, us, uc2, M2, ms, mc2, true, V2, Y, vc2⟩ : Fl)) ∈ _ by simp)
    have f10 : wr.cell? ⟨w.heap.size, 10, none⟩ = some (.slice V vs.length vc) := qf.cell 10
    have a10 : wr.cell? ⟨w3.heap.size, 10, none⟩ = some (.slice V1 X.length vc1) := qa.cell 10
    have d10 : wr.cell? ⟨w4.heap.size, 10, none⟩ = some (.slice V2 Y.length vc2) := qb.cell 10
    by_cases hlt : k < vs.length
    · obtain ⟨bb, off, x, hA, hx, hc⟩ := (hvr.at (show (w.heap.size, (⟨mac, pr, au, am, nu, nm, na, U, us, uc, M, ms, mc, vo, V, vs, vc⟩ : Fl)) ∈ _ by simp)).v.int k hlt
      have hxm : x ∈ vs := hx ▸ List.getElem_mem hlt
      have CA := fun q => HN1.out [(w4.heap.size, (⟨mac, true, au, am, nu, nm, na, U2, us, uc2, M2, ms, mc2, true, V2, Y, vc2⟩ : Fl)), (w3.heap.size, (⟨mac, true, au, am, nu, nm, na, U1, us, uc1, M1, ms, mc1, true, V1, X, vc1⟩ : Fl)), (w.heap.size, (⟨mac, pr, au, am, nu, nm, na, U, us, uc, M, ms, mc, vo, V, vs, vc⟩ : Fl))] (⟨mac, true, au, am, nu, nm, na, U1, us, uc1, M1, ms, mc1, true, V1, X, vc1⟩ : Fl) w3.heap.size (wr.drewN q) (hvr.drewN q) (by simp) rfl x hxm
      simp only at CA
      have HCA := Lib.hid CA
      clear CA qf qa qb
      have CB := fun (hxn : x ≠ N) q => HN2.out [(w4.heap.size, (⟨mac, true, au, am, nu, nm, na, U2, us, uc2, M2, ms, mc2, true, V2, Y, vc2⟩ : Fl)), (w3.heap.size, (⟨mac, true, au, am, nu, nm, na, U1, us, uc1, M1, ms, mc1, true, V1, X, vc1⟩ : Fl)), (w.heap.size, (⟨mac, pr, au, am, nu, nm, na, U, us, uc, M, ms, mc, vo, V, vs, vc⟩ : Fl))] (⟨mac, true, au, am, nu, nm, na, U2, us, uc2, M2, ms, mc2, true, V2, Y, vc2⟩ : Fl) w4.heap.size (wr.drewN q) (hvr.drewN q) (by simp) rfl x hxm hxn
      simp only at CB
      have HCB0 := Lib.hid CB
      clear CB
      subst hA
      have HX := Lib.hid hx
      clear hx
      by_cases hxn : x = N
      · have e1 : (x != N) = false := by simpa using hxn
        clear hxn HCB0
        go_wp2
        go_quiet ((go_at_call 19; with_reducible exact Calls.quiet_of_same (HCA.out _)))
        go_wp2
        go_roundw
        case rel => exact ⟨k + 1, by omega, by go_num, hvr.drewN _⟩
        case measure => simp [intOf]; omega
      · have e1 : (x != N) = true := by simpa using hxn
        have HCB := Lib.hid (HCB0.out hxn)
        clear HCB0 hxn
        go_wp2
        go_quiet (first | (go_at_call 19; with_reducible exact Calls.quiet_of_same (HCA.out _)) | (go_at_call 19; with_reducible exact Calls.quiet_of_same (HCB.out _)))
        go_wp2
        go_roundw
        case rel => exact ⟨k + 1, by omega, by go_num, hvr.drewN _⟩
        case measure => simp [intOf]; omega
    · clear qf qb a10 d10
      clear qa
      have qa : Blk wr w3.heap.size 25 #[.string mac, .bool true, .bool au, .bool am, .bool nu, .bool nm, .bool na, .slice U1 us.length uc1, .slice M1 ms.length mc1, .bool true, .slice V1 X.length vc1] := hvr.get (show (w3.heap.size, (⟨mac, true, au, am, nu, nm, na, U1, us, uc1, M1, ms, mc1, true, V1, X, vc1⟩ : Fl)) ∈ _ by simp)
      have aq0 := qa.cell 0
      have aq1 := qa.cell 1
      have aq2 := qa.cell 2
      have aq3 := qa.cell 3
      have aq4 := qa.cell 4
      have aq5 := qa.cell 5
      have aq6 := qa.cell 6
      have aq7 := qa.cell 7
      have aq8 := qa.cell 8
      have aq9 := qa.cell 9
      have aq10 := qa.cell 10
      simp only [List.getElem?_toArray, List.getElem?_cons_zero, List.getElem?_cons_succ] at aq0 aq1 aq2 aq3 aq4 aq5 aq6 aq7 aq8 aq9 aq10
      clear qa
      have C7 := HD1.out [(w4.heap.size, (⟨mac, true, au, am, nu, nm, na, U2, us, uc2, M2, ms, mc2, true, V2, Y, vc2⟩ : Fl)), (w3.heap.size, (⟨mac, true, au, am, nu, nm, na, U1, us, uc1, M1, ms, mc1, true, V1, X, vc1⟩ : Fl)), (w.heap.size, (⟨mac, pr, au, am, nu, nm, na, U, us, uc, M, ms, mc, vo, V, vs, vc⟩ : Fl))] (⟨mac, true, au, am, nu, nm, na, U1, us, uc1, M1, ms, mc1, true, V1, X, vc1⟩ : Fl) w3.heap.size _ hvr (by simp) rfl rfl rfl
      simp only [Fl.val, Fl.cells] at C7
      have HC7 := Lib.hid C7
      clear C7
      go_wp2_with fail
      refine (HC7.out).mono ?_
      rintro e w7 ⟨rfl, hv7⟩
      clear HC7 aq0 aq1 aq2 aq3 aq4 aq5 aq6 aq7 aq8 aq9 aq10
      have qb : Blk w7 w4.heap.size 25 #[.string mac, .bool true, .bool au, .bool am, .bool nu, .bool nm, .bool na, .slice U2 us.length uc2, .slice M2 ms.length mc2, .bool true, .slice V2 Y.length vc2] := hv7.get (show (w4.heap.size, (⟨mac, true, au, am, nu, nm, na, U2, us, uc2, M2, ms, mc2, true, V2, Y, vc2⟩ : Fl)) ∈ _ by simp)
      have bq0 := qb.cell 0
      have bq1 := qb.cell 1
      have bq2 := qb.cell 2
      have bq3 := qb.cell 3
      have bq4 := qb.cell 4
      have bq5 := qb.cell 5
      have bq6 := qb.cell 6
      have bq7 := qb.cell 7
      have bq8 := qb.cell 8
      have bq9 := qb.cell 9
      have bq10 := qb.cell 10
      simp only [List.getElem?_toArray, List.getElem?_cons_zero, List.getElem?_cons_succ] at bq0 bq1 bq2 bq3 bq4 bq5 bq6 bq7 bq8 bq9 bq10
      clear qb
      have C8 := HD2.out [(w4.heap.size, (⟨mac, true, au, am, nu, nm, na, U2, us, uc2, M2, ms, mc2, true, V2, Y, vc2⟩ : Fl)), (w3.heap.size, (⟨mac, true, au, am, nu, nm, na, U1, us, uc1, M1, ms, mc1, true, V1, X, vc1⟩ : Fl)), (w.heap.size, (⟨mac, pr, au, am, nu, nm, na, U, us, uc, M, ms, mc, vo, V, vs, vc⟩ : Fl))] (⟨mac, true, au, am, nu, nm, na, U2, us, uc2, M2, ms, mc2, true, V2, Y, vc2⟩ : Fl) w4.heap.size _ hv7 (by simp) rfl rfl rfl
      simp only [Fl.val, Fl.cells] at C8
      have HC8 := Lib.hid C8
      clear C8
      go_wp2_with fail
      refine (HC8.out).mono ?_
      rintro e w8 ⟨rfl, hv8⟩
      clear HC8 bq0 bq1 bq2 bq3 bq4 bq5 bq6 bq7 bq8 bq9 bq10
      have qa := hv8.get (show (w3.heap.size, (⟨mac, true, au, am, nu, nm, na, U1, us, uc1, M1, ms, mc1, true, V1, X, vc1⟩ : Fl)) ∈ _ by simp)
      have qb := hv8.get (show (w4.heap.size, (⟨mac, true, au, am, nu, nm, na, U2, us, uc2, M2, ms, mc2, true, V2, Y, vc2⟩ : Fl)) ∈ _ by simp)
      have a10 : w8.cell? ⟨w3.heap.size, 10, none⟩ = some (.slice V1 X.length vc1) := qa.cell 10
      have d10 : w8.cell? ⟨w4.heap.size, 10, none⟩ = some (.slice V2 Y.length vc2) := qb.cell 10
      clear qa qb
      have hXY := HXY.out
      have g1 : (1 : Int) ≤ X.length := by omega
      have g2 : (X.length : Int) ≤ 100 := by omega
      have g3 : ((Y.length : Int) == (X.length : Int) - 1) = true := by rw [beq_iff_eq]; omega
      have g4 : IntKind.i64.wrap ((X.length : Int) - 1) = (X.length : Int) - 1 := IntWalk.i64_in _ (by omega)
      clear hXY
      go_wp2_with fail
      refine (fixed_step hv8).mono ?_
      rintro e w9 ⟨rfl, hv9⟩
      go_wp2_with fail
      go_ret
      exact ⟨rfl, hv9.below⟩
theorem lst_append (a b : ByteArray) : (a ++ b).data.toList = a.data.toList ++ b.data.toList := by simp
theorem byte_at (S : ByteArray) (l r : List UInt8) (x : UInt8) (n : Nat) (h : S.data.toList = l ++ x :: r) (hl : l.length = n) (hn : n < S.size) : S[n] = x := by
  have e : S[n] = S.data.toList[n]'(by simpa using hn) := rfl
  rw [e]
  subst hl
  simp [h]
theorem tag_parse (N : Int) (y : ByteArray) (h0 : 0 ≤ N) (h1 : N ≤ 4094) (hy : y.size ≤ 500) :
    parseE ((((⟨#[65, 66, 67, 68, 69, 70, 71, 72, 73, 74, 75, 76, 129, 0]⟩ : ByteArray) ++ strOfNums [N / 256, N % 256]) ++ (⟨#[8, 0]⟩ : ByteArray)) ++ y) = 0 ∧ (parseF ((((⟨#[65, 66, 67, 68, 69, 70, 71, 72, 73, 74, 75, 76, 129, 0]⟩ : ByteArray) ++ strOfNums [N / 256, N % 256]) ++ (⟨#[8, 0]⟩ : ByteArray)) ++ y)).v = N := by
  have hT : (strOfNums [N / 256, N % 256]).data.toList = [UInt8.ofNat (N / 256).toNat, UInt8.ofNat (N % 256).toNat] := by simp [strOfNums]
  have hl : ((((⟨#[65, 66, 67, 68, 69, 70, 71, 72, 73, 74, 75, 76, 129, 0]⟩ : ByteArray) ++ strOfNums [N / 256, N % 256]) ++ (⟨#[8, 0]⟩ : ByteArray)) ++ y).data.toList = [65, 66, 67, 68, 69, 70, 71, 72, 73, 74, 75, 76, 129, 0] ++ [UInt8.ofNat (N / 256).toNat, UInt8.ofNat (N % 256).toNat] ++ [8, 0] ++ y.data.toList := by
    rw [lst_append, lst_append, lst_append, hT]
  have e2 : y.data.toList.length = y.size := rfl
  have hs : ((((⟨#[65, 66, 67, 68, 69, 70, 71, 72, 73, 74, 75, 76, 129, 0]⟩ : ByteArray) ++ strOfNums [N / 256, N % 256]) ++ (⟨#[8, 0]⟩ : ByteArray)) ++ y).size = 18 + y.size := by
    have := congrArg List.length hl
    have e1 : ((((⟨#[65, 66, 67, 68, 69, 70, 71, 72, 73, 74, 75, 76, 129, 0]⟩ : ByteArray) ++ strOfNums [N / 256, N % 256]) ++ (⟨#[8, 0]⟩ : ByteArray)) ++ y).data.toList.length = ((((⟨#[65, 66, 67, 68, 69, 70, 71, 72, 73, 74, 75, 76, 129, 0]⟩ : ByteArray) ++ strOfNums [N / 256, N % 256]) ++ (⟨#[8, 0]⟩ : ByteArray)) ++ y).size := rfl
    rw [e1, List.length_append, e2] at this
    simpa using this
  generalize ((((⟨#[65, 66, 67, 68, 69, 70, 71, 72, 73, 74, 75, 76, 129, 0]⟩ : ByteArray) ++ strOfNums [N / 256, N % 256]) ++ (⟨#[8, 0]⟩ : ByteArray)) ++ y) = S at *
  have b12 : S[12]'(by omega) = 129 := byte_at S [65, 66, 67, 68, 69, 70, 71, 72, 73, 74, 75, 76] (0 :: ([UInt8.ofNat (N / 256).toNat, UInt8.ofNat (N % 256).toNat] ++ [8, 0] ++ y.data.toList)) 129 12 (by rw [hl]; rfl) rfl _
  have b13 : S[12 + 1]'(by omega) = 0 := byte_at S [65, 66, 67, 68, 69, 70, 71, 72, 73, 74, 75, 76, 129] ([UInt8.ofNat (N / 256).toNat, UInt8.ofNat (N % 256).toNat] ++ [8, 0] ++ y.data.toList) 0 13 (by rw [hl]; rfl) rfl (by omega)
  have b14 : S[14]'(by omega) = UInt8.ofNat (N / 256).toNat := byte_at S [65, 66, 67, 68, 69, 70, 71, 72, 73, 74, 75, 76, 129, 0] (UInt8.ofNat (N % 256).toNat :: ([8, 0] ++ y.data.toList)) _ 14 (by rw [hl]; rfl) rfl _
  have b15 : S[14 + 1]'(by omega) = UInt8.ofNat (N % 256).toNat := byte_at S [65, 66, 67, 68, 69, 70, 71, 72, 73, 74, 75, 76, 129, 0, UInt8.ofNat (N / 256).toNat] ([8, 0] ++ y.data.toList) _ 15 (by rw [hl]; rfl) rfl (by omega)
  have b16 : S[16]'(by omega) = 8 := byte_at S [65, 66, 67, 68, 69, 70, 71, 72, 73, 74, 75, 76, 129, 0, UInt8.ofNat (N / 256).toNat, UInt8.ofNat (N % 256).toNat] (0 :: y.data.toList) 8 16 (by rw [hl]; rfl) rfl _
  have b17 : S[16 + 1]'(by omega) = 0 := byte_at S [65, 66, 67, 68, 69, 70, 71, 72, 73, 74, 75, 76, 129, 0, UInt8.ofNat (N / 256).toNat, UInt8.ofNat (N % 256).toNat, 8] y.data.toList 0 17 (by rw [hl]; rfl) rfl (by omega)
  have m12 : num S 12 = 33024 := by rw [num_is S 12 (by omega), b12, b13]; rfl
  have m16 : num S 16 = 2048 := by rw [num_is S 16 (by omega), b16, b17]; rfl
  have m14 : (num S 14 : Int) = N := by
    rw [num_is S 14 (by omega), b14, b15, UInt8.toNat_ofNat', UInt8.toNat_ofNat']
    omega
  have hF := readF_tag (s := S) (by omega) m12
  have hE : readE S = 0 := by rw [readE, if_neg (by omega)]
  have hB : frameB (readF S) = true := by
    rw [hF, frameB, decide_eq_true_eq]
    refine ⟨cut_size (by omega), cut_size (by omega), ?_, ?_⟩
    · show tagB ((num S 14 : Int) % 8192) ((num S 14 : Int) / 8192) = true
      rw [m14, tagB, if_neg (by omega), decide_eq_true_eq]
      omega
    · show kindB (num S 16) = true
      rw [m16]; rfl
  have hp := parse_in (s := S) (by omega) hE hB
  refine ⟨hp.1, ?_⟩
  rw [hp.2, hF]
  show (num S 14 : Int) % 8192 = N
  omega
set_option maxHeartbeats 2000000 in
theorem nets_bad (mac0 mac : ByteArray) (pr0 au0 am0 nu0 nm0 na0 vo0 pr au am nu nm na vo : Bool) (U0 M0 V0 U M V : Option Addr) (us0 ms0 us ms : List ByteArray) (vs0 vs : List Int) (uc0 mc0 vc0 uc mc vc : Nat) (n XA N : Int) (body : ByteArray) (w : World) (hG : (⟨mac, pr, au, am, nu, nm, na, U, us, uc, M, ms, mc, vo, V, vs, vc⟩ : Fl).At w.heap.size w) (hl : (⟨mac, pr, au, am, nu, nm, na, U, us, uc, M, ms, mc, vo, V, vs, vc⟩ : Fl).Few)
    (ea : bits .and .i64 n 65535 = XA) (nA : Int.tmod XA 4095 = N) (xa0 : 0 ≤ XA) (xa1 : XA ≤ 65535)
    (AB : ∀ W, Calls Try.prog 9 #[.agg #[.string mac0, .bool pr0, .bool au0, .bool am0, .bool nu0, .bool nm0, .bool na0, .slice U0 us0.length uc0, .slice M0 ms0.length mc0, .bool vo0, .slice V0 vs0.length vc0]] W fun e w' => e = .returned (.agg #[.string mac, .bool pr, .bool au, .bool am, .bool nu, .bool nm, .bool na, .slice U us.length uc, .slice M ms.length mc, .bool vo, .slice V vs.length vc]) ∧ Below W.heap.size W w')
    (A1 : ∀ W, Vs w [(w.heap.size, ⟨mac, pr, au, am, nu, nm, na, U, us, uc, M, ms, mc, vo, V, vs, vc⟩)] W → Calls Try.prog 15 #[.agg #[.string mac, .bool pr, .bool au, .bool am, .bool nu, .bool nm, .bool na, .slice U us.length uc, .slice M ms.length mc, .bool vo, .slice V vs.length vc], .int .i64 N] W fun e w' => e = .returned (.tuple #[.agg #[.string ⟨#[]⟩, .bool false, .bool false, .bool false, .bool false, .bool false, .bool false, .slice none 0 0, .slice none 0 0, .bool false, .slice none 0 0], .int .i64 1]) ∧ Below W.heap.size W w')
    (A2 : ∀ (L : List (Nat × Fl)) (g : Nat) W, Vs w L W → (g, Fl.zero) ∈ L → Calls Try.prog 17 #[.agg #[.string ⟨#[]⟩, .bool false, .bool false, .bool false, .bool false, .bool false, .bool false, .slice none 0 0, .slice none 0 0, .bool false, .slice none 0 0], .int .i64 N] W (StepP w L Fl.zero [])) :
    Calls Try.prog 6 #[.agg #[.string mac0, .bool pr0, .bool au0, .bool am0, .bool nu0, .bool nm0, .bool na0, .slice U0 us0.length uc0, .slice M0 ms0.length mc0, .bool vo0, .slice V0 vs0.length vc0], .int .i64 n, .string body] w fun e w' => e = .returned (.bool true) ∧ Below w.heap.size w w' := by
  have _ := xa0; have _ := xa1
  have HB := Lib.hid AB
  have H1 := Lib.hid A1
  have H2 := Lib.hid A2
  clear AB A1 A2
  go_enter Try.func6, Try.ntmps6
  go_wp2_with fail
  refine (HB.out _).mono ?_
  rintro e w1 ⟨rfl, hq⟩
  have k1 : Blk w1 w.heap.size 25 #[.string mac0, .bool pr0, .bool au0, .bool am0, .bool nu0, .bool nm0, .bool na0, .slice U0 us0.length uc0, .slice M0 ms0.length mc0, .bool vo0, .slice V0 vs0.length vc0] := (Blk.new w 25 _).next hq
  have c0 := k1.cell 0
  have c1 := k1.cell 1
  have c2 := k1.cell 2
  have c3 := k1.cell 3
  have c4 := k1.cell 4
  have c5 := k1.cell 5
  have c6 := k1.cell 6
  have c7 := k1.cell 7
  have c8 := k1.cell 8
  have c9 := k1.cell 9
  have c10 := k1.cell 10
  simp only [List.getElem?_toArray, List.getElem?_cons_zero, List.getElem?_cons_succ] at c0 c1 c2 c3 c4 c5 c6 c7 c8 c9 c10
  have f0 := k1.frozen 0
  have f1 := k1.frozen 1
  have f2 := k1.frozen 2
  have f3 := k1.frozen 3
  have f4 := k1.frozen 4
  have f5 := k1.frozen 5
  have f6 := k1.frozen 6
  have f7 := k1.frozen 7
  have f8 := k1.frozen 8
  have f9 := k1.frozen 9
  have f10 := k1.frozen 10
  obtain ⟨w2, hw2⟩ : ∃ w2, (((((((((((w1.setCell ⟨w.heap.size, 0, none⟩ (.string mac)).setCell ⟨w.heap.size, 1, none⟩ (.bool pr)).setCell ⟨w.heap.size, 2, none⟩ (.bool au)).setCell ⟨w.heap.size, 3, none⟩ (.bool am)).setCell ⟨w.heap.size, 4, none⟩ (.bool nu)).setCell ⟨w.heap.size, 5, none⟩ (.bool nm)).setCell ⟨w.heap.size, 6, none⟩ (.bool na)).setCell ⟨w.heap.size, 7, none⟩ (.slice U us.length uc)).setCell ⟨w.heap.size, 8, none⟩ (.slice M ms.length mc)).setCell ⟨w.heap.size, 9, none⟩ (.bool vo)).setCell ⟨w.heap.size, 10, none⟩ (.slice V vs.length vc)) = w2 := ⟨_, rfl⟩
  have hv : Vs w [(w.heap.size, ⟨mac, pr, au, am, nu, nm, na, U, us, uc, M, ms, mc, vo, V, vs, vc⟩)] w2 := hw2 ▸ vs_begin (F := ⟨mac0, pr0, au0, am0, nu0, nm0, na0, U0, us0, uc0, M0, ms0, mc0, vo0, V0, vs0, vc0⟩) (G := ⟨mac, pr, au, am, nu, nm, na, U, us, uc, M, ms, mc, vo, V, vs, vc⟩) hG hl hq
  have HW := Lib.hid hw2
  have k2 : Blk w2 w.heap.size 25 #[.string mac, .bool pr, .bool au, .bool am, .bool nu, .bool nm, .bool na, .slice U us.length uc, .slice M ms.length mc, .bool vo, .slice V vs.length vc] := hv.get (show (w.heap.size, (⟨mac, pr, au, am, nu, nm, na, U, us, uc, M, ms, mc, vo, V, vs, vc⟩ : Fl)) ∈ _ by simp)
  clear hw2 k1 hq
  have d0 := k2.cell 0
  have d1 := k2.cell 1
  have d2 := k2.cell 2
  have d3 := k2.cell 3
  have d4 := k2.cell 4
  have d5 := k2.cell 5
  have d6 := k2.cell 6
  have d7 := k2.cell 7
  have d8 := k2.cell 8
  have d9 := k2.cell 9
  have d10 := k2.cell 10
  simp only [List.getElem?_toArray, List.getElem?_cons_zero, List.getElem?_cons_succ] at d0 d1 d2 d3 d4 d5 d6 d7 d8 d9 d10
  clear k2
  go_wp2_with (rw [HW.out]; clear c0 c1 c2 c3 c4 c5 c6 c7 c8 c9 c10 f0 f1 f2 f3 f4 f5 f6 f7 f8 f9 f10 HW)
  refine (H1.out _ hv).mono ?_
  rintro e w3 ⟨rfl, hq⟩
  have hv3 : Vs w [(w3.heap.size, Fl.zero), (w.heap.size, ⟨mac, pr, au, am, nu, nm, na, U, us, uc, M, ms, mc, vo, V, vs, vc⟩)] (w3.alloc (.cells #[.string ⟨#[]⟩, .bool false, .bool false, .bool false, .bool false, .bool false, .bool false, .slice none 0 0, .slice none 0 0, .bool false, .slice none 0 0] 25)) := (hv.next hq).new (F := Fl.zero) (nil_at rfl rfl rfl _ _) (nil_few rfl rfl rfl) (fun q _ => nil_off rfl rfl rfl _)
  clear hq hv d0 d1 d2 d3 d4 d5 d6 d7 d8 d9 d10
  go_wp2_with fail
  refine (H2.out _ w3.heap.size _ hv3 (by simp)).mono ?_
  rintro e w4 ⟨U2, uc2, M2, mc2, V2, vc2, rfl, ho2, hn2⟩
  clear ho2
  go_wp2_with fail
  refine (fixed_step hn2).mono ?_
  rintro e w5 ⟨rfl, hv5⟩
  go_wp2_with fail
  go_ret
  exact ⟨rfl, hv5.below⟩
theorem filterNets_any (F : Fl) (n : Int) (body : ByteArray) (w : World) (hF : F.At w.heap.size w) (hFit : F.Fit) :
    Calls Try.prog 6 #[F.val, .int .i64 n, .string body] w fun e w' => e = .returned (.bool true) ∧ Below w.heap.size w w' := by
  have AB := fun W => bound_any F W hFit
  have hG := bnd_at hF
  have hl := bnd_few F
  have hb60 : (bnd F).vs.length ≤ 60 := by show (F.vs.take 60).length ≤ 60; rw [List.length_take]; omega
  generalize bnd F = G at *
  obtain ⟨XA, N, ea, nA, hN, xa0, xa1⟩ := low12 n
  have hN2 : 0 ≤ N ∧ N ≤ 4094 := by
    rw [isV, Bool.and_eq_true, decide_eq_true_eq, decide_eq_true_eq] at hN
    exact hN
  by_cases ha : ascB G.vs = true
  · have hs := ((ascB_iff G.vs).1 ha).2
    have hX := addL_ok ha hN
    have hXs := addL_asc _ N hs
    have lX := addL_length G.vs N
    have hin : N ∈ addL G.vs N := (addL_mem G.vs N N).2 (.inl rfl)
    have lY := del_there _ _ hin
    have lX0 : 0 < (addL G.vs N).length := List.length_pos_of_mem hin
    have hys : (body.extract 0 (min body.size 500)).size ≤ 500 := by rw [ByteArray.size_extract]; omega
    obtain ⟨p1, p2⟩ := tag_parse N (body.extract 0 (min body.size 500)) hN2.1 hN2.2 hys
    refine nets_walk F.mac G.mac F.pr F.au F.am F.nu F.nm F.na F.vo G.pr G.au G.am G.nu G.nm G.na G.vo F.U F.M F.V G.U G.M G.V F.us F.ms G.us G.ms F.vs G.vs F.uc F.mc F.vc G.uc G.mc G.vc n XA N (addL G.vs N) (delL (addL G.vs N) N) body _ (body.extract 0 (min body.size 500)) _ w hG hl ea nA xa0 xa1 hN2.1 hN2.2 rfl rfl (Nat.le_refl 2) hys (by omega) (by omega) rfl AB ?_ ?_ ?_ ?_ ?_ ?_
    · intro L F g W h hm e
      exact add_step h hm hN (by rw [e]; exact ha) (by rw [e]) (by omega)
    · intro L F g W h hm e
      exact del_step h hm hN (by rw [e]; exact hX) (by rw [e]) (by omega)
    · intro L F g W h hm e1 e2 e3
      have := adm_any F ((((⟨#[65, 66, 67, 68, 69, 70, 71, 72, 73, 74, 75, 76, 129, 0]⟩ : ByteArray) ++ strOfNums [N / 256, N % 256]) ++ (⟨#[8, 0]⟩ : ByteArray)) ++ body.extract 0 (min body.size 500)) W.heap.size W (h.at hm) (Nat.le_refl _) (h.few hm)
      rw [adB, if_pos p1, p2, adV, e1, e2, e3, hasI_iff.2 hin] at this
      exact this.mono fun _ _ hh => ⟨hh.1.trans (by simp), h.next hh.2⟩
    · intro L F g W h hm e1 e2 e3
      have := adm_any F ((((⟨#[65, 66, 67, 68, 69, 70, 71, 72, 73, 74, 75, 76, 129, 0]⟩ : ByteArray) ++ strOfNums [N / 256, N % 256]) ++ (⟨#[8, 0]⟩ : ByteArray)) ++ body.extract 0 (min body.size 500)) W.heap.size W (h.at hm) (Nat.le_refl _) (h.few hm)
      have hno : hasI (delL (addL G.vs N) N) N = false := by
        rw [Bool.eq_false_iff]
        intro q
        exact ((delL_mem _ _ hXs N).1 (hasI_iff.1 q)).2 rfl
      have hne : (N == -1) = false := by rw [beq_eq_false_iff_ne]; omega
      rw [adB, if_pos p1, p2, adV, e1, e2, hno, hne] at this
      exact this.mono fun _ _ hh => ⟨hh.1.trans (by simp), h.next hh.2⟩
    · intro L F g W h hm e v hv
      have := net_any W.heap.size F.V F.vc F.vs v W (h.at hm).v (h.few hm).v
      rw [e] at this ⊢
      rw [hasI_iff.2 ((addL_mem _ _ _).2 (.inr hv))] at this
      exact this.mono fun _ _ hh => ⟨hh.1, hh.2.symm⟩
    · intro L F g W h hm e v hv hne
      have := net_any W.heap.size F.V F.vc F.vs v W (h.at hm).v (h.few hm).v
      rw [e] at this ⊢
      rw [hasI_iff.2 ((delL_mem _ _ hXs _).2 ⟨(addL_mem _ _ _).2 (.inr hv), hne⟩)] at this
      exact this.mono fun _ _ hh => ⟨hh.1, hh.2.symm⟩
  · refine nets_bad F.mac G.mac F.pr F.au F.am F.nu F.nm F.na F.vo G.pr G.au G.am G.nu G.nm G.na G.vo F.U F.M F.V G.U G.M G.V F.us F.ms G.us G.ms F.vs G.vs F.uc F.mc F.vc G.uc G.mc G.vc n XA N body w hG hl ea nA xa0 xa1 AB ?_ ?_
    · intro W h
      exact add_bad G N W.heap.size W (h.at (show (w.heap.size, G) ∈ _ from List.mem_singleton.2 rfl)) (Nat.le_refl _) hl (.inr (by simpa using ha))
    · intro L g W h hm
      exact del_step h hm hN rfl rfl (Nat.zero_le _)

set_option maxRecDepth 100000 in
theorem filterNets_lifted (os : Os) (started : os.Started) (H : Type) (enc : TypeId × Value → H) :
    ReturnsInHanded {} Try.checked os 6 .any (Rows.filterNetsSpec.pre6 enc Try.prog Try.f6 Rows.filterNetsRow.domain false) (Rows.filterNetsSpec.post enc Try.prog Try.f6 false true false false) := by
  have e : Try.f6.params.toList = [25, 3, 9] := by rw [Try.params6]
  refine law_of_walk (C := Try.checked) (tb := 4) H enc Try.own started (by kernel_rfl) Try.func6 Try.laidOut rfl rfl Try.underlying4 ?_ ?_
    (ChangeSpec.witness6 (enc := enc) (C := Try.checked) false ⟨#[], #[.agg #[.string ByteArray.empty, .bool false, .bool false, .bool false, .bool false, .bool false, .bool false, .slice none 0 0, .slice none 0 0, .bool false, .slice none 0 0], .int .i64 0, .string ByteArray.empty], []⟩ 8 (by kernel_rfl) (by kernel_rfl) (by kernel_rfl) (by kernel_rfl)) ?_
  · rw [e]
    intro t ht
    simp only [List.mem_cons, List.not_mem_nil, or_false] at ht
    rcases ht with rfl | rfl | rfl <;> exact ⟨by kernel_rfl, of_decide_eq_true (by kernel_rfl)⟩
  · intro ds hds
    rw [e] at hds
    match ds, hds with
    | [d0, d1, d2], _ => rfl
  · intro W base args ds p hval0 hA0 hsz0
    have hval : ∀ (j : Nat) t v, Try.f6.params[j]? = some t → args[j]? = some v → Value.okWide Try.prog W .any base t v := hval0
    have hA : DataW.TrodAll enc Try.prog W 0 (fun _ => true) true Try.f6.params.toList args.toList ds p := hA0
    have hsz : (DataW.weightsEach Try.prog Try.f6.params.toList ds).all (· ≤ reachBytes) = true := hsz0
    rw [Try.params6] at hA hval hsz
    obtain ⟨v0, v1, v2, d0, d1, d2, p0, p1, p2, rfl, rfl, rfl, h0, h1, h2⟩ := trodAll_three hA
    obtain ⟨F, rfl, hF, hFit⟩ := open_filter (hval 0 25 v0 rfl rfl) h0
    obtain ⟨x1, rfl, rfl, rfl, k1⟩ := open_int Try.underlying3 (hval 1 3 v1 rfl rfl) h1
    have i1 := bounds_i64 k1
    obtain ⟨x2, rfl, rfl, rfl, _⟩ := open_string Try.underlying9 (hval 2 9 v2 rfl rfl) h2
    have s2 := sized_string hsz (j := 2) (t := 9) rfl rfl
    simp only [reachBytes] at s2
    exact filterNets_any F x1 x2 W hF hFit

theorem filterNets_holds : Rows.FilterNetsSaid :=
  OpenClaim.holds_of_wide 6 Try.f6 rfl rfl rfl rfl rfl rfl rfl ⟨rfl, rfl, rfl, rfl, rfl⟩ rfl rfl rfl rfl rfl (by kernel_rfl) Try.func6 (by kernel_rfl)
    (of_decide_eq_true (by kernel_rfl)) (by unfold Func.isWrapper; first | (rw [if_pos (by decide +kernel)]; kernel_rfl) | (rw [if_neg (by decide +kernel)]; exact ⟨rfl, rfl⟩))
    (fun os started H enc _ => filterNets_lifted os started H enc)
end Go.Proofs.Ytboinnejkghfiaa
