/-
  FilterGrows: what a filter admits is admitted, too, by one that takes more.
-/
import Derived.Test.YtboinnejkghfiaaAp
import Derived.Test.YtboinnejkghfiaaMt
namespace Go.Proofs.Ytboinnejkghfiaa
open Go.Joins Go.ChangeShapes Go.WideShapes Go.ChangeAt Go.RowKit Go.Deep
open Go.ChangeMaps (open_string)

theorem vs_begin {F G : Fl} {w w1 : World} (hG : G.At w.heap.size w) (hl : G.Few) (hq : Below (w.alloc (.cells F.cells 25)).heap.size (w.alloc (.cells F.cells 25)) w1) :
    Vs w [(w.heap.size, G)] (((((((((((w1.setCell ⟨w.heap.size, 0, none⟩ (.string G.mac)).setCell ⟨w.heap.size, 1, none⟩ (.bool G.pr)).setCell ⟨w.heap.size, 2, none⟩ (.bool G.au)).setCell ⟨w.heap.size, 3, none⟩ (.bool G.am)).setCell ⟨w.heap.size, 4, none⟩ (.bool G.nu)).setCell ⟨w.heap.size, 5, none⟩ (.bool G.nm)).setCell ⟨w.heap.size, 6, none⟩ (.bool G.na)).setCell ⟨w.heap.size, 7, none⟩ (.slice G.U G.us.length G.uc)).setCell ⟨w.heap.size, 8, none⟩ (.slice G.M G.ms.length G.mc)).setCell ⟨w.heap.size, 9, none⟩ (.bool G.vo)).setCell ⟨w.heap.size, 10, none⟩ (.slice G.V G.vs.length G.vc)) := by
  have h1 := ba (b0 w) (.cells F.cells 25)
  have h2 := bt2 h1 hq
  have hb := below_set11 h2 (Nat.le_refl _) (.string G.mac) (.bool G.pr) (.bool G.au) (.bool G.am) (.bool G.nu) (.bool G.nm) (.bool G.na) (.slice G.U G.us.length G.uc) (.slice G.M G.ms.length G.mc) (.bool G.vo) (.slice G.V G.vs.length G.vc)
  have k := ((Blk.new w 25 F.cells).next hq).set11 (.string G.mac) (.bool G.pr) (.bool G.au) (.bool G.am) (.bool G.nu) (.bool G.nm) (.bool G.na) (.slice G.U G.us.length G.uc) (.slice G.M G.ms.length G.mc) (.bool G.vo) (.slice G.V G.vs.length G.vc)
  refine ⟨hb, fun p hp => ?_, fun p hp q hq' => ?_⟩
  · obtain rfl : p = (w.heap.size, G) := by simpa using hp
    exact ⟨Nat.le_refl _, k, (hG.far (Nat.le_refl _) hb).more hb.size, hl⟩
  · obtain rfl : p = (w.heap.size, G) := by simpa using hp
    obtain rfl : q = (w.heap.size, G) := by simpa using hq'
    exact hG.off (Nat.le_refl _)
/-- the block of six filters, and the one that they were made from -/
structure Gr (w0 : World) (gl : Nat) (G : Fl) (cs : Array Value) (w : World) : Prop where
  below : Below w0.heap.size w0 w
  f : Blk w w0.heap.size 25 G.cells
  row : Blk w gl 25 cs
  lt : w0.heap.size < gl
section
variable {w0 w w' : World} {gl : Nat} {G : Fl} {cs ds : Array Value}
theorem Gr.next (h : Gr w0 gl G cs w) (hb : Below w.heap.size w w') : Gr w0 gl G cs w' := ⟨bt2 h.below hb, h.f.next hb, h.row.next hb, h.lt⟩
theorem Gr.set (h : Gr w0 gl G cs w) (i : Nat) (u : Value) (hc : cs.setIfInBounds i u = ds) : Gr w0 gl G ds (w.setCell ⟨gl, i, none⟩ u) :=
  ⟨h.below.setCell (p := ⟨gl, i, none⟩) (Nat.le_of_lt h.lt) u, h.f.other (by have := h.lt; omega) i u, hc ▸ h.row.put i u, h.lt⟩
end
theorem vs_of_gr {w0 w : World} {gl : Nat} {G : Fl} {cs : Array Value} (hG : G.At w0.heap.size w0) (hl : G.Few) (h : Gr w0 gl G cs w) : Vs w0 [(w0.heap.size, G)] w := by
  refine ⟨h.below, fun p hp => ?_, fun p hp q hq => ?_⟩
  · obtain rfl : p = (w0.heap.size, G) := by simpa using hp
    exact ⟨Nat.le_refl _, h.f, (hG.far (Nat.le_refl _) h.below).more h.below.size, hl⟩
  · obtain rfl : p = (w0.heap.size, G) := by simpa using hp
    obtain rfl : q = (w0.heap.size, G) := by simpa using hq
    exact hG.off (Nat.le_refl _)
theorem own_more {w : World} {base c : Nat} {A : Option Addr} {L : List ByteArray} {x : ByteArray} (h : w.ownsRow base 9 1 (.slice A (L.length + 1) c) (L.length + 1) (L.map strV ++ [strV x])) : OwnS base A c (L ++ [x]) w := by
  unfold OwnS
  rw [List.length_append, List.map_append]
  exact h
set_option maxRecDepth 100000 in
set_option maxHeartbeats 8000000 in
theorem grows_walk (mac0 mac : ByteArray) (pr0 au0 am0 nu0 nm0 na0 vo0 pr au am nu nm na vo : Bool) (U0 M0 V0 U M V : Option Addr) (us0 ms0 us ms : List ByteArray) (vs0 vs : List Int) (uc0 mc0 vc0 uc mc vc : Nat) (s mc9 : ByteArray) (w : World) (hG : (⟨mac, pr, au, am, nu, nm, na, U, us, uc, M, ms, mc, vo, V, vs, vc⟩ : Fl).At w.heap.size w) (hl : (⟨mac, pr, au, am, nu, nm, na, U, us, uc, M, ms, mc, vo, V, vs, vc⟩ : Fl).Few) (hul : us.length ≤ 50) (hml : ms.length ≤ 50)
    (AB : ∀ W, Calls Try.prog 9 #[.agg #[.string mac0, .bool pr0, .bool au0, .bool am0, .bool nu0, .bool nm0, .bool na0, .slice U0 us0.length uc0, .slice M0 ms0.length mc0, .bool vo0, .slice V0 vs0.length vc0]] W fun e w' => e = .returned (.agg #[.string mac, .bool pr, .bool au, .bool am, .bool nu, .bool nm, .bool na, .slice U us.length uc, .slice M ms.length mc, .bool vo, .slice V vs.length vc]) ∧ Below W.heap.size W w')
    (A0 : ∀ W, Vs w [(w.heap.size, ⟨mac, pr, au, am, nu, nm, na, U, us, uc, M, ms, mc, vo, V, vs, vc⟩)] W → Calls Try.prog 13 #[.agg #[.string mac, .bool pr, .bool au, .bool am, .bool nu, .bool nm, .bool na, .slice U us.length uc, .slice M ms.length mc, .bool vo, .slice V vs.length vc], .string s] W fun e w' => e = .returned (.bool true) ∧ Below W.heap.size W w')
    (D0 : ∀ W, Vs w [(w.heap.size, ⟨mac, pr, au, am, nu, nm, na, U, us, uc, M, ms, mc, vo, V, vs, vc⟩)] W → Calls Try.prog 13 #[.agg #[.string mac, .bool true, .bool au, .bool am, .bool nu, .bool nm, .bool na, .slice U us.length uc, .slice M ms.length mc, .bool vo, .slice V vs.length vc], .string s] W fun e w' => e = .returned (.bool true) ∧ Below W.heap.size W w')
    (D1 : ∀ W, Vs w [(w.heap.size, ⟨mac, pr, au, am, nu, nm, na, U, us, uc, M, ms, mc, vo, V, vs, vc⟩)] W → Calls Try.prog 13 #[.agg #[.string mac, .bool pr, .bool true, .bool am, .bool nu, .bool nm, .bool na, .slice U us.length uc, .slice M ms.length mc, .bool vo, .slice V vs.length vc], .string s] W fun e w' => e = .returned (.bool true) ∧ Below W.heap.size W w')
    (D2 : ∀ W, Vs w [(w.heap.size, ⟨mac, pr, au, am, nu, nm, na, U, us, uc, M, ms, mc, vo, V, vs, vc⟩)] W → Calls Try.prog 13 #[.agg #[.string mac, .bool pr, .bool au, .bool true, .bool nu, .bool nm, .bool na, .slice U us.length uc, .slice M ms.length mc, .bool vo, .slice V vs.length vc], .string s] W fun e w' => e = .returned (.bool true) ∧ Below W.heap.size W w')
    (D3 : ∀ (U3 : Option Addr) (uc3 : Nat) W, Vs w [(w.heap.size, ⟨mac, pr, au, am, nu, nm, na, U, us, uc, M, ms, mc, vo, V, vs, vc⟩)] W → Rd W.heap.size U3 ((us ++ [mc9]).map strV) W → Calls Try.prog 13 #[.agg #[.string mac, .bool pr, .bool au, .bool am, .bool nu, .bool nm, .bool na, .slice U3 (us.length + 1) uc3, .slice M ms.length mc, .bool vo, .slice V vs.length vc], .string s] W fun e w' => e = .returned (.bool true) ∧ Below W.heap.size W w')
    (D4 : ∀ (M4 : Option Addr) (mc4 : Nat) W, Vs w [(w.heap.size, ⟨mac, pr, au, am, nu, nm, na, U, us, uc, M, ms, mc, vo, V, vs, vc⟩)] W → Rd W.heap.size M4 ((ms ++ [mc9]).map strV) W → Calls Try.prog 13 #[.agg #[.string mac, .bool pr, .bool au, .bool am, .bool nu, .bool nm, .bool na, .slice U us.length uc, .slice M4 (ms.length + 1) mc4, .bool vo, .slice V vs.length vc], .string s] W fun e w' => e = .returned (.bool true) ∧ Below W.heap.size W w')
    (D5 : ∀ W, Vs w [(w.heap.size, ⟨mac, pr, au, am, nu, nm, na, U, us, uc, M, ms, mc, vo, V, vs, vc⟩)] W → Calls Try.prog 13 #[.agg #[.string mac, .bool pr, .bool au, .bool am, .bool nu, .bool nm, .bool na, .slice U us.length uc, .slice M ms.length mc, .bool false, .slice V vs.length vc], .string s] W fun e w' => e = .returned (.bool true) ∧ Below W.heap.size W w') :
    Calls Try.prog 5 #[.agg #[.string mac0, .bool pr0, .bool au0, .bool am0, .bool nu0, .bool nm0, .bool na0, .slice U0 us0.length uc0, .slice M0 ms0.length mc0, .bool vo0, .slice V0 vs0.length vc0], .string s, .string mc9] w fun e w' => e = .returned (.bool true) ∧ Below w.heap.size w w' := by
  have HB := Lib.hid AB
  have HA := Lib.hid A0
  have H0 := Lib.hid D0
  have H1 := Lib.hid D1
  have H2 := Lib.hid D2
  have H3 := Lib.hid D3
  have H4 := Lib.hid D4
  have H5 := Lib.hid D5
  clear AB A0 D0 D1 D2 D3 D4 D5
  obtain ⟨i0, hi, hz0, hz1, hz2⟩ := info_parts Try.info9
  have HI := Lib.hid hi
  have HZ0 := Lib.hid hz0
  have HZ1 := Lib.hid hz1
  have HZ2 := Lib.hid hz2
  clear hi hz0 hz1 hz2
  go_enter Try.func5, Try.ntmps5
  go_wp2_with fail
  refine (HB.out _).mono ?_
  rintro e w1 ⟨rfl, hq⟩
  have k1 : Blk w1 w.heap.size 25 #[.string mac0, .bool pr0, .bool au0, .bool am0, .bool nu0, .bool nm0, .bool na0, .slice U0 us0.length uc0, .slice M0 ms0.length mc0, .bool vo0, .slice V0 vs0.length vc0] := (Blk.new w 25 _).next hq
  have c0 := k1.cell 0
  have c1 := k1.cell 1
  have c2 := k1.cell 2
  have c3 := k1.cell 3
  have c4 := k1.cell 4
  have c5 := k1.cell 5
  have c6 := k1.cell 6
  have c7 := k1.cell 7
  have c8 := k1.cell 8
  have c9 := k1.cell 9
  have c10 := k1.cell 10
  simp only [List.getElem?_toArray, List.getElem?_cons_zero, List.getElem?_cons_succ] at c0 c1 c2 c3 c4 c5 c6 c7 c8 c9 c10
  have f0 := k1.frozen 0
  have f1 := k1.frozen 1
  have f2 := k1.frozen 2
  have f3 := k1.frozen 3
  have f4 := k1.frozen 4
  have f5 := k1.frozen 5
  have f6 := k1.frozen 6
  have f7 := k1.frozen 7
  have f8 := k1.frozen 8
  have f9 := k1.frozen 9
  have f10 := k1.frozen 10
  obtain ⟨w2, hw2⟩ : ∃ w2, (((((((((((w1.setCell ⟨w.heap.size, 0, none⟩ (.string mac)).setCell ⟨w.heap.size, 1, none⟩ (.bool pr)).setCell ⟨w.heap.size, 2, none⟩ (.bool au)).setCell ⟨w.heap.size, 3, none⟩ (.bool am)).setCell ⟨w.heap.size, 4, none⟩ (.bool nu)).setCell ⟨w.heap.size, 5, none⟩ (.bool nm)).setCell ⟨w.heap.size, 6, none⟩ (.bool na)).setCell ⟨w.heap.size, 7, none⟩ (.slice U us.length uc)).setCell ⟨w.heap.size, 8, none⟩ (.slice M ms.length mc)).setCell ⟨w.heap.size, 9, none⟩ (.bool vo)).setCell ⟨w.heap.size, 10, none⟩ (.slice V vs.length vc)) = w2 := ⟨_, rfl⟩
  have hv : Vs w [(w.heap.size, ⟨mac, pr, au, am, nu, nm, na, U, us, uc, M, ms, mc, vo, V, vs, vc⟩)] w2 := hw2 ▸ vs_begin (F := ⟨mac0, pr0, au0, am0, nu0, nm0, na0, U0, us0, uc0, M0, ms0, mc0, vo0, V0, vs0, vc0⟩) (G := ⟨mac, pr, au, am, nu, nm, na, U, us, uc, M, ms, mc, vo, V, vs, vc⟩) hG hl hq
  have HW := Lib.hid hw2
  have k2 : Blk w2 w.heap.size 25 #[.string mac, .bool pr, .bool au, .bool am, .bool nu, .bool nm, .bool na, .slice U us.length uc, .slice M ms.length mc, .bool vo, .slice V vs.length vc] := hv.get (show (w.heap.size, (⟨mac, pr, au, am, nu, nm, na, U, us, uc, M, ms, mc, vo, V, vs, vc⟩ : Fl)) ∈ _ by simp)
  clear hw2 k1 hq
  have d0 := k2.cell 0
  have d1 := k2.cell 1
  have d2 := k2.cell 2
  have d3 := k2.cell 3
  have d4 := k2.cell 4
  have d5 := k2.cell 5
  have d6 := k2.cell 6
  have d7 := k2.cell 7
  have d8 := k2.cell 8
  have d9 := k2.cell 9
  have d10 := k2.cell 10
  simp only [List.getElem?_toArray, List.getElem?_cons_zero, List.getElem?_cons_succ] at d0 d1 d2 d3 d4 d5 d6 d7 d8 d9 d10
  clear k2
  go_wp2_with (rw [HW.out]; clear c0 c1 c2 c3 c4 c5 c6 c7 c8 c9 c10 f0 f1 f2 f3 f4 f5 f6 f7 f8 f9 f10 HW)
  refine (HA.out _ hv).mono ?_
  rintro e w3 ⟨rfl, hq⟩
  have hv3 := hv.next hq
  clear hq hv d0 d1 d2 d3 d4 d5 d6 d7 d8 d9 d10 HA
  have qf : Blk w3 w.heap.size 25 #[.string mac, .bool pr, .bool au, .bool am, .bool nu, .bool nm, .bool na, .slice U us.length uc, .slice M ms.length mc, .bool vo, .slice V vs.length vc] := hv3.get (show (w.heap.size, (⟨mac, pr, au, am, nu, nm, na, U, us, uc, M, ms, mc, vo, V, vs, vc⟩ : Fl)) ∈ _ by simp)
  have d0 := qf.cell 0
  have d1 := qf.cell 1
  have d2 := qf.cell 2
  have d3 := qf.cell 3
  have d4 := qf.cell 4
  have d5 := qf.cell 5
  have d6 := qf.cell 6
  have d7 := qf.cell 7
  have d8 := qf.cell 8
  have d9 := qf.cell 9
  have d10 := qf.cell 10
  simp only [List.getElem?_toArray, List.getElem?_cons_zero, List.getElem?_cons_succ] at d0 d1 d2 d3 d4 d5 d6 d7 d8 d9 d10
  have lf := qf.lt
  clear qf
  have s8 : (w3.alloc (.cells #[.string mac, .bool true, .bool au, .bool am, .bool nu, .bool nm, .bool na, .slice U us.length uc, .slice M ms.length mc, .bool vo, .slice V vs.length vc, .string mac, .bool pr, .bool true, .bool am, .bool nu, .bool nm, .bool na, .slice U us.length uc, .slice M ms.length mc, .bool vo, .slice V vs.length vc, .string mac, .bool pr, .bool au, .bool true, .bool nu, .bool nm, .bool na, .slice U us.length uc, .slice M ms.length mc, .bool vo, .slice V vs.length vc, .string mac, .bool pr, .bool au, .bool am, .bool nu, .bool nm, .bool na, .slice U us.length uc, .slice M ms.length mc, .bool vo, .slice V vs.length vc, .string mac, .bool pr, .bool au, .bool am, .bool nu, .bool nm, .bool na, .slice U us.length uc, .slice M ms.length mc, .bool vo, .slice V vs.length vc, .string mac, .bool pr, .bool au, .bool am, .bool nu, .bool nm, .bool na, .slice U us.length uc, .slice M ms.length mc, .bool vo, .slice V vs.length vc] 25)).heap.size = w3.heap.size + 1 := by simp
  have k8 : Gr w w3.heap.size (⟨mac, pr, au, am, nu, nm, na, U, us, uc, M, ms, mc, vo, V, vs, vc⟩ : Fl) #[.string mac, .bool true, .bool au, .bool am, .bool nu, .bool nm, .bool na, .slice U us.length uc, .slice M ms.length mc, .bool vo, .slice V vs.length vc, .string mac, .bool pr, .bool true, .bool am, .bool nu, .bool nm, .bool na, .slice U us.length uc, .slice M ms.length mc, .bool vo, .slice V vs.length vc, .string mac, .bool pr, .bool au, .bool true, .bool nu, .bool nm, .bool na, .slice U us.length uc, .slice M ms.length mc, .bool vo, .slice V vs.length vc, .string mac, .bool pr, .bool au, .bool am, .bool nu, .bool nm, .bool na, .slice U us.length uc, .slice M ms.length mc, .bool vo, .slice V vs.length vc, .string mac, .bool pr, .bool au, .bool am, .bool nu, .bool nm, .bool na, .slice U us.length uc, .slice M ms.length mc, .bool vo, .slice V vs.length vc, .string mac, .bool pr, .bool au, .bool am, .bool nu, .bool nm, .bool na, .slice U us.length uc, .slice M ms.length mc, .bool vo, .slice V vs.length vc] (w3.alloc (.cells #[.string mac, .bool true, .bool au, .bool am, .bool nu, .bool nm, .bool na, .slice U us.length uc, .slice M ms.length mc, .bool vo, .slice V vs.length vc, .string mac, .bool pr, .bool true, .bool am, .bool nu, .bool nm, .bool na, .slice U us.length uc, .slice M ms.length mc, .bool vo, .slice V vs.length vc, .string mac, .bool pr, .bool au, .bool true, .bool nu, .bool nm, .bool na, .slice U us.length uc, .slice M ms.length mc, .bool vo, .slice V vs.length vc, .string mac, .bool pr, .bool au, .bool am, .bool nu, .bool nm, .bool na, .slice U us.length uc, .slice M ms.length mc, .bool vo, .slice V vs.length vc, .string mac, .bool pr, .bool au, .bool am, .bool nu, .bool nm, .bool na, .slice U us.length uc, .slice M ms.length mc, .bool vo, .slice V vs.length vc, .string mac, .bool pr, .bool au, .bool am, .bool nu, .bool nm, .bool na, .slice U us.length uc, .slice M ms.length mc, .bool vo, .slice V vs.length vc] 25)) := ⟨ba hv3.below _, (hv3.get (show (w.heap.size, (⟨mac, pr, au, am, nu, nm, na, U, us, uc, M, ms, mc, vo, V, vs, vc⟩ : Fl)) ∈ _ by simp)).alloc _, Blk.new _ _ _, lf⟩
  obtain ⟨w8, hw8⟩ : ∃ w8, w3.alloc (.cells #[.string mac, .bool true, .bool au, .bool am, .bool nu, .bool nm, .bool na, .slice U us.length uc, .slice M ms.length mc, .bool vo, .slice V vs.length vc, .string mac, .bool pr, .bool true, .bool am, .bool nu, .bool nm, .bool na, .slice U us.length uc, .slice M ms.length mc, .bool vo, .slice V vs.length vc, .string mac, .bool pr, .bool au, .bool true, .bool nu, .bool nm, .bool na, .slice U us.length uc, .slice M ms.length mc, .bool vo, .slice V vs.length vc, .string mac, .bool pr, .bool au, .bool am, .bool nu, .bool nm, .bool na, .slice U us.length uc, .slice M ms.length mc, .bool vo, .slice V vs.length vc, .string mac, .bool pr, .bool au, .bool am, .bool nu, .bool nm, .bool na, .slice U us.length uc, .slice M ms.length mc, .bool vo, .slice V vs.length vc, .string mac, .bool pr, .bool au, .bool am, .bool nu, .bool nm, .bool na, .slice U us.length uc, .slice M ms.length mc, .bool vo, .slice V vs.length vc] 25) = w8 := ⟨_, rfl⟩
  rw [hw8] at s8 k8
  have HW8 := Lib.hid hw8
  clear hw8 hv3
  have hB8 : w3.heap.size < w8.heap.size := by omega
  clear s8
  have K8 := Lib.hid k8
  clear k8
  have g7 : w8.cell? ⟨w.heap.size, 7, none⟩ = some (.slice U us.length uc) := K8.out.f.cell 7; have lg := K8.out.f.lt; have RD := Lib.hid (reads_of ((hG.u.far (Nat.le_refl _) (K8.out.below)).far (B' := w8.heap.size) (by have := K8.out.below.size; omega) (ba (b0 w8) (.cells #[] 9)))); have OW := Lib.hid (own_empty (Blk.new w8 9 #[])); have BW := Lib.hid ((b0 w8).alloc (Nat.le_refl _) (.cells #[] 9))
  go_wp2_with (first
    | (rw [HW8.out]; clear d0 d1 d2 d3 d4 d5 d6 d7 d8 d9 d10 lf HW8)
    | (at_builtin; refine wpList_append_any _ rfl (.tmp 33) (.tmp 35) 22 rfl w8.heap.size 9 i0 _ 1 16 Try.underlying22 HI.out HZ0.out HZ1.out HZ2.out rfl (by decide) (.slice (some ⟨w8.heap.size, 0, none⟩) 0 0) 0 [] rfl OW.out w.heap.size U us.length uc (us.map strV) rfl RD.out (oneS _) (by unfold maxLen; omega) (by omega) (by simp) ?_; intro v1 w9 hown1 hg1 hat1; rw [Nat.zero_add, List.nil_append] at hown1; obtain ⟨A1, c1, rfl⟩ := own_form hown1; have ON := Lib.hid hown1; have BN := Lib.hid (BW.out.grown hg1 (by simp) (fun k hk => by have := own_ge OW.out k hk; omega)); have hz9 := hg1.size; simp at hz9; have RD2 := Lib.hid (reads_one (Blk.new w9 9 #[.string mc9])); clear hown1 hg1 hat1 OW BW RD)
    | (at_builtin; refine wpList_append_any (w9.alloc (.cells #[.string mc9] 9)) rfl (.tmp 36) (.tmp 38) 22 rfl w8.heap.size 9 i0 _ 1 16 Try.underlying22 HI.out HZ0.out HZ1.out HZ2.out rfl (by decide) (.slice A1 us.length c1) us.length (us.map strV) rfl (own_alloc ON.out _) (w9.alloc (.cells #[.string mc9] 9)).heap.size (some ⟨w9.heap.size, 0, none⟩) 1 1 [strV mc9] rfl RD2.out (oneS [mc9]) (by unfold maxLen; omega) (by omega) (by simp; omega) ?_; intro v2 w10 hown2 hg2 hat2; obtain ⟨U3, uc3, rfl⟩ := own_form hown2; have BN2 := Lib.hid ((BN.out.alloc (by omega) (.cells #[.string mc9] 9)).grown hg2 (by simp; omega) (fun k hk => by have := own_ge (own_alloc ON.out (.cells #[.string mc9] 9)) k hk; omega)); have KN := Lib.hid (K8.out.next BN2.out); have r40 := KN.out.row.cell 40; simp only [List.getElem?_toArray, List.getElem?_cons_zero, List.getElem?_cons_succ] at r40; have z40 := KN.out.row.frozen 40; have lr40 := KN.out.row.lt; have OM := Lib.hid (own_more hown2); obtain ⟨w11, hw40⟩ : ∃ w11, w10.setCell ⟨w3.heap.size, 40, none⟩ (.slice U3 (us.length + 1) uc3) = w11 := ⟨_, rfl⟩; have K11 := Lib.hid (show Gr w w3.heap.size (⟨mac, pr, au, am, nu, nm, na, U, us, uc, M, ms, mc, vo, V, vs, vc⟩ : Fl) #[.string mac, .bool true, .bool au, .bool am, .bool nu, .bool nm, .bool na, .slice U us.length uc, .slice M ms.length mc, .bool vo, .slice V vs.length vc, .string mac, .bool pr, .bool true, .bool am, .bool nu, .bool nm, .bool na, .slice U us.length uc, .slice M ms.length mc, .bool vo, .slice V vs.length vc, .string mac, .bool pr, .bool au, .bool true, .bool nu, .bool nm, .bool na, .slice U us.length uc, .slice M ms.length mc, .bool vo, .slice V vs.length vc, .string mac, .bool pr, .bool au, .bool am, .bool nu, .bool nm, .bool na, .slice U3 (us.length + 1) uc3, .slice M ms.length mc, .bool vo, .slice V vs.length vc, .string mac, .bool pr, .bool au, .bool am, .bool nu, .bool nm, .bool na, .slice U us.length uc, .slice M ms.length mc, .bool vo, .slice V vs.length vc, .string mac, .bool pr, .bool au, .bool am, .bool nu, .bool nm, .bool na, .slice U us.length uc, .slice M ms.length mc, .bool vo, .slice V vs.length vc] w11 from hw40 ▸ KN.out.set 40 _ rfl); have O40 := Lib.hid (show OwnS w8.heap.size U3 uc3 (us ++ [mc9]) w11 from hw40 ▸ own_set OM.out (g := w3.heap.size) (by omega) 40 _); have HW11 := Lib.hid hw40; clear hown2 hg2 hat2 hw40 ON BN RD2 hz9 OM)
    | (rw [HW11.out]; clear r40 z40 lr40 g7 lg KN BN2 HW11; have hB11 : w3.heap.size < w11.heap.size := K11.out.row.lt; have g8 : w11.cell? ⟨w.heap.size, 8, none⟩ = some (.slice M ms.length mc) := K11.out.f.cell 8; have lg := K11.out.f.lt; have RD := Lib.hid (reads_of ((hG.m.far (Nat.le_refl _) (K11.out.below)).far (B' := w11.heap.size) (by have := K11.out.below.size; omega) (ba (b0 w11) (.cells #[] 9)))); have OW := Lib.hid (own_empty (Blk.new w11 9 #[])); have BW := Lib.hid ((b0 w11).alloc (Nat.le_refl _) (.cells #[] 9)))
    | (at_builtin; refine wpList_append_any _ rfl (.tmp 43) (.tmp 45) 22 rfl w11.heap.size 9 i0 _ 1 16 Try.underlying22 HI.out HZ0.out HZ1.out HZ2.out rfl (by decide) (.slice (some ⟨w11.heap.size, 0, none⟩) 0 0) 0 [] rfl OW.out w.heap.size M ms.length mc (ms.map strV) rfl RD.out (oneS _) (by unfold maxLen; omega) (by omega) (by simp) ?_; intro v1 w9 hown1 hg1 hat1; rw [Nat.zero_add, List.nil_append] at hown1; obtain ⟨A1, c1, rfl⟩ := own_form hown1; have ON := Lib.hid hown1; have BN := Lib.hid (BW.out.grown hg1 (by simp) (fun k hk => by have := own_ge OW.out k hk; omega)); have hz9 := hg1.size; simp at hz9; have RD2 := Lib.hid (reads_one (Blk.new w9 9 #[.string mc9])); clear hown1 hg1 hat1 OW BW RD)
    | (at_builtin; refine wpList_append_any (w9.alloc (.cells #[.string mc9] 9)) rfl (.tmp 46) (.tmp 48) 22 rfl w11.heap.size 9 i0 _ 1 16 Try.underlying22 HI.out HZ0.out HZ1.out HZ2.out rfl (by decide) (.slice A1 ms.length c1) ms.length (ms.map strV) rfl (own_alloc ON.out _) (w9.alloc (.cells #[.string mc9] 9)).heap.size (some ⟨w9.heap.size, 0, none⟩) 1 1 [strV mc9] rfl RD2.out (oneS [mc9]) (by unfold maxLen; omega) (by omega) (by simp; omega) ?_; intro v2 w10 hown2 hg2 hat2; obtain ⟨M4, mc4, rfl⟩ := own_form hown2; have BN2 := Lib.hid ((BN.out.alloc (by omega) (.cells #[.string mc9] 9)).grown hg2 (by simp; omega) (fun k hk => by have := own_ge (own_alloc ON.out (.cells #[.string mc9] 9)) k hk; omega)); have KN := Lib.hid (K11.out.next BN2.out); have r52 := KN.out.row.cell 52; simp only [List.getElem?_toArray, List.getElem?_cons_zero, List.getElem?_cons_succ] at r52; have z52 := KN.out.row.frozen 52; have lr52 := KN.out.row.lt; have OM := Lib.hid (own_more hown2); obtain ⟨w14, hw52⟩ : ∃ w14, w10.setCell ⟨w3.heap.size, 52, none⟩ (.slice M4 (ms.length + 1) mc4) = w14 := ⟨_, rfl⟩; have K14 := Lib.hid (show Gr w w3.heap.size (⟨mac, pr, au, am, nu, nm, na, U, us, uc, M, ms, mc, vo, V, vs, vc⟩ : Fl) #[.string mac, .bool true, .bool au, .bool am, .bool nu, .bool nm, .bool na, .slice U us.length uc, .slice M ms.length mc, .bool vo, .slice V vs.length vc, .string mac, .bool pr, .bool true, .bool am, .bool nu, .bool nm, .bool na, .slice U us.length uc, .slice M ms.length mc, .bool vo, .slice V vs.length vc, .string mac, .bool pr, .bool au, .bool true, .bool nu, .bool nm, .bool na, .slice U us.length uc, .slice M ms.length mc, .bool vo, .slice V vs.length vc, .string mac, .bool pr, .bool au, .bool am, .bool nu, .bool nm, .bool na, .slice U3 (us.length + 1) uc3, .slice M ms.length mc, .bool vo, .slice V vs.length vc, .string mac, .bool pr, .bool au, .bool am, .bool nu, .bool nm, .bool na, .slice U us.length uc, .slice M4 (ms.length + 1) mc4, .bool vo, .slice V vs.length vc, .string mac, .bool pr, .bool au, .bool am, .bool nu, .bool nm, .bool na, .slice U us.length uc, .slice M ms.length mc, .bool vo, .slice V vs.length vc] w14 from hw52 ▸ KN.out.set 52 _ rfl); have O52 := Lib.hid (show OwnS w11.heap.size M4 mc4 (ms ++ [mc9]) w14 from hw52 ▸ own_set OM.out (g := w3.heap.size) (by omega) 52 _); have O40b := Lib.hid (show OwnS w8.heap.size U3 uc3 (us ++ [mc9]) w14 from hw52 ▸ own_set (own_next O40.out BN2.out) (g := w3.heap.size) (by omega) 52 _); have HW14 := Lib.hid hw52; clear hown2 hg2 hat2 hw52 ON BN RD2 hz9 OM)
    | (rw [HW14.out]; clear r52 z52 lr52 g8 lg KN BN2 HW14; have r64 := K14.out.row.cell 64; simp only [List.getElem?_toArray, List.getElem?_cons_zero, List.getElem?_cons_succ] at r64; have z64 := K14.out.row.frozen 64; have lr64 := K14.out.row.lt; obtain ⟨w15, hw64⟩ : ∃ w15, w14.setCell ⟨w3.heap.size, 64, none⟩ (.bool false) = w15 := ⟨_, rfl⟩; have K15 := Lib.hid (show Gr w w3.heap.size (⟨mac, pr, au, am, nu, nm, na, U, us, uc, M, ms, mc, vo, V, vs, vc⟩ : Fl) #[.string mac, .bool true, .bool au, .bool am, .bool nu, .bool nm, .bool na, .slice U us.length uc, .slice M ms.length mc, .bool vo, .slice V vs.length vc, .string mac, .bool pr, .bool true, .bool am, .bool nu, .bool nm, .bool na, .slice U us.length uc, .slice M ms.length mc, .bool vo, .slice V vs.length vc, .string mac, .bool pr, .bool au, .bool true, .bool nu, .bool nm, .bool na, .slice U us.length uc, .slice M ms.length mc, .bool vo, .slice V vs.length vc, .string mac, .bool pr, .bool au, .bool am, .bool nu, .bool nm, .bool na, .slice U3 (us.length + 1) uc3, .slice M ms.length mc, .bool vo, .slice V vs.length vc, .string mac, .bool pr, .bool au, .bool am, .bool nu, .bool nm, .bool na, .slice U us.length uc, .slice M4 (ms.length + 1) mc4, .bool vo, .slice V vs.length vc, .string mac, .bool pr, .bool au, .bool am, .bool nu, .bool nm, .bool na, .slice U us.length uc, .slice M ms.length mc, .bool false, .slice V vs.length vc] w15 from hw64 ▸ K14.out.set 64 _ rfl); have P3 := Lib.hid (show OwnS w8.heap.size U3 uc3 (us ++ [mc9]) w15 from hw64 ▸ own_set O40b.out (g := w3.heap.size) (by omega) 64 _); have P4 := Lib.hid (show OwnS w11.heap.size M4 mc4 (ms ++ [mc9]) w15 from hw64 ▸ own_set O52.out (g := w3.heap.size) (by omega) 64 _); have HW15 := Lib.hid hw64; clear hw64 O40 O40b O52)
    | (rw [HW15.out]; clear r64 z64 lr64 HW15))
  have hq15 : Rd w15.heap.size U3 ((us ++ [mc9]).map strV) w15 := Rd.own P3.out (Nat.le_refl _)
  have hm15 : Rd w15.heap.size M4 ((ms ++ [mc9]).map strV) w15 := Rd.own P4.out (Nat.le_refl _)
  have HQ := Lib.hid hq15
  have HM := Lib.hid hm15
  clear hq15 hm15
  go_loopw [8] (fun i wr => ∃ k : Nat, k ≤ 6 ∧ i = .int .i64 k ∧ Gr w w3.heap.size (⟨mac, pr, au, am, nu, nm, na, U, us, uc, M, ms, mc, vo, V, vs, vc⟩ : Fl) #[.string mac, .bool true, .bool au, .bool am, .bool nu, .bool nm, .bool na, .slice U us.length uc, .slice M ms.length mc, .bool vo, .slice V vs.length vc, .string mac, .bool pr, .bool true, .bool am, .bool nu, .bool nm, .bool na, .slice U us.length uc, .slice M ms.length mc, .bool vo, .slice V vs.length vc, .string mac, .bool pr, .bool au, .bool true, .bool nu, .bool nm, .bool na, .slice U us.length uc, .slice M ms.length mc, .bool vo, .slice V vs.length vc, .string mac, .bool pr, .bool au, .bool am, .bool nu, .bool nm, .bool na, .slice U3 (us.length + 1) uc3, .slice M ms.length mc, .bool vo, .slice V vs.length vc, .string mac, .bool pr, .bool au, .bool am, .bool nu, .bool nm, .bool na, .slice U us.length uc, .slice M4 (ms.length + 1) mc4, .bool vo, .slice V vs.length vc, .string mac, .bool pr, .bool au, .bool am, .bool nu, .bool nm, .bool na, .slice U us.length uc, .slice M ms.length mc, .bool false, .slice V vs.length vc] wr ∧ Rd w15.heap.size U3 ((us ++ [mc9]).map strV) wr ∧ Rd w15.heap.size M4 ((ms ++ [mc9]).map strV) wr ∧ w15.heap.size ≤ wr.heap.size) (fun i _ => 6 - (intOf i).toNat)
  case atStart => exact ⟨0, by omega, rfl, K15.out, HQ.out, HM.out, Nat.le_refl _⟩
  case round =>
    obtain ⟨k, hk, rfl, hgr, hru, hrm, hsz⟩ := hrel
    clear K8 K11 K14 K15 P3 P4 HQ HM hB8
    have hvs := vs_of_gr hG hl hgr
    by_cases hlt : k < 6
    · have hkc : k = 0 ∨ k = 1 ∨ k = 2 ∨ k = 3 ∨ k = 4 ∨ k = 5 := by omega
      clear hk hlt
      rcases hkc with rfl | rfl | rfl | rfl | rfl | rfl
      · have row := hgr.row
        have t0 := row.cell 0
        have t1 := row.cell 1
        have t2 := row.cell 2
        have t3 := row.cell 3
        have t4 := row.cell 4
        have t5 := row.cell 5
        have t6 := row.cell 6
        have t7 := row.cell 7
        have t8 := row.cell 8
        have t9 := row.cell 9
        have t10 := row.cell 10
        simp only [List.getElem?_toArray, List.getElem?_cons_zero, List.getElem?_cons_succ] at t0 t1 t2 t3 t4 t5 t6 t7 t8 t9 t10
        clear row
        have CD := Lib.hid (H0.out wr hvs)
        have GX := Lib.hid hgr
        have RU := Lib.hid hru
        have RM := Lib.hid hrm
        have SZ := Lib.hid hsz
        clear hgr hru hrm hsz hvs
        go_wp2_with fail
        refine (CD.out).mono ?_
        rintro e w17 ⟨rfl, hq⟩
        go_wp2_with fail
        go_roundw
        case rel => exact ⟨1, by omega, rfl, GX.out.next hq, RU.out.far SZ.out hq, RM.out.far SZ.out hq, Nat.le_trans SZ.out hq.size⟩
        case measure => simp [intOf]
      · have row := hgr.row
        have t0 := row.cell 11
        have t1 := row.cell 12
        have t2 := row.cell 13
        have t3 := row.cell 14
        have t4 := row.cell 15
        have t5 := row.cell 16
        have t6 := row.cell 17
        have t7 := row.cell 18
        have t8 := row.cell 19
        have t9 := row.cell 20
        have t10 := row.cell 21
        simp only [List.getElem?_toArray, List.getElem?_cons_zero, List.getElem?_cons_succ] at t0 t1 t2 t3 t4 t5 t6 t7 t8 t9 t10
        clear row
        have CD := Lib.hid (H1.out wr hvs)
        have GX := Lib.hid hgr
        have RU := Lib.hid hru
        have RM := Lib.hid hrm
        have SZ := Lib.hid hsz
        clear hgr hru hrm hsz hvs
        go_wp2_with fail
        refine (CD.out).mono ?_
        rintro e w17 ⟨rfl, hq⟩
        go_wp2_with fail
        go_roundw
        case rel => exact ⟨2, by omega, rfl, GX.out.next hq, RU.out.far SZ.out hq, RM.out.far SZ.out hq, Nat.le_trans SZ.out hq.size⟩
        case measure => simp [intOf]
      · have row := hgr.row
        have t0 := row.cell 22
        have t1 := row.cell 23
        have t2 := row.cell 24
        have t3 := row.cell 25
        have t4 := row.cell 26
        have t5 := row.cell 27
        have t6 := row.cell 28
        have t7 := row.cell 29
        have t8 := row.cell 30
        have t9 := row.cell 31
        have t10 := row.cell 32
        simp only [List.getElem?_toArray, List.getElem?_cons_zero, List.getElem?_cons_succ] at t0 t1 t2 t3 t4 t5 t6 t7 t8 t9 t10
        clear row
        have CD := Lib.hid (H2.out wr hvs)
        have GX := Lib.hid hgr
        have RU := Lib.hid hru
        have RM := Lib.hid hrm
        have SZ := Lib.hid hsz
        clear hgr hru hrm hsz hvs
        go_wp2_with fail
        refine (CD.out).mono ?_
        rintro e w17 ⟨rfl, hq⟩
        go_wp2_with fail
        go_roundw
        case rel => exact ⟨3, by omega, rfl, GX.out.next hq, RU.out.far SZ.out hq, RM.out.far SZ.out hq, Nat.le_trans SZ.out hq.size⟩
        case measure => simp [intOf]
      · have row := hgr.row
        have t0 := row.cell 33
        have t1 := row.cell 34
        have t2 := row.cell 35
        have t3 := row.cell 36
        have t4 := row.cell 37
        have t5 := row.cell 38
        have t6 := row.cell 39
        have t7 := row.cell 40
        have t8 := row.cell 41
        have t9 := row.cell 42
        have t10 := row.cell 43
        simp only [List.getElem?_toArray, List.getElem?_cons_zero, List.getElem?_cons_succ] at t0 t1 t2 t3 t4 t5 t6 t7 t8 t9 t10
        clear row
        have CD := Lib.hid (H3.out U3 uc3 wr hvs (hru.more hsz))
        have GX := Lib.hid hgr
        have RU := Lib.hid hru
        have RM := Lib.hid hrm
        have SZ := Lib.hid hsz
        clear hgr hru hrm hsz hvs
        go_wp2_with fail
        refine (CD.out).mono ?_
        rintro e w17 ⟨rfl, hq⟩
        go_wp2_with fail
        go_roundw
        case rel => exact ⟨4, by omega, rfl, GX.out.next hq, RU.out.far SZ.out hq, RM.out.far SZ.out hq, Nat.le_trans SZ.out hq.size⟩
        case measure => simp [intOf]
      · have row := hgr.row
        have t0 := row.cell 44
        have t1 := row.cell 45
        have t2 := row.cell 46
        have t3 := row.cell 47
        have t4 := row.cell 48
        have t5 := row.cell 49
        have t6 := row.cell 50
        have t7 := row.cell 51
        have t8 := row.cell 52
        have t9 := row.cell 53
        have t10 := row.cell 54
        simp only [List.getElem?_toArray, List.getElem?_cons_zero, List.getElem?_cons_succ] at t0 t1 t2 t3 t4 t5 t6 t7 t8 t9 t10
        clear row
        have CD := Lib.hid (H4.out M4 mc4 wr hvs (hrm.more hsz))
        have GX := Lib.hid hgr
        have RU := Lib.hid hru
        have RM := Lib.hid hrm
        have SZ := Lib.hid hsz
        clear hgr hru hrm hsz hvs
        go_wp2_with fail
        refine (CD.out).mono ?_
        rintro e w17 ⟨rfl, hq⟩
        go_wp2_with fail
        go_roundw
        case rel => exact ⟨5, by omega, rfl, GX.out.next hq, RU.out.far SZ.out hq, RM.out.far SZ.out hq, Nat.le_trans SZ.out hq.size⟩
        case measure => simp [intOf]
      · have row := hgr.row
        have t0 := row.cell 55
        have t1 := row.cell 56
        have t2 := row.cell 57
        have t3 := row.cell 58
        have t4 := row.cell 59
        have t5 := row.cell 60
        have t6 := row.cell 61
        have t7 := row.cell 62
        have t8 := row.cell 63
        have t9 := row.cell 64
        have t10 := row.cell 65
        simp only [List.getElem?_toArray, List.getElem?_cons_zero, List.getElem?_cons_succ] at t0 t1 t2 t3 t4 t5 t6 t7 t8 t9 t10
        clear row
        have CD := Lib.hid (H5.out wr hvs)
        have GX := Lib.hid hgr
        have RU := Lib.hid hru
        have RM := Lib.hid hrm
        have SZ := Lib.hid hsz
        clear hgr hru hrm hsz hvs
        go_wp2_with fail
        refine (CD.out).mono ?_
        rintro e w17 ⟨rfl, hq⟩
        go_wp2_with fail
        go_roundw
        case rel => exact ⟨6, by omega, rfl, GX.out.next hq, RU.out.far SZ.out hq, RM.out.far SZ.out hq, Nat.le_trans SZ.out hq.size⟩
        case measure => simp [intOf]
    · obtain rfl : k = 6 := by omega
      go_wp2_with fail
      refine (fixed_step hvs).mono ?_
      rintro e w18 ⟨rfl, hv9⟩
      go_wp2_with fail
      go_ret
      exact ⟨rfl, hv9.below⟩
set_option maxHeartbeats 2000000 in
theorem grows_no (mac0 mac : ByteArray) (pr0 au0 am0 nu0 nm0 na0 vo0 pr au am nu nm na vo : Bool) (U0 M0 V0 U M V : Option Addr) (us0 ms0 us ms : List ByteArray) (vs0 vs : List Int) (uc0 mc0 vc0 uc mc vc : Nat) (s mc9 : ByteArray) (w : World) (hG : (⟨mac, pr, au, am, nu, nm, na, U, us, uc, M, ms, mc, vo, V, vs, vc⟩ : Fl).At w.heap.size w) (hl : (⟨mac, pr, au, am, nu, nm, na, U, us, uc, M, ms, mc, vo, V, vs, vc⟩ : Fl).Few)
    (AB : ∀ W, Calls Try.prog 9 #[.agg #[.string mac0, .bool pr0, .bool au0, .bool am0, .bool nu0, .bool nm0, .bool na0, .slice U0 us0.length uc0, .slice M0 ms0.length mc0, .bool vo0, .slice V0 vs0.length vc0]] W fun e w' => e = .returned (.agg #[.string mac, .bool pr, .bool au, .bool am, .bool nu, .bool nm, .bool na, .slice U us.length uc, .slice M ms.length mc, .bool vo, .slice V vs.length vc]) ∧ Below W.heap.size W w')
    (A0 : ∀ W, Vs w [(w.heap.size, ⟨mac, pr, au, am, nu, nm, na, U, us, uc, M, ms, mc, vo, V, vs, vc⟩)] W → Calls Try.prog 13 #[.agg #[.string mac, .bool pr, .bool au, .bool am, .bool nu, .bool nm, .bool na, .slice U us.length uc, .slice M ms.length mc, .bool vo, .slice V vs.length vc], .string s] W fun e w' => e = .returned (.bool false) ∧ Below W.heap.size W w') :
    Calls Try.prog 5 #[.agg #[.string mac0, .bool pr0, .bool au0, .bool am0, .bool nu0, .bool nm0, .bool na0, .slice U0 us0.length uc0, .slice M0 ms0.length mc0, .bool vo0, .slice V0 vs0.length vc0], .string s, .string mc9] w fun e w' => e = .returned (.bool true) ∧ Below w.heap.size w w' := by
  have HB := Lib.hid AB
  have HA := Lib.hid A0
  clear AB A0
  go_enter Try.func5, Try.ntmps5
  go_wp2_with fail
  refine (HB.out _).mono ?_
  rintro e w1 ⟨rfl, hq⟩
  have k1 : Blk w1 w.heap.size 25 #[.string mac0, .bool pr0, .bool au0, .bool am0, .bool nu0, .bool nm0, .bool na0, .slice U0 us0.length uc0, .slice M0 ms0.length mc0, .bool vo0, .slice V0 vs0.length vc0] := (Blk.new w 25 _).next hq
  have c0 := k1.cell 0
  have c1 := k1.cell 1
  have c2 := k1.cell 2
  have c3 := k1.cell 3
  have c4 := k1.cell 4
  have c5 := k1.cell 5
  have c6 := k1.cell 6
  have c7 := k1.cell 7
  have c8 := k1.cell 8
  have c9 := k1.cell 9
  have c10 := k1.cell 10
  simp only [List.getElem?_toArray, List.getElem?_cons_zero, List.getElem?_cons_succ] at c0 c1 c2 c3 c4 c5 c6 c7 c8 c9 c10
  have f0 := k1.frozen 0
  have f1 := k1.frozen 1
  have f2 := k1.frozen 2
  have f3 := k1.frozen 3
  have f4 := k1.frozen 4
  have f5 := k1.frozen 5
  have f6 := k1.frozen 6
  have f7 := k1.frozen 7
  have f8 := k1.frozen 8
  have f9 := k1.frozen 9
  have f10 := k1.frozen 10
  obtain ⟨w2, hw2⟩ : ∃ w2, (((((((((((w1.setCell ⟨w.heap.size, 0, none⟩ (.string mac)).setCell ⟨w.heap.size, 1, none⟩ (.bool pr)).setCell ⟨w.heap.size, 2, none⟩ (.bool au)).setCell ⟨w.heap.size, 3, none⟩ (.bool am)).setCell ⟨w.heap.size, 4, none⟩ (.bool nu)).setCell ⟨w.heap.size, 5, none⟩ (.bool nm)).setCell ⟨w.heap.size, 6, none⟩ (.bool na)).setCell ⟨w.heap.size, 7, none⟩ (.slice U us.length uc)).setCell ⟨w.heap.size, 8, none⟩ (.slice M ms.length mc)).setCell ⟨w.heap.size, 9, none⟩ (.bool vo)).setCell ⟨w.heap.size, 10, none⟩ (.slice V vs.length vc)) = w2 := ⟨_, rfl⟩
  have hv : Vs w [(w.heap.size, ⟨mac, pr, au, am, nu, nm, na, U, us, uc, M, ms, mc, vo, V, vs, vc⟩)] w2 := hw2 ▸ vs_begin (F := ⟨mac0, pr0, au0, am0, nu0, nm0, na0, U0, us0, uc0, M0, ms0, mc0, vo0, V0, vs0, vc0⟩) (G := ⟨mac, pr, au, am, nu, nm, na, U, us, uc, M, ms, mc, vo, V, vs, vc⟩) hG hl hq
  have HW := Lib.hid hw2
  have k2 : Blk w2 w.heap.size 25 #[.string mac, .bool pr, .bool au, .bool am, .bool nu, .bool nm, .bool na, .slice U us.length uc, .slice M ms.length mc, .bool vo, .slice V vs.length vc] := hv.get (show (w.heap.size, (⟨mac, pr, au, am, nu, nm, na, U, us, uc, M, ms, mc, vo, V, vs, vc⟩ : Fl)) ∈ _ by simp)
  clear hw2 k1 hq
  have d0 := k2.cell 0
  have d1 := k2.cell 1
  have d2 := k2.cell 2
  have d3 := k2.cell 3
  have d4 := k2.cell 4
  have d5 := k2.cell 5
  have d6 := k2.cell 6
  have d7 := k2.cell 7
  have d8 := k2.cell 8
  have d9 := k2.cell 9
  have d10 := k2.cell 10
  simp only [List.getElem?_toArray, List.getElem?_cons_zero, List.getElem?_cons_succ] at d0 d1 d2 d3 d4 d5 d6 d7 d8 d9 d10
  clear k2
  go_wp2_with (rw [HW.out]; clear c0 c1 c2 c3 c4 c5 c6 c7 c8 c9 c10 f0 f1 f2 f3 f4 f5 f6 f7 f8 f9 f10 HW)
  refine (HA.out _ hv).mono ?_
  rintro e w3 ⟨rfl, hq⟩
  have hv3 := hv.next hq
  clear hq hv d0 d1 d2 d3 d4 d5 d6 d7 d8 d9 d10
  go_wp2_with fail
  refine (fixed_step hv3).mono ?_
  rintro e w4 ⟨rfl, hv4⟩
  go_wp2_with fail
  go_ret
  exact ⟨rfl, hv4.below⟩
theorem adB_mono {F G : Fl} {s : ByteArray} (hv : ∀ v, adV F v = true → adV G v = true) (hp : F.pr = true → G.pr = true) (hd : ∀ d, adD F d = true → (G.pr || adD G d) = true) (h : adB F s = true) : adB G s = true := by
  unfold adB at h ⊢
  split at h
  · rename_i he
    rw [if_pos he]
    rw [Bool.and_eq_true, Bool.or_eq_true] at h
    rw [Bool.and_eq_true]
    refine ⟨hv _ h.1, ?_⟩
    rcases h.2 with q | q
    · rw [hp q]; rfl
    · exact hd _ q
  · cases h
theorem hasS_more {L : List ByteArray} {x d : ByteArray} (h : hasS L d = true) : hasS (L ++ [x]) d = true := hasS_iff.2 (List.mem_append.2 (.inl (hasS_iff.1 h)))
theorem up0 (F : Fl) (s : ByteArray) (h : adB F s = true) : adB { F with pr := true } s = true := adB_mono (F := F) (G := { F with pr := true }) (fun _ q => q) (fun _ => rfl) (fun _ _ => rfl) h
theorem up1 (F : Fl) (s : ByteArray) (h : adB F s = true) : adB { F with au := true } s = true := by
  refine adB_mono (F := F) (G := { F with au := true }) (fun _ q => q) (fun q => q) (fun d q => ?_) h
  rw [Bool.or_eq_true]
  right
  unfold adD at q ⊢
  split at q
  · rename_i k; rw [if_pos k]; exact q
  · rename_i k; rw [if_neg k]
    split at q
    · rename_i k; rw [if_pos k]; exact q
    · rename_i k; rw [if_neg k]
      split at q
      · rename_i k; rw [if_pos k]; rfl
      · cases q
theorem up2 (F : Fl) (s : ByteArray) (h : adB F s = true) : adB { F with am := true } s = true := by
  refine adB_mono (F := F) (G := { F with am := true }) (fun _ q => q) (fun q => q) (fun d q => ?_) h
  rw [Bool.or_eq_true]
  right
  unfold adD at q ⊢
  split at q
  · rename_i k; rw [if_pos k]; exact q
  · rename_i k; rw [if_neg k]
    split at q
    · rename_i k; rw [if_pos k]; rfl
    · rename_i k; rw [if_neg k]
      split at q
      · rename_i k; rw [if_pos k]; exact q
      · cases q
theorem up3 (F : Fl) (s x : ByteArray) (U : Option Addr) (c : Nat) (h : adB F s = true) : adB { F with U := U, us := F.us ++ [x], uc := c } s = true := by
  refine adB_mono (F := F) (G := { F with U := U, us := F.us ++ [x], uc := c }) (fun _ q => q) (fun q => q) (fun d q => ?_) h
  rw [Bool.or_eq_true]
  right
  unfold adD at q ⊢
  split at q
  · rename_i k; rw [if_pos k]; exact q
  · rename_i k; rw [if_neg k]
    split at q
    · rename_i k; rw [if_pos k]; exact q
    · rename_i k; rw [if_neg k]
      split at q
      · rename_i k; rw [if_pos k]
        rw [Bool.or_eq_true, Bool.and_eq_true, Bool.or_eq_true] at q ⊢
        rcases q with q | ⟨q1, q | q⟩
        · exact .inl q
        · exact .inr ⟨q1, .inl q⟩
        · exact .inr ⟨q1, .inr (hasS_more q)⟩
      · cases q
theorem up4 (F : Fl) (s x : ByteArray) (M : Option Addr) (c : Nat) (h : adB F s = true) : adB { F with M := M, ms := F.ms ++ [x], mc := c } s = true := by
  refine adB_mono (F := F) (G := { F with M := M, ms := F.ms ++ [x], mc := c }) (fun _ q => q) (fun q => q) (fun d q => ?_) h
  rw [Bool.or_eq_true]
  right
  unfold adD at q ⊢
  split at q
  · rename_i k; rw [if_pos k]; exact q
  · rename_i k; rw [if_neg k]
    split at q
    · rename_i k; rw [if_pos k]
      rw [Bool.or_eq_true, Bool.and_eq_true] at q ⊢
      rcases q with q | ⟨q1, q⟩
      · exact .inl q
      · exact .inr ⟨q1, hasS_more q⟩
    · rename_i k; rw [if_neg k]
      split at q
      · rename_i k; rw [if_pos k]; exact q
      · cases q
theorem up5 (F : Fl) (s : ByteArray) (h : adB F s = true) : adB { F with vo := false } s = true :=
  adB_mono (F := F) (G := { F with vo := false }) (fun _ _ => rfl) (fun q => q) (fun d q => by rw [Bool.or_eq_true]; exact .inr q) h
theorem filterGrows_any (F : Fl) (s mc9 : ByteArray) (w : World) (hF : F.At w.heap.size w) (hFit : F.Fit) :
    Calls Try.prog 5 #[F.val, .string s, .string mc9] w fun e w' => e = .returned (.bool true) ∧ Below w.heap.size w w' := by
  have AB := fun W => bound_any F W hFit
  have hG := bnd_at hF
  have hl := bnd_few F
  have hu20 : (bnd F).us.length ≤ 20 := by show (F.us.take 20).length ≤ 20; rw [List.length_take]; omega
  have hm20 : (bnd F).ms.length ≤ 20 := by show (F.ms.take 20).length ≤ 20; rw [List.length_take]; omega
  generalize bnd F = G at *
  have A0 : ∀ W, Vs w [(w.heap.size, G)] W → Calls Try.prog 13 #[G.val, .string s] W fun e w' => e = .returned (.bool (adB G s)) ∧ Below W.heap.size W w' := fun W h =>
    adm_any G s W.heap.size W (h.at (show (w.heap.size, G) ∈ _ from List.mem_singleton.2 rfl)) (Nat.le_refl _) hl
  cases had : adB G s
  · rw [had] at A0
    exact grows_no F.mac G.mac F.pr F.au F.am F.nu F.nm F.na F.vo G.pr G.au G.am G.nu G.nm G.na G.vo F.U F.M F.V G.U G.M G.V F.us F.ms G.us G.ms F.vs G.vs F.uc F.mc F.vc G.uc G.mc G.vc s mc9 w hG hl AB A0
  · rw [had] at A0
    have hat : ∀ W, Vs w [(w.heap.size, G)] W → G.At W.heap.size W := fun W h => h.at (show (w.heap.size, G) ∈ _ from List.mem_singleton.2 rfl)
    have main : ∀ (E : Fl) W, E.At W.heap.size W → E.Few → adB E s = true → Calls Try.prog 13 #[E.val, .string s] W fun e w' => e = .returned (.bool true) ∧ Below W.heap.size W w' := fun E W h1 h2 h3 => by
      have := adm_any E s W.heap.size W h1 (Nat.le_refl _) h2
      rw [h3] at this
      exact this
    refine grows_walk F.mac G.mac F.pr F.au F.am F.nu F.nm F.na F.vo G.pr G.au G.am G.nu G.nm G.na G.vo F.U F.M F.V G.U G.M G.V F.us F.ms G.us G.ms F.vs G.vs F.uc F.mc F.vc G.uc G.mc G.vc s mc9 w hG hl (by omega) (by omega) AB A0 ?_ ?_ ?_ ?_ ?_ ?_
    · exact fun W h => main { G with pr := true } W ⟨(hat W h).u, (hat W h).m, (hat W h).v⟩ ⟨hl.u, hl.m, hl.v⟩ (up0 G s had)
    · exact fun W h => main { G with au := true } W ⟨(hat W h).u, (hat W h).m, (hat W h).v⟩ ⟨hl.u, hl.m, hl.v⟩ (up1 G s had)
    · exact fun W h => main { G with am := true } W ⟨(hat W h).u, (hat W h).m, (hat W h).v⟩ ⟨hl.u, hl.m, hl.v⟩ (up2 G s had)
    · intro U3 uc3 W h hr
      have hlen : (G.us ++ [mc9]).length = G.us.length + 1 := by simp
      have := main { G with U := U3, us := G.us ++ [mc9], uc := uc3 } W ⟨hr, (hat W h).m, (hat W h).v⟩ ⟨by show (G.us ++ [mc9]).length ≤ 100; omega, hl.m, hl.v⟩ (up3 G s mc9 U3 uc3 had)
      simp only [Fl.val, Fl.cells, hlen] at this
      exact this
    · intro M4 mc4 W h hr
      have hlen : (G.ms ++ [mc9]).length = G.ms.length + 1 := by simp
      have := main { G with M := M4, ms := G.ms ++ [mc9], mc := mc4 } W ⟨(hat W h).u, hr, (hat W h).v⟩ ⟨hl.u, by show (G.ms ++ [mc9]).length ≤ 100; omega, hl.v⟩ (up4 G s mc9 M4 mc4 had)
      simp only [Fl.val, Fl.cells, hlen] at this
      exact this
    · exact fun W h => main { G with vo := false } W ⟨(hat W h).u, (hat W h).m, (hat W h).v⟩ ⟨hl.u, hl.m, hl.v⟩ (up5 G s had)

set_option maxRecDepth 100000 in
theorem filterGrows_lifted (os : Os) (started : os.Started) (H : Type) (enc : TypeId × Value → H) :
    ReturnsInHanded {} Try.checked os 5 .any (Rows.filterGrowsSpec.pre6 enc Try.prog Try.f5 Rows.filterGrowsRow.domain false) (Rows.filterGrowsSpec.post enc Try.prog Try.f5 false true false false) := by
  have e : Try.f5.params.toList = [25, 9, 9] := by rw [Try.params5]
  refine law_of_walk (C := Try.checked) (tb := 4) H enc Try.own started (by kernel_rfl) Try.func5 Try.laidOut rfl rfl Try.underlying4 ?_ ?_
    (ChangeSpec.witness6 (enc := enc) (C := Try.checked) false ⟨#[], #[.agg #[.string ByteArray.empty, .bool false, .bool false, .bool false, .bool false, .bool false, .bool false, .slice none 0 0, .slice none 0 0, .bool false, .slice none 0 0], .string ByteArray.empty, .string ByteArray.empty], []⟩ 8 (by kernel_rfl) (by kernel_rfl) (by kernel_rfl) (by kernel_rfl)) ?_
  · rw [e]
    intro t ht
    simp only [List.mem_cons, List.not_mem_nil, or_false] at ht
    rcases ht with rfl | rfl | rfl <;> exact ⟨by kernel_rfl, of_decide_eq_true (by kernel_rfl)⟩
  · intro ds hds
    rw [e] at hds
    match ds, hds with
    | [d0, d1, d2], _ => rfl
  · intro W base args ds p hval0 hA0 hsz0
    have hval : ∀ (j : Nat) t v, Try.f5.params[j]? = some t → args[j]? = some v → Value.okWide Try.prog W .any base t v := hval0
    have hA : DataW.TrodAll enc Try.prog W 0 (fun _ => true) true Try.f5.params.toList args.toList ds p := hA0
    have hsz : (DataW.weightsEach Try.prog Try.f5.params.toList ds).all (· ≤ reachBytes) = true := hsz0
    rw [Try.params5] at hA hval hsz
    obtain ⟨v0, v1, v2, d0, d1, d2, p0, p1, p2, rfl, rfl, rfl, h0, h1, h2⟩ := trodAll_three hA
    obtain ⟨F, rfl, hF, hFit⟩ := open_filter (hval 0 25 v0 rfl rfl) h0
    obtain ⟨x1, rfl, rfl, rfl, _⟩ := open_string Try.underlying9 (hval 1 9 v1 rfl rfl) h1
    obtain ⟨x2, rfl, rfl, rfl, _⟩ := open_string Try.underlying9 (hval 2 9 v2 rfl rfl) h2
    have s1 := sized_string hsz (j := 1) (t := 9) rfl rfl
    simp only [reachBytes] at s1
    have s2 := sized_string hsz (j := 2) (t := 9) rfl rfl
    simp only [reachBytes] at s2
    exact filterGrows_any F x1 x2 W hF hFit

theorem filterGrows_holds : Rows.FilterGrowsSaid :=
  OpenClaim.holds_of_wide 5 Try.f5 rfl rfl rfl rfl rfl rfl rfl ⟨rfl, rfl, rfl, rfl, rfl⟩ rfl rfl rfl rfl rfl (by kernel_rfl) Try.func5 (by kernel_rfl)
    (of_decide_eq_true (by kernel_rfl)) (by unfold Func.isWrapper; first | (rw [if_pos (by decide +kernel)]; kernel_rfl) | (rw [if_neg (by decide +kernel)]; exact ⟨rfl, rfl⟩))
    (fun os started H enc _ => filterGrows_lifted os started H enc)
end Go.Proofs.Ytboinnejkghfiaa
