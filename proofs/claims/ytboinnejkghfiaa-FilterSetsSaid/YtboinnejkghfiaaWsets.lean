/-
  FilterSets: what any filter is with a network, and without it, is as the document says; what is told is its owner's.
-/
import Derived.Test.YtboinnejkghfiaaVp
import Derived.Test.YtboinnejkghfiaaMt
namespace Go.Proofs.Ytboinnejkghfiaa
open Go.Joins Go.ChangeShapes Go.WideShapes Go.ChangeAt Go.RowKit Go.Deep
open Go.ChangeMaps (open_string)

theorem vs_begin {F G : Fl} {w w1 : World} (hG : G.At w.heap.size w) (hl : G.Few) (hq : Below (w.alloc (.cells F.cells 25)).heap.size (w.alloc (.cells F.cells 25)) w1) :
    Vs w [(w.heap.size, G)] (((((((((((w1.setCell ⟨w.heap.size, 0, none⟩ (.string G.mac)).setCell ⟨w.heap.size, 1, none⟩ (.bool G.pr)).setCell ⟨w.heap.size, 2, none⟩ (.bool G.au)).setCell ⟨w.heap.size, 3, none⟩ (.bool G.am)).setCell ⟨w.heap.size, 4, none⟩ (.bool G.nu)).setCell ⟨w.heap.size, 5, none⟩ (.bool G.nm)).setCell ⟨w.heap.size, 6, none⟩ (.bool G.na)).setCell ⟨w.heap.size, 7, none⟩ (.slice G.U G.us.length G.uc)).setCell ⟨w.heap.size, 8, none⟩ (.slice G.M G.ms.length G.mc)).setCell ⟨w.heap.size, 9, none⟩ (.bool G.vo)).setCell ⟨w.heap.size, 10, none⟩ (.slice G.V G.vs.length G.vc)) := by
  have h1 := ba (b0 w) (.cells F.cells 25)
  have h2 := bt2 h1 hq
  have hb := below_set11 h2 (Nat.le_refl _) (.string G.mac) (.bool G.pr) (.bool G.au) (.bool G.am) (.bool G.nu) (.bool G.nm) (.bool G.na) (.slice G.U G.us.length G.uc) (.slice G.M G.ms.length G.mc) (.bool G.vo) (.slice G.V G.vs.length G.vc)
  have k := ((Blk.new w 25 F.cells).next hq).set11 (.string G.mac) (.bool G.pr) (.bool G.au) (.bool G.am) (.bool G.nu) (.bool G.nm) (.bool G.na) (.slice G.U G.us.length G.uc) (.slice G.M G.ms.length G.mc) (.bool G.vo) (.slice G.V G.vs.length G.vc)
  refine ⟨hb, fun p hp => ?_, fun p hp q hq' => ?_⟩
  · obtain rfl : p = (w.heap.size, G) := by simpa using hp
    exact ⟨Nat.le_refl _, k, (hG.far (Nat.le_refl _) hb).more hb.size, hl⟩
  · obtain rfl : p = (w.heap.size, G) := by simpa using hp
    obtain rfl : q = (w.heap.size, G) := by simpa using hq'
    exact hG.off (Nat.le_refl _)
/-- what Add (Del) hands back beside the variables L, its rows its own -/
def StepO (w0 W : World) (L : List (Nat × Fl)) (F : Fl) (X : List Int) (e : Ending) (w' : World) : Prop :=
  ∃ (U : Option Addr) (uc : Nat) (M : Option Addr) (mc : Nat) (V : Option Addr) (vc : Nat), e = .returned (.tuple #[.agg #[.string F.mac, .bool F.pr, .bool F.au, .bool F.am, .bool F.nu, .bool F.nm, .bool F.na, .slice U F.us.length uc, .slice M F.ms.length mc, .bool F.vo, .slice V X.length vc], .int .i64 0]) ∧ Vs w0 L w' ∧
    Vs w0 ((w'.heap.size, ⟨F.mac, F.pr, F.au, F.am, F.nu, F.nm, F.na, U, F.us, uc, M, F.ms, mc, F.vo, V, X, vc⟩) :: L) (w'.alloc (.cells #[.string F.mac, .bool F.pr, .bool F.au, .bool F.am, .bool F.nu, .bool F.nm, .bool F.na, .slice U F.us.length uc, .slice M F.ms.length mc, .bool F.vo, .slice V X.length vc] 25)) ∧
    Below W.heap.size W w' ∧ ∃ base, (∀ p ∈ L, p.1 < base) ∧ w0.heap.size ≤ base ∧ OwnI base V vc X w' ∧ OwnS base U uc F.us w'
/-- what the document's Set hands back beside the variables L -/
def StepR (w0 W : World) (L : List (Nat × Fl)) (F : Fl) (X : List Int) (e : Ending) (w' : World) : Prop :=
  ∃ (V : Option Addr) (vc : Nat), e = .returned (.tuple #[.agg #[.string F.mac, .bool F.pr, .bool F.au, .bool F.am, .bool F.nu, .bool F.nm, .bool F.na, .slice F.U F.us.length F.uc, .slice F.M F.ms.length F.mc, .bool F.vo, .slice V X.length vc], .int .i64 0]) ∧ Vs w0 L w' ∧
    Vs w0 ((w'.heap.size, ⟨F.mac, F.pr, F.au, F.am, F.nu, F.nm, F.na, F.U, F.us, F.uc, F.M, F.ms, F.mc, F.vo, V, X, vc⟩) :: L) (w'.alloc (.cells #[.string F.mac, .bool F.pr, .bool F.au, .bool F.am, .bool F.nu, .bool F.nm, .bool F.na, .slice F.U F.us.length F.uc, .slice F.M F.ms.length F.mc, .bool F.vo, .slice V X.length vc] 25)) ∧ Below W.heap.size W w'
theorem stepO_of {w0 w w' : World} {L : List (Nat × Fl)} {F : Fl} {X : List Int} {g : Nat} {e : Ending} (h : Vs w0 L w) (hm : (g, F) ∈ L) (hX : X.length ≤ 100) (hs : SetP F X w e w') : StepO w0 w L F X e w' := by
  obtain ⟨G, hS, rfl, hO, hb⟩ := hs
  have h' := h.next hb
  obtain ⟨mac, pr, au, am, nu, nm, na, U, us, uc, M, ms, mc, vo, V, vs, vc⟩ := G
  obtain ⟨e0, e1, e2, e3, e4, e5, e6, e7, e8, e9, e10⟩ := hS
  simp only at e0 e1 e2 e3 e4 e5 e6 e7 e8 e9 e10
  subst e0 e1 e2 e3 e4 e5 e6 e7 e8 e9 e10
  have hf := h.few hm
  exact ⟨U, uc, M, mc, V, vc, rfl, h', h'.new (F := ⟨F.mac, F.pr, F.au, F.am, F.nu, F.nm, F.na, U, F.us, uc, M, F.ms, mc, F.vo, V, vs, vc⟩) (hO.at (Nat.le_refl _)) ⟨hf.u, hf.m, hX⟩ (fun q hq => hO.off (h.lt (F := q.2) hq)), hb, w.heap.size, fun p hp => h.lt (F := p.2) hp, h.below.size, hO.v, hO.u⟩
theorem stepR_of {w0 w w' : World} {L : List (Nat × Fl)} {F : Fl} {X : List Int} {g : Nat} {e : Ending} (h : Vs w0 L w) (hm : (g, F) ∈ L) (hX : X.length ≤ 100) (hs : RSetP F X w e w') : StepR w0 w L F X e w' := by
  obtain ⟨A, c, rfl, ho, hb⟩ := hs
  have h' := h.next hb
  have hf := h.few hm
  have ha := h'.at hm
  refine ⟨A, c, rfl, h', h'.new (F := ⟨F.mac, F.pr, F.au, F.am, F.nu, F.nm, F.na, F.U, F.us, F.uc, F.M, F.ms, F.mc, F.vo, A, X, c⟩) ⟨ha.u, ha.m, Rd.own ho (Nat.le_refl _)⟩ ⟨hf.u, hf.m, hX⟩ (fun q hq => ?_), hb⟩
  have hof := h.off _ hm q hq
  exact ⟨hof.1, hof.2.1, fun b off _ hA => own_off ho (h.lt (F := q.2) hq) b off hA⟩
/-- a row that can be written over -/
def RowOk (base : Nat) (A : Option Addr) (n : Nat) (e : TypeId) (w : World) : Prop := 0 < n → ∃ r cur, A = some ⟨r, 0, none⟩ ∧ base ≤ r ∧ Blk w r e cur ∧ n ≤ cur.size
theorem row_of_own {w : World} {base b0 n c : Nat} {e : TypeId} {A : Option Addr} {xs : List Value} (h : w.ownsRow base e 1 (.slice A n c) n xs) (hb : b0 ≤ base) : RowOk b0 A n e w := by
  intro hn
  have hA : A ≠ none := by
    rintro rfl
    rcases h.2 with ⟨_, h0⟩ | ⟨g, cap, cur, hv, _⟩
    · omega
    · injection hv with hv; cases hv
  obtain ⟨g, cur, rfl, hbg, hg, hnc, _, hcs, _⟩ := own_blk h hA
  exact ⟨g, cur, rfl, by omega, hg, by omega⟩
theorem blk_apart {w : World} {g g' : Nat} {t t' : TypeId} {cs cs' : Array Value} (h : Blk w g t cs) (h' : Blk w g' t' cs') (hne : t ≠ t') : g ≠ g' := by
  rintro rfl
  unfold Blk at h h'
  rw [h] at h'
  injection h' with h'
  injection h' with _ ht
  exact hne ht
/-- the filter, a's and c's variables, and the rows that are written over -/
structure Sw (w0 : World) (F : Fl) (ga gc : Nat) (AC CC : Array Value) (V : Option Addr) (n : Nat) (U : Option Addr) (m : Nat) (w : World) : Prop where
  below : Below w0.heap.size w0 w
  f : Blk w w0.heap.size 25 F.cells
  a : Blk w ga 25 AC
  c : Blk w gc 25 CC
  rv : RowOk w0.heap.size V n 3 w
  ru : RowOk w0.heap.size U m 9 w
section
variable {w0 w : World} {F : Fl} {ga gc n m k r : Nat} {AC CC : Array Value} {V U : Option Addr}
theorem Sw.setV {z : Int} (h : Sw w0 F ga gc AC CC V n U m w) (hV : V = some ⟨r, 0, none⟩) : 0 < n → Sw w0 F ga gc AC CC V n U m (w.setCell ⟨r, k, none⟩ (.int .i64 z)) := by
  intro hn
  obtain ⟨r', cur, hA, hr, hb, hs⟩ := h.rv hn
  have hrr : r' = r := by
    rw [hV] at hA
    injection hA with hA
    injection hA with hA
    exact hA.symm
  subst hrr
  refine ⟨h.below.setCell (p := ⟨r', k, none⟩) hr _, h.f.other (blk_apart h.f hb (by decide)) k _, h.a.other (blk_apart h.a hb (by decide)) k _, h.c.other (blk_apart h.c hb (by decide)) k _, fun _ => ⟨r', _, hV, hr, hb.put k _, by simpa using hs⟩, fun hm => ?_⟩
  obtain ⟨q, cq, hq1, hq2, hq3, hq4⟩ := h.ru hm
  exact ⟨q, cq, hq1, hq2, hq3.other (blk_apart hq3 hb (by decide)) k _, hq4⟩
theorem Sw.setU {z : ByteArray} (h : Sw w0 F ga gc AC CC V n U m w) (hU : U = some ⟨r, 0, none⟩) : 0 < m → Sw w0 F ga gc AC CC V n U m (w.setCell ⟨r, k, none⟩ (.string z)) := by
  intro hm
  obtain ⟨r', cur, hA, hr, hb, hs⟩ := h.ru hm
  have hrr : r' = r := by
    rw [hU] at hA
    injection hA with hA
    injection hA with hA
    exact hA.symm
  subst hrr
  refine ⟨h.below.setCell (p := ⟨r', k, none⟩) hr _, h.f.other (blk_apart h.f hb (by decide)) k _, h.a.other (blk_apart h.a hb (by decide)) k _, h.c.other (blk_apart h.c hb (by decide)) k _, fun hn => ?_, fun _ => ⟨r', _, hU, hr, hb.put k _, by simpa using hs⟩⟩
  obtain ⟨q, cq, hq1, hq2, hq3, hq4⟩ := h.rv hn
  exact ⟨q, cq, hq1, hq2, hq3.other (blk_apart hq3 hb (by decide)) k _, hq4⟩
theorem Sw.vs (h : Sw w0 F ga gc AC CC V n U m w) (hG : F.At w0.heap.size w0) (hl : F.Few) : Vs w0 [(w0.heap.size, F)] w := by
  refine ⟨h.below, fun p hp => ?_, fun p hp q hq => ?_⟩
  · obtain rfl : p = (w0.heap.size, F) := by simpa using hp
    exact ⟨Nat.le_refl _, h.f, (hG.far (Nat.le_refl _) h.below).more h.below.size, hl⟩
  · obtain rfl : p = (w0.heap.size, F) := by simpa using hp
    obtain rfl : q = (w0.heap.size, F) := by simpa using hq
    exact hG.off (Nat.le_refl _)
end
set_option maxRecDepth 100000 in
set_option maxHeartbeats 8000000 in
theorem sets_walk (mac0 mac : ByteArray) (pr0 au0 am0 nu0 nm0 na0 vo0 pr au am nu nm na vo : Bool) (U0 M0 V0 U M V : Option Addr) (us0 ms0 us ms : List ByteArray) (vs0 vs : List Int) (uc0 mc0 vc0 uc mc vc : Nat) (x : Int) (X Y : List Int) (w : World) (hG : (⟨mac, pr, au, am, nu, nm, na, U, us, uc, M, ms, mc, vo, V, vs, vc⟩ : Fl).At w.heap.size w) (hl : (⟨mac, pr, au, am, nu, nm, na, U, us, uc, M, ms, mc, vo, V, vs, vc⟩ : Fl).Few) (hX100 : X.length ≤ 100)
    (AB : ∀ W, Calls Try.prog 9 #[.agg #[.string mac0, .bool pr0, .bool au0, .bool am0, .bool nu0, .bool nm0, .bool na0, .slice U0 us0.length uc0, .slice M0 ms0.length mc0, .bool vo0, .slice V0 vs0.length vc0]] W fun e w' => e = .returned (.agg #[.string mac, .bool pr, .bool au, .bool am, .bool nu, .bool nm, .bool na, .slice U us.length uc, .slice M ms.length mc, .bool vo, .slice V vs.length vc]) ∧ Below W.heap.size W w')
    (A1 : ∀ (L : List (Nat × Fl)) W, Vs w L W → (w.heap.size, (⟨mac, pr, au, am, nu, nm, na, U, us, uc, M, ms, mc, vo, V, vs, vc⟩ : Fl)) ∈ L → Calls Try.prog 15 #[.agg #[.string mac, .bool pr, .bool au, .bool am, .bool nu, .bool nm, .bool na, .slice U us.length uc, .slice M ms.length mc, .bool vo, .slice V vs.length vc], .int .i64 x] W (StepO w W L (⟨mac, pr, au, am, nu, nm, na, U, us, uc, M, ms, mc, vo, V, vs, vc⟩ : Fl) X))
    (A2 : ∀ (L : List (Nat × Fl)) W, Vs w L W → (w.heap.size, (⟨mac, pr, au, am, nu, nm, na, U, us, uc, M, ms, mc, vo, V, vs, vc⟩ : Fl)) ∈ L → Calls Try.prog 16 #[.agg #[.string mac, .bool pr, .bool au, .bool am, .bool nu, .bool nm, .bool na, .slice U us.length uc, .slice M ms.length mc, .bool vo, .slice V vs.length vc], .int .i64 x, .bool true] W (StepR w W L (⟨mac, pr, au, am, nu, nm, na, U, us, uc, M, ms, mc, vo, V, vs, vc⟩ : Fl) X))
    (A3 : ∀ (L : List (Nat × Fl)) W, Vs w L W → (w.heap.size, (⟨mac, pr, au, am, nu, nm, na, U, us, uc, M, ms, mc, vo, V, vs, vc⟩ : Fl)) ∈ L → Calls Try.prog 17 #[.agg #[.string mac, .bool pr, .bool au, .bool am, .bool nu, .bool nm, .bool na, .slice U us.length uc, .slice M ms.length mc, .bool vo, .slice V vs.length vc], .int .i64 x] W (StepO w W L (⟨mac, pr, au, am, nu, nm, na, U, us, uc, M, ms, mc, vo, V, vs, vc⟩ : Fl) Y))
    (A4 : ∀ (L : List (Nat × Fl)) W, Vs w L W → (w.heap.size, (⟨mac, pr, au, am, nu, nm, na, U, us, uc, M, ms, mc, vo, V, vs, vc⟩ : Fl)) ∈ L → Calls Try.prog 16 #[.agg #[.string mac, .bool pr, .bool au, .bool am, .bool nu, .bool nm, .bool na, .slice U us.length uc, .slice M ms.length mc, .bool vo, .slice V vs.length vc], .int .i64 x, .bool false] W (StepR w W L (⟨mac, pr, au, am, nu, nm, na, U, us, uc, M, ms, mc, vo, V, vs, vc⟩ : Fl) Y))
    (AS : ∀ (L : List (Nat × Fl)) (F G : Fl) (g k : Nat) W, Vs w L W → (g, F) ∈ L → (k, G) ∈ L → F.Same G → Calls Try.prog 18 #[F.val, G.val] W fun e w' => e = .returned (.bool true) ∧ Below W.heap.size W w') :
    Calls Try.prog 4 #[.agg #[.string mac0, .bool pr0, .bool au0, .bool am0, .bool nu0, .bool nm0, .bool na0, .slice U0 us0.length uc0, .slice M0 ms0.length mc0, .bool vo0, .slice V0 vs0.length vc0], .int .i64 x] w fun e w' => e = .returned (.bool true) ∧ Below w.heap.size w w' := by
  have hul : us.length ≤ 100 := hl.u
  have HB := Lib.hid AB
  have H1 := Lib.hid A1
  have H2 := Lib.hid A2
  have H3 := Lib.hid A3
  have H4 := Lib.hid A4
  have HS := Lib.hid AS
  clear AB A1 A2 A3 A4 AS
  go_enter Try.func4, Try.ntmps4
  go_wp2_with fail
  refine (HB.out _).mono ?_
  rintro e w1 ⟨rfl, hq⟩
  have k1 : Blk w1 w.heap.size 25 #[.string mac0, .bool pr0, .bool au0, .bool am0, .bool nu0, .bool nm0, .bool na0, .slice U0 us0.length uc0, .slice M0 ms0.length mc0, .bool vo0, .slice V0 vs0.length vc0] := (Blk.new w 25 _).next hq
  have c0 := k1.cell 0
  have c1 := k1.cell 1
  have c2 := k1.cell 2
  have c3 := k1.cell 3
  have c4 := k1.cell 4
  have c5 := k1.cell 5
  have c6 := k1.cell 6
  have c7 := k1.cell 7
  have c8 := k1.cell 8
  have c9 := k1.cell 9
  have c10 := k1.cell 10
  simp only [List.getElem?_toArray, List.getElem?_cons_zero, List.getElem?_cons_succ] at c0 c1 c2 c3 c4 c5 c6 c7 c8 c9 c10
  have f0 := k1.frozen 0
  have f1 := k1.frozen 1
  have f2 := k1.frozen 2
  have f3 := k1.frozen 3
  have f4 := k1.frozen 4
  have f5 := k1.frozen 5
  have f6 := k1.frozen 6
  have f7 := k1.frozen 7
  have f8 := k1.frozen 8
  have f9 := k1.frozen 9
  have f10 := k1.frozen 10
  obtain ⟨w2, hw2⟩ : ∃ w2, (((((((((((w1.setCell ⟨w.heap.size, 0, none⟩ (.string mac)).setCell ⟨w.heap.size, 1, none⟩ (.bool pr)).setCell ⟨w.heap.size, 2, none⟩ (.bool au)).setCell ⟨w.heap.size, 3, none⟩ (.bool am)).setCell ⟨w.heap.size, 4, none⟩ (.bool nu)).setCell ⟨w.heap.size, 5, none⟩ (.bool nm)).setCell ⟨w.heap.size, 6, none⟩ (.bool na)).setCell ⟨w.heap.size, 7, none⟩ (.slice U us.length uc)).setCell ⟨w.heap.size, 8, none⟩ (.slice M ms.length mc)).setCell ⟨w.heap.size, 9, none⟩ (.bool vo)).setCell ⟨w.heap.size, 10, none⟩ (.slice V vs.length vc)) = w2 := ⟨_, rfl⟩
  have hv : Vs w [(w.heap.size, ⟨mac, pr, au, am, nu, nm, na, U, us, uc, M, ms, mc, vo, V, vs, vc⟩)] w2 := hw2 ▸ vs_begin (F := ⟨mac0, pr0, au0, am0, nu0, nm0, na0, U0, us0, uc0, M0, ms0, mc0, vo0, V0, vs0, vc0⟩) (G := ⟨mac, pr, au, am, nu, nm, na, U, us, uc, M, ms, mc, vo, V, vs, vc⟩) hG hl hq
  have HW := Lib.hid hw2
  have k2 : Blk w2 w.heap.size 25 #[.string mac, .bool pr, .bool au, .bool am, .bool nu, .bool nm, .bool na, .slice U us.length uc, .slice M ms.length mc, .bool vo, .slice V vs.length vc] := hv.get (show (w.heap.size, (⟨mac, pr, au, am, nu, nm, na, U, us, uc, M, ms, mc, vo, V, vs, vc⟩ : Fl)) ∈ _ by simp)
  clear hw2 k1 hq
  have d0 := k2.cell 0
  have d1 := k2.cell 1
  have d2 := k2.cell 2
  have d3 := k2.cell 3
  have d4 := k2.cell 4
  have d5 := k2.cell 5
  have d6 := k2.cell 6
  have d7 := k2.cell 7
  have d8 := k2.cell 8
  have d9 := k2.cell 9
  have d10 := k2.cell 10
  simp only [List.getElem?_toArray, List.getElem?_cons_zero, List.getElem?_cons_succ] at d0 d1 d2 d3 d4 d5 d6 d7 d8 d9 d10
  clear k2
  go_wp2_with (rw [HW.out]; clear c0 c1 c2 c3 c4 c5 c6 c7 c8 c9 c10 f0 f1 f2 f3 f4 f5 f6 f7 f8 f9 f10 HW)
  have HV2 := Lib.hid hv
  clear hv d0 d1 d2 d3 d4 d5 d6 d7 d8 d9 d10
  go_loopw [5] (fun i wr => ∃ tn : Nat, tn ≤ 2 ∧ i = .int .i64 tn ∧ Vs w [(w.heap.size, (⟨mac, pr, au, am, nu, nm, na, U, us, uc, M, ms, mc, vo, V, vs, vc⟩ : Fl))] wr) (fun i _ => 2 - (intOf i).toNat)
  case atStart => exact ⟨0, by omega, rfl, HV2.out⟩
  case round =>
    obtain ⟨tn, htn, rfl, hvr⟩ := hrel
    clear HV2
    by_cases hlt2 : tn < 2
    · have qf : Blk wr w.heap.size 25 #[.string mac, .bool pr, .bool au, .bool am, .bool nu, .bool nm, .bool na, .slice U us.length uc, .slice M ms.length mc, .bool vo, .slice V vs.length vc] := hvr.get (show (w.heap.size, (⟨mac, pr, au, am, nu, nm, na, U, us, uc, M, ms, mc, vo, V, vs, vc⟩ : Fl)) ∈ _ by simp)
      have fq0 := qf.cell 0
      have fq1 := qf.cell 1
      have fq2 := qf.cell 2
      have fq3 := qf.cell 3
      have fq4 := qf.cell 4
      have fq5 := qf.cell 5
      have fq6 := qf.cell 6
      have fq7 := qf.cell 7
      have fq8 := qf.cell 8
      have fq9 := qf.cell 9
      have fq10 := qf.cell 10
      simp only [List.getElem?_toArray, List.getElem?_cons_zero, List.getElem?_cons_succ] at fq0 fq1 fq2 fq3 fq4 fq5 fq6 fq7 fq8 fq9 fq10
      have lf := qf.lt
      clear qf
      have CA := H1.out [(w.heap.size, (⟨mac, pr, au, am, nu, nm, na, U, us, uc, M, ms, mc, vo, V, vs, vc⟩ : Fl))] wr hvr (by simp)
      have HCA := Lib.hid CA
      clear CA
      go_wp2_with fail
      refine (HCA.out).mono ?_
      rintro e w3 ⟨U1, uc1, M1, mc1, V1, vc1, rfl, ho1, hn1, hq1, bs1, hb1, hbw1, oi1, os1⟩
      clear HCA fq0 fq1 fq2 fq3 fq4 fq5 fq6 fq7 fq8 fq9 fq10 lf os1
      have qf : Blk w3 w.heap.size 25 #[.string mac, .bool pr, .bool au, .bool am, .bool nu, .bool nm, .bool na, .slice U us.length uc, .slice M ms.length mc, .bool vo, .slice V vs.length vc] := ho1.get (show (w.heap.size, (⟨mac, pr, au, am, nu, nm, na, U, us, uc, M, ms, mc, vo, V, vs, vc⟩ : Fl)) ∈ _ by simp)
      have fq0 := qf.cell 0
      have fq1 := qf.cell 1
      have fq2 := qf.cell 2
      have fq3 := qf.cell 3
      have fq4 := qf.cell 4
      have fq5 := qf.cell 5
      have fq6 := qf.cell 6
      have fq7 := qf.cell 7
      have fq8 := qf.cell 8
      have fq9 := qf.cell 9
      have fq10 := qf.cell 10
      simp only [List.getElem?_toArray, List.getElem?_cons_zero, List.getElem?_cons_succ] at fq0 fq1 fq2 fq3 fq4 fq5 fq6 fq7 fq8 fq9 fq10
      have lf := qf.lt
      clear qf
      have CB := H2.out [(w3.heap.size, (⟨mac, pr, au, am, nu, nm, na, U1, us, uc1, M1, ms, mc1, vo, V1, X, vc1⟩ : Fl)), (w.heap.size, (⟨mac, pr, au, am, nu, nm, na, U, us, uc, M, ms, mc, vo, V, vs, vc⟩ : Fl))] _ hn1 (by simp)
      have HCB := Lib.hid CB
      clear CB
      go_wp2_with fail
      refine (HCB.out).mono ?_
      rintro e w4 ⟨V2, vc2, rfl, ho2, hn2, hq2⟩
      have oi2 := own_next (own_alloc oi1 (.cells #[.string mac, .bool pr, .bool au, .bool am, .bool nu, .bool nm, .bool na, .slice U1 us.length uc1, .slice M1 ms.length mc1, .bool vo, .slice V1 X.length vc1] 25)) hq2
      clear HCB fq0 fq1 fq2 fq3 fq4 fq5 fq6 fq7 fq8 fq9 fq10 lf oi1 ho1 hn1
      have qf : Blk w4 w.heap.size 25 #[.string mac, .bool pr, .bool au, .bool am, .bool nu, .bool nm, .bool na, .slice U us.length uc, .slice M ms.length mc, .bool vo, .slice V vs.length vc] := ho2.get (show (w.heap.size, (⟨mac, pr, au, am, nu, nm, na, U, us, uc, M, ms, mc, vo, V, vs, vc⟩ : Fl)) ∈ _ by simp)
      have fq0 := qf.cell 0
      have fq1 := qf.cell 1
      have fq2 := qf.cell 2
      have fq3 := qf.cell 3
      have fq4 := qf.cell 4
      have fq5 := qf.cell 5
      have fq6 := qf.cell 6
      have fq7 := qf.cell 7
      have fq8 := qf.cell 8
      have fq9 := qf.cell 9
      have fq10 := qf.cell 10
      simp only [List.getElem?_toArray, List.getElem?_cons_zero, List.getElem?_cons_succ] at fq0 fq1 fq2 fq3 fq4 fq5 fq6 fq7 fq8 fq9 fq10
      have lf := qf.lt
      clear qf
      have CC := H3.out [(w4.heap.size, (⟨mac, pr, au, am, nu, nm, na, U, us, uc, M, ms, mc, vo, V2, X, vc2⟩ : Fl)), (w3.heap.size, (⟨mac, pr, au, am, nu, nm, na, U1, us, uc1, M1, ms, mc1, vo, V1, X, vc1⟩ : Fl)), (w.heap.size, (⟨mac, pr, au, am, nu, nm, na, U, us, uc, M, ms, mc, vo, V, vs, vc⟩ : Fl))] _ hn2 (by simp)
      have HCC := Lib.hid CC
      clear CC
      go_wp2_with fail
      refine (HCC.out).mono ?_
      rintro e w5 ⟨U3, uc3, M3, mc3, V3, vc3, rfl, ho3, hn3, hq3, bs3, hb3, hbw3, oi3, os3⟩
      have oi4 := own_next (own_alloc oi2 (.cells #[.string mac, .bool pr, .bool au, .bool am, .bool nu, .bool nm, .bool na, .slice U us.length uc, .slice M ms.length mc, .bool vo, .slice V2 X.length vc2] 25)) hq3
      clear HCC fq0 fq1 fq2 fq3 fq4 fq5 fq6 fq7 fq8 fq9 fq10 lf oi2 oi3 ho2 hn2
      have qf : Blk w5 w.heap.size 25 #[.string mac, .bool pr, .bool au, .bool am, .bool nu, .bool nm, .bool na, .slice U us.length uc, .slice M ms.length mc, .bool vo, .slice V vs.length vc] := ho3.get (show (w.heap.size, (⟨mac, pr, au, am, nu, nm, na, U, us, uc, M, ms, mc, vo, V, vs, vc⟩ : Fl)) ∈ _ by simp)
      have fq0 := qf.cell 0
      have fq1 := qf.cell 1
      have fq2 := qf.cell 2
      have fq3 := qf.cell 3
      have fq4 := qf.cell 4
      have fq5 := qf.cell 5
      have fq6 := qf.cell 6
      have fq7 := qf.cell 7
      have fq8 := qf.cell 8
      have fq9 := qf.cell 9
      have fq10 := qf.cell 10
      simp only [List.getElem?_toArray, List.getElem?_cons_zero, List.getElem?_cons_succ] at fq0 fq1 fq2 fq3 fq4 fq5 fq6 fq7 fq8 fq9 fq10
      have lf := qf.lt
      clear qf
      have CD := H4.out [(w5.heap.size, (⟨mac, pr, au, am, nu, nm, na, U3, us, uc3, M3, ms, mc3, vo, V3, Y, vc3⟩ : Fl)), (w4.heap.size, (⟨mac, pr, au, am, nu, nm, na, U, us, uc, M, ms, mc, vo, V2, X, vc2⟩ : Fl)), (w3.heap.size, (⟨mac, pr, au, am, nu, nm, na, U1, us, uc1, M1, ms, mc1, vo, V1, X, vc1⟩ : Fl)), (w.heap.size, (⟨mac, pr, au, am, nu, nm, na, U, us, uc, M, ms, mc, vo, V, vs, vc⟩ : Fl))] _ hn3 (by simp)
      have HCD := Lib.hid CD
      clear CD
      go_wp2_with fail
      refine (HCD.out).mono ?_
      rintro e w6 ⟨V4, vc4, rfl, ho4, hn4, hq4⟩
      have oi5 := own_next (own_alloc oi4 (.cells #[.string mac, .bool pr, .bool au, .bool am, .bool nu, .bool nm, .bool na, .slice U3 us.length uc3, .slice M3 ms.length mc3, .bool vo, .slice V3 Y.length vc3] 25)) hq4
      have os4 := own_next (own_alloc os3 (.cells #[.string mac, .bool pr, .bool au, .bool am, .bool nu, .bool nm, .bool na, .slice U3 us.length uc3, .slice M3 ms.length mc3, .bool vo, .slice V3 Y.length vc3] 25)) hq4
      clear HCD fq0 fq1 fq2 fq3 fq4 fq5 fq6 fq7 fq8 fq9 fq10 lf oi4 os3 ho3 hn3
      have qa : Blk w6 w3.heap.size 25 #[.string mac, .bool pr, .bool au, .bool am, .bool nu, .bool nm, .bool na, .slice U1 us.length uc1, .slice M1 ms.length mc1, .bool vo, .slice V1 X.length vc1] := ho4.get (show (w3.heap.size, (⟨mac, pr, au, am, nu, nm, na, U1, us, uc1, M1, ms, mc1, vo, V1, X, vc1⟩ : Fl)) ∈ _ by simp)
      have aq0 := qa.cell 0
      have aq1 := qa.cell 1
      have aq2 := qa.cell 2
      have aq3 := qa.cell 3
      have aq4 := qa.cell 4
      have aq5 := qa.cell 5
      have aq6 := qa.cell 6
      have aq7 := qa.cell 7
      have aq8 := qa.cell 8
      have aq9 := qa.cell 9
      have aq10 := qa.cell 10
      simp only [List.getElem?_toArray, List.getElem?_cons_zero, List.getElem?_cons_succ] at aq0 aq1 aq2 aq3 aq4 aq5 aq6 aq7 aq8 aq9 aq10
      have la := qa.lt
      clear qa
      have qb : Blk w6 w4.heap.size 25 #[.string mac, .bool pr, .bool au, .bool am, .bool nu, .bool nm, .bool na, .slice U us.length uc, .slice M ms.length mc, .bool vo, .slice V2 X.length vc2] := ho4.get (show (w4.heap.size, (⟨mac, pr, au, am, nu, nm, na, U, us, uc, M, ms, mc, vo, V2, X, vc2⟩ : Fl)) ∈ _ by simp)
      have bq0 := qb.cell 0
      have bq1 := qb.cell 1
      have bq2 := qb.cell 2
      have bq3 := qb.cell 3
      have bq4 := qb.cell 4
      have bq5 := qb.cell 5
      have bq6 := qb.cell 6
      have bq7 := qb.cell 7
      have bq8 := qb.cell 8
      have bq9 := qb.cell 9
      have bq10 := qb.cell 10
      simp only [List.getElem?_toArray, List.getElem?_cons_zero, List.getElem?_cons_succ] at bq0 bq1 bq2 bq3 bq4 bq5 bq6 bq7 bq8 bq9 bq10
      have lb := qb.lt
      clear qb
      have C5 := HS.out [(w6.heap.size, (⟨mac, pr, au, am, nu, nm, na, U, us, uc, M, ms, mc, vo, V4, Y, vc4⟩ : Fl)), (w5.heap.size, (⟨mac, pr, au, am, nu, nm, na, U3, us, uc3, M3, ms, mc3, vo, V3, Y, vc3⟩ : Fl)), (w4.heap.size, (⟨mac, pr, au, am, nu, nm, na, U, us, uc, M, ms, mc, vo, V2, X, vc2⟩ : Fl)), (w3.heap.size, (⟨mac, pr, au, am, nu, nm, na, U1, us, uc1, M1, ms, mc1, vo, V1, X, vc1⟩ : Fl)), (w.heap.size, (⟨mac, pr, au, am, nu, nm, na, U, us, uc, M, ms, mc, vo, V, vs, vc⟩ : Fl))] (⟨mac, pr, au, am, nu, nm, na, U1, us, uc1, M1, ms, mc1, vo, V1, X, vc1⟩ : Fl) (⟨mac, pr, au, am, nu, nm, na, U, us, uc, M, ms, mc, vo, V2, X, vc2⟩ : Fl) w3.heap.size w4.heap.size _ hn4 (by simp) (by simp) ⟨rfl, rfl, rfl, rfl, rfl, rfl, rfl, rfl, rfl, rfl, rfl⟩
      simp only [Fl.val, Fl.cells] at C5
      have HC5 := Lib.hid C5
      clear C5
      go_wp2_with fail
      refine (HC5.out).mono ?_
      rintro e w7 ⟨rfl, hq5⟩
      have hv7 := hn4.next hq5
      have oi6 := own_next (own_alloc oi5 (.cells #[.string mac, .bool pr, .bool au, .bool am, .bool nu, .bool nm, .bool na, .slice U us.length uc, .slice M ms.length mc, .bool vo, .slice V4 Y.length vc4] 25)) hq5
      have os5 := own_next (own_alloc os4 (.cells #[.string mac, .bool pr, .bool au, .bool am, .bool nu, .bool nm, .bool na, .slice U us.length uc, .slice M ms.length mc, .bool vo, .slice V4 Y.length vc4] 25)) hq5
      clear HC5 aq0 aq1 aq2 aq3 aq4 aq5 aq6 aq7 aq8 aq9 aq10 bq0 bq1 bq2 bq3 bq4 bq5 bq6 bq7 bq8 bq9 bq10 la lb oi5 os4 ho4 hn4
      have qc : Blk w7 w5.heap.size 25 #[.string mac, .bool pr, .bool au, .bool am, .bool nu, .bool nm, .bool na, .slice U3 us.length uc3, .slice M3 ms.length mc3, .bool vo, .slice V3 Y.length vc3] := hv7.get (show (w5.heap.size, (⟨mac, pr, au, am, nu, nm, na, U3, us, uc3, M3, ms, mc3, vo, V3, Y, vc3⟩ : Fl)) ∈ _ by simp)
      have cq0 := qc.cell 0
      have cq1 := qc.cell 1
      have cq2 := qc.cell 2
      have cq3 := qc.cell 3
      have cq4 := qc.cell 4
      have cq5 := qc.cell 5
      have cq6 := qc.cell 6
      have cq7 := qc.cell 7
      have cq8 := qc.cell 8
      have cq9 := qc.cell 9
      have cq10 := qc.cell 10
      simp only [List.getElem?_toArray, List.getElem?_cons_zero, List.getElem?_cons_succ] at cq0 cq1 cq2 cq3 cq4 cq5 cq6 cq7 cq8 cq9 cq10
      have lc := qc.lt
      clear qc
      have qd : Blk w7 w6.heap.size 25 #[.string mac, .bool pr, .bool au, .bool am, .bool nu, .bool nm, .bool na, .slice U us.length uc, .slice M ms.length mc, .bool vo, .slice V4 Y.length vc4] := hv7.get (show (w6.heap.size, (⟨mac, pr, au, am, nu, nm, na, U, us, uc, M, ms, mc, vo, V4, Y, vc4⟩ : Fl)) ∈ _ by simp)
      have dq0 := qd.cell 0
      have dq1 := qd.cell 1
      have dq2 := qd.cell 2
      have dq3 := qd.cell 3
      have dq4 := qd.cell 4
      have dq5 := qd.cell 5
      have dq6 := qd.cell 6
      have dq7 := qd.cell 7
      have dq8 := qd.cell 8
      have dq9 := qd.cell 9
      have dq10 := qd.cell 10
      simp only [List.getElem?_toArray, List.getElem?_cons_zero, List.getElem?_cons_succ] at dq0 dq1 dq2 dq3 dq4 dq5 dq6 dq7 dq8 dq9 dq10
      have ld := qd.lt
      clear qd
      have C6 := HS.out [(w6.heap.size, (⟨mac, pr, au, am, nu, nm, na, U, us, uc, M, ms, mc, vo, V4, Y, vc4⟩ : Fl)), (w5.heap.size, (⟨mac, pr, au, am, nu, nm, na, U3, us, uc3, M3, ms, mc3, vo, V3, Y, vc3⟩ : Fl)), (w4.heap.size, (⟨mac, pr, au, am, nu, nm, na, U, us, uc, M, ms, mc, vo, V2, X, vc2⟩ : Fl)), (w3.heap.size, (⟨mac, pr, au, am, nu, nm, na, U1, us, uc1, M1, ms, mc1, vo, V1, X, vc1⟩ : Fl)), (w.heap.size, (⟨mac, pr, au, am, nu, nm, na, U, us, uc, M, ms, mc, vo, V, vs, vc⟩ : Fl))] (⟨mac, pr, au, am, nu, nm, na, U3, us, uc3, M3, ms, mc3, vo, V3, Y, vc3⟩ : Fl) (⟨mac, pr, au, am, nu, nm, na, U, us, uc, M, ms, mc, vo, V4, Y, vc4⟩ : Fl) w5.heap.size w6.heap.size _ hv7 (by simp) (by simp) ⟨rfl, rfl, rfl, rfl, rfl, rfl, rfl, rfl, rfl, rfl, rfl⟩
      simp only [Fl.val, Fl.cells] at C6
      have HC6 := Lib.hid C6
      clear C6
      go_wp2_with fail
      refine (HC6.out).mono ?_
      rintro e w8 ⟨rfl, hq6⟩
      have hv8 := hv7.next hq6
      have oi7 := own_next oi6 hq6
      have os6 := own_next os5 hq6
      have hsw : Sw w (⟨mac, pr, au, am, nu, nm, na, U, us, uc, M, ms, mc, vo, V, vs, vc⟩ : Fl) w3.heap.size w5.heap.size #[.string mac, .bool pr, .bool au, .bool am, .bool nu, .bool nm, .bool na, .slice U1 us.length uc1, .slice M1 ms.length mc1, .bool vo, .slice V1 X.length vc1] #[.string mac, .bool pr, .bool au, .bool am, .bool nu, .bool nm, .bool na, .slice U3 us.length uc3, .slice M3 ms.length mc3, .bool vo, .slice V3 Y.length vc3] V1 X.length U3 us.length w8 := ⟨hv8.below, hv8.get (show (w.heap.size, (⟨mac, pr, au, am, nu, nm, na, U, us, uc, M, ms, mc, vo, V, vs, vc⟩ : Fl)) ∈ _ by simp), hv8.get (show (w3.heap.size, (⟨mac, pr, au, am, nu, nm, na, U1, us, uc1, M1, ms, mc1, vo, V1, X, vc1⟩ : Fl)) ∈ _ by simp), hv8.get (show (w5.heap.size, (⟨mac, pr, au, am, nu, nm, na, U3, us, uc3, M3, ms, mc3, vo, V3, Y, vc3⟩ : Fl)) ∈ _ by simp), row_of_own oi7 hbw1, row_of_own os6 hbw3⟩
      have HSW := Lib.hid hsw
      clear hsw HC6 cq0 cq1 cq2 cq3 cq4 cq5 cq6 cq7 cq8 cq9 cq10 dq0 dq1 dq2 dq3 dq4 dq5 dq6 dq7 dq8 dq9 dq10 lc ld oi6 os5 hv7 hv8 oi7 os6 hq1 hq2 hq3 hq4 hq5 hq6 hb1 hb3 hbw1 hbw3
      have q9 := HSW.out.a
      have a10 : w8.cell? ⟨w3.heap.size, 10, none⟩ = some (.slice V1 X.length vc1) := q9.cell 10
      clear q9
      go_wp2_with fail
      go_loopw [14] (fun i wq => ∃ k : Nat, k ≤ X.length ∧ i = .int .i64 k ∧ Sw w (⟨mac, pr, au, am, nu, nm, na, U, us, uc, M, ms, mc, vo, V, vs, vc⟩ : Fl) w3.heap.size w5.heap.size #[.string mac, .bool pr, .bool au, .bool am, .bool nu, .bool nm, .bool na, .slice U1 us.length uc1, .slice M1 ms.length mc1, .bool vo, .slice V1 X.length vc1] #[.string mac, .bool pr, .bool au, .bool am, .bool nu, .bool nm, .bool na, .slice U3 us.length uc3, .slice M3 ms.length mc3, .bool vo, .slice V3 Y.length vc3] V1 X.length U3 us.length wq) (fun i _ => X.length - (intOf i).toNat)
      case atStart => exact ⟨0, Nat.zero_le _, rfl, HSW.out⟩
      case round =>
        obtain ⟨k, hk, rfl, hsq⟩ := hrel
        clear a10 HSW
        have q9 := hsq.a
        have a10 : wr.cell? ⟨w3.heap.size, 10, none⟩ = some (.slice V1 X.length vc1) := q9.cell 10
        clear q9
        by_cases hlt : k < X.length
        · obtain ⟨rb, cur, rfl, hrb, hcur, hlen⟩ := hsq.rv (by omega)
          have hck : wr.cell? ⟨rb, k, none⟩ = some (cur[k]'(by omega)) := by rw [hcur.cell]; exact Array.getElem?_eq_getElem _
          have hfk := hcur.frozen k
          have HN := Lib.hid (hsq.setV (k := k) (z := -1) rfl (by omega))
          generalize cur[k]'(by omega) = old at hck
          clear hcur hlen hrb hsq
          go_wp2_with fail
          go_roundw
          case rel => exact ⟨k + 1, by omega, by go_num, HN.out⟩
          case measure => simp [intOf]; omega
        · have HSQ := Lib.hid hsq
          have q8 := hsq.c
          have c7 : wr.cell? ⟨w5.heap.size, 7, none⟩ = some (.slice U3 us.length uc3) := q8.cell 7
          clear q8 hsq
          go_wp2_with fail
          go_loopw [15] (fun i wq => ∃ j : Nat, j ≤ us.length ∧ i = .int .i64 j ∧ Sw w (⟨mac, pr, au, am, nu, nm, na, U, us, uc, M, ms, mc, vo, V, vs, vc⟩ : Fl) w3.heap.size w5.heap.size #[.string mac, .bool pr, .bool au, .bool am, .bool nu, .bool nm, .bool na, .slice U1 us.length uc1, .slice M1 ms.length mc1, .bool vo, .slice V1 X.length vc1] #[.string mac, .bool pr, .bool au, .bool am, .bool nu, .bool nm, .bool na, .slice U3 us.length uc3, .slice M3 ms.length mc3, .bool vo, .slice V3 Y.length vc3] V1 X.length U3 us.length wq) (fun i _ => us.length - (intOf i).toNat)
          case atStart => exact ⟨0, Nat.zero_le _, rfl, HSQ.out⟩
          case round =>
            obtain ⟨j, hj, rfl, hsq⟩ := hrel
            clear a10 HSQ c7
            have q8 := hsq.c
            have c7 : wr.cell? ⟨w5.heap.size, 7, none⟩ = some (.slice U3 us.length uc3) := q8.cell 7
            clear q8
            by_cases hlt : j < us.length
            · obtain ⟨rb, cur, rfl, hrb, hcur, hlen⟩ := hsq.ru (by omega)
              have hck : wr.cell? ⟨rb, j, none⟩ = some (cur[j]'(by omega)) := by rw [hcur.cell]; exact Array.getElem?_eq_getElem _
              have hfk := hcur.frozen j
              have HN := Lib.hid (hsq.setU (k := j) (z := ⟨#[]⟩) rfl (by omega))
              generalize cur[j]'(by omega) = old at hck
              clear hcur hlen hrb hsq
              go_wp2_with fail
              go_roundw
              case rel => exact ⟨j + 1, by omega, by go_num, HN.out⟩
              case measure => simp [intOf]; omega
            · have HV := Lib.hid (hsq.vs hG hl)
              clear hsq
              go_wp2_with fail
              go_roundw
              case rel => exact ⟨tn + 1, by omega, by go_num, HV.out⟩
              case measure => simp [intOf]; omega
    · go_wp2_with fail
      refine (fixed_step hvr).mono ?_
      rintro e w9 ⟨rfl, hv9⟩
      go_wp2_with fail
      go_ret
      exact ⟨rfl, hv9.below⟩
set_option maxRecDepth 100000 in
set_option maxHeartbeats 8000000 in
theorem sets_bad (mac0 mac : ByteArray) (pr0 au0 am0 nu0 nm0 na0 vo0 pr au am nu nm na vo : Bool) (U0 M0 V0 U M V : Option Addr) (us0 ms0 us ms : List ByteArray) (vs0 vs : List Int) (uc0 mc0 vc0 uc mc vc : Nat) (x : Int) (w : World) (hG : (⟨mac, pr, au, am, nu, nm, na, U, us, uc, M, ms, mc, vo, V, vs, vc⟩ : Fl).At w.heap.size w) (hl : (⟨mac, pr, au, am, nu, nm, na, U, us, uc, M, ms, mc, vo, V, vs, vc⟩ : Fl).Few)
    (AB : ∀ W, Calls Try.prog 9 #[.agg #[.string mac0, .bool pr0, .bool au0, .bool am0, .bool nu0, .bool nm0, .bool na0, .slice U0 us0.length uc0, .slice M0 ms0.length mc0, .bool vo0, .slice V0 vs0.length vc0]] W fun e w' => e = .returned (.agg #[.string mac, .bool pr, .bool au, .bool am, .bool nu, .bool nm, .bool na, .slice U us.length uc, .slice M ms.length mc, .bool vo, .slice V vs.length vc]) ∧ Below W.heap.size W w')
    (A1 : ∀ (L : List (Nat × Fl)) W, Vs w L W → (w.heap.size, (⟨mac, pr, au, am, nu, nm, na, U, us, uc, M, ms, mc, vo, V, vs, vc⟩ : Fl)) ∈ L → Calls Try.prog 15 #[.agg #[.string mac, .bool pr, .bool au, .bool am, .bool nu, .bool nm, .bool na, .slice U us.length uc, .slice M ms.length mc, .bool vo, .slice V vs.length vc], .int .i64 x] W fun e w' => e = .returned (.tuple #[.agg #[.string ⟨#[]⟩, .bool false, .bool false, .bool false, .bool false, .bool false, .bool false, .slice none 0 0, .slice none 0 0, .bool false, .slice none 0 0], .int .i64 1]) ∧ Below W.heap.size W w')
    (A2 : ∀ (L : List (Nat × Fl)) W, Vs w L W → (w.heap.size, (⟨mac, pr, au, am, nu, nm, na, U, us, uc, M, ms, mc, vo, V, vs, vc⟩ : Fl)) ∈ L → Calls Try.prog 16 #[.agg #[.string mac, .bool pr, .bool au, .bool am, .bool nu, .bool nm, .bool na, .slice U us.length uc, .slice M ms.length mc, .bool vo, .slice V vs.length vc], .int .i64 x, .bool true] W fun e w' => e = .returned (.tuple #[.agg #[.string ⟨#[]⟩, .bool false, .bool false, .bool false, .bool false, .bool false, .bool false, .slice none 0 0, .slice none 0 0, .bool false, .slice none 0 0], .int .i64 1]) ∧ Below W.heap.size W w')
    (A3 : ∀ (L : List (Nat × Fl)) W, Vs w L W → (w.heap.size, (⟨mac, pr, au, am, nu, nm, na, U, us, uc, M, ms, mc, vo, V, vs, vc⟩ : Fl)) ∈ L → Calls Try.prog 17 #[.agg #[.string mac, .bool pr, .bool au, .bool am, .bool nu, .bool nm, .bool na, .slice U us.length uc, .slice M ms.length mc, .bool vo, .slice V vs.length vc], .int .i64 x] W fun e w' => e = .returned (.tuple #[.agg #[.string ⟨#[]⟩, .bool false, .bool false, .bool false, .bool false, .bool false, .bool false, .slice none 0 0, .slice none 0 0, .bool false, .slice none 0 0], .int .i64 1]) ∧ Below W.heap.size W w')
    (A4 : ∀ (L : List (Nat × Fl)) W, Vs w L W → (w.heap.size, (⟨mac, pr, au, am, nu, nm, na, U, us, uc, M, ms, mc, vo, V, vs, vc⟩ : Fl)) ∈ L → Calls Try.prog 16 #[.agg #[.string mac, .bool pr, .bool au, .bool am, .bool nu, .bool nm, .bool na, .slice U us.length uc, .slice M ms.length mc, .bool vo, .slice V vs.length vc], .int .i64 x, .bool false] W fun e w' => e = .returned (.tuple #[.agg #[.string ⟨#[]⟩, .bool false, .bool false, .bool false, .bool false, .bool false, .bool false, .slice none 0 0, .slice none 0 0, .bool false, .slice none 0 0], .int .i64 1]) ∧ Below W.heap.size W w')
    (AS : ∀ W, Calls Try.prog 18 #[.agg #[.string ⟨#[]⟩, .bool false, .bool false, .bool false, .bool false, .bool false, .bool false, .slice none 0 0, .slice none 0 0, .bool false, .slice none 0 0], .agg #[.string ⟨#[]⟩, .bool false, .bool false, .bool false, .bool false, .bool false, .bool false, .slice none 0 0, .slice none 0 0, .bool false, .slice none 0 0]] W fun e w' => e = .returned (.bool true) ∧ Below W.heap.size W w') :
    Calls Try.prog 4 #[.agg #[.string mac0, .bool pr0, .bool au0, .bool am0, .bool nu0, .bool nm0, .bool na0, .slice U0 us0.length uc0, .slice M0 ms0.length mc0, .bool vo0, .slice V0 vs0.length vc0], .int .i64 x] w fun e w' => e = .returned (.bool true) ∧ Below w.heap.size w w' := by
  have HB := Lib.hid AB
  have H1 := Lib.hid A1
  have H2 := Lib.hid A2
  have H3 := Lib.hid A3
  have H4 := Lib.hid A4
  have HS := Lib.hid AS
  clear AB A1 A2 A3 A4 AS
  go_enter Try.func4, Try.ntmps4
  go_wp2_with fail
  refine (HB.out _).mono ?_
  rintro e w1 ⟨rfl, hq⟩
  have k1 : Blk w1 w.heap.size 25 #[.string mac0, .bool pr0, .bool au0, .bool am0, .bool nu0, .bool nm0, .bool na0, .slice U0 us0.length uc0, .slice M0 ms0.length mc0, .bool vo0, .slice V0 vs0.length vc0] := (Blk.new w 25 _).next hq
  have c0 := k1.cell 0
  have c1 := k1.cell 1
  have c2 := k1.cell 2
  have c3 := k1.cell 3
  have c4 := k1.cell 4
  have c5 := k1.cell 5
  have c6 := k1.cell 6
  have c7 := k1.cell 7
  have c8 := k1.cell 8
  have c9 := k1.cell 9
  have c10 := k1.cell 10
  simp only [List.getElem?_toArray, List.getElem?_cons_zero, List.getElem?_cons_succ] at c0 c1 c2 c3 c4 c5 c6 c7 c8 c9 c10
  have f0 := k1.frozen 0
  have f1 := k1.frozen 1
  have f2 := k1.frozen 2
  have f3 := k1.frozen 3
  have f4 := k1.frozen 4
  have f5 := k1.frozen 5
  have f6 := k1.frozen 6
  have f7 := k1.frozen 7
  have f8 := k1.frozen 8
  have f9 := k1.frozen 9
  have f10 := k1.frozen 10
  obtain ⟨w2, hw2⟩ : ∃ w2, (((((((((((w1.setCell ⟨w.heap.size, 0, none⟩ (.string mac)).setCell ⟨w.heap.size, 1, none⟩ (.bool pr)).setCell ⟨w.heap.size, 2, none⟩ (.bool au)).setCell ⟨w.heap.size, 3, none⟩ (.bool am)).setCell ⟨w.heap.size, 4, none⟩ (.bool nu)).setCell ⟨w.heap.size, 5, none⟩ (.bool nm)).setCell ⟨w.heap.size, 6, none⟩ (.bool na)).setCell ⟨w.heap.size, 7, none⟩ (.slice U us.length uc)).setCell ⟨w.heap.size, 8, none⟩ (.slice M ms.length mc)).setCell ⟨w.heap.size, 9, none⟩ (.bool vo)).setCell ⟨w.heap.size, 10, none⟩ (.slice V vs.length vc)) = w2 := ⟨_, rfl⟩
  have hv : Vs w [(w.heap.size, ⟨mac, pr, au, am, nu, nm, na, U, us, uc, M, ms, mc, vo, V, vs, vc⟩)] w2 := hw2 ▸ vs_begin (F := ⟨mac0, pr0, au0, am0, nu0, nm0, na0, U0, us0, uc0, M0, ms0, mc0, vo0, V0, vs0, vc0⟩) (G := ⟨mac, pr, au, am, nu, nm, na, U, us, uc, M, ms, mc, vo, V, vs, vc⟩) hG hl hq
  have HW := Lib.hid hw2
  have k2 : Blk w2 w.heap.size 25 #[.string mac, .bool pr, .bool au, .bool am, .bool nu, .bool nm, .bool na, .slice U us.length uc, .slice M ms.length mc, .bool vo, .slice V vs.length vc] := hv.get (show (w.heap.size, (⟨mac, pr, au, am, nu, nm, na, U, us, uc, M, ms, mc, vo, V, vs, vc⟩ : Fl)) ∈ _ by simp)
  clear hw2 k1 hq
  have d0 := k2.cell 0
  have d1 := k2.cell 1
  have d2 := k2.cell 2
  have d3 := k2.cell 3
  have d4 := k2.cell 4
  have d5 := k2.cell 5
  have d6 := k2.cell 6
  have d7 := k2.cell 7
  have d8 := k2.cell 8
  have d9 := k2.cell 9
  have d10 := k2.cell 10
  simp only [List.getElem?_toArray, List.getElem?_cons_zero, List.getElem?_cons_succ] at d0 d1 d2 d3 d4 d5 d6 d7 d8 d9 d10
  clear k2
  go_wp2_with (rw [HW.out]; clear c0 c1 c2 c3 c4 c5 c6 c7 c8 c9 c10 f0 f1 f2 f3 f4 f5 f6 f7 f8 f9 f10 HW)
  have HV2 := Lib.hid hv
  clear hv d0 d1 d2 d3 d4 d5 d6 d7 d8 d9 d10
  go_loopw [5] (fun i wr => ∃ tn : Nat, tn ≤ 2 ∧ i = .int .i64 tn ∧ Vs w [(w.heap.size, (⟨mac, pr, au, am, nu, nm, na, U, us, uc, M, ms, mc, vo, V, vs, vc⟩ : Fl))] wr) (fun i _ => 2 - (intOf i).toNat)
  case atStart => exact ⟨0, by omega, rfl, HV2.out⟩
  case round =>
    obtain ⟨tn, htn, rfl, hvr⟩ := hrel
    clear HV2
    by_cases hlt2 : tn < 2
    · have qf : Blk wr w.heap.size 25 #[.string mac, .bool pr, .bool au, .bool am, .bool nu, .bool nm, .bool na, .slice U us.length uc, .slice M ms.length mc, .bool vo, .slice V vs.length vc] := hvr.get (show (w.heap.size, (⟨mac, pr, au, am, nu, nm, na, U, us, uc, M, ms, mc, vo, V, vs, vc⟩ : Fl)) ∈ _ by simp)
      have fq0 := qf.cell 0
      have fq1 := qf.cell 1
      have fq2 := qf.cell 2
      have fq3 := qf.cell 3
      have fq4 := qf.cell 4
      have fq5 := qf.cell 5
      have fq6 := qf.cell 6
      have fq7 := qf.cell 7
      have fq8 := qf.cell 8
      have fq9 := qf.cell 9
      have fq10 := qf.cell 10
      simp only [List.getElem?_toArray, List.getElem?_cons_zero, List.getElem?_cons_succ] at fq0 fq1 fq2 fq3 fq4 fq5 fq6 fq7 fq8 fq9 fq10
      have lf := qf.lt
      clear qf
      have HC := Lib.hid (H1.out [(w.heap.size, (⟨mac, pr, au, am, nu, nm, na, U, us, uc, M, ms, mc, vo, V, vs, vc⟩ : Fl))] _ hvr (by simp))
      go_wp2_with fail
      refine (HC.out).mono ?_
      rintro e w3 ⟨rfl, hq⟩
      have ho1 := hvr.next hq
      have hn1 : Vs w [(w3.heap.size, Fl.zero), (w.heap.size, (⟨mac, pr, au, am, nu, nm, na, U, us, uc, M, ms, mc, vo, V, vs, vc⟩ : Fl))] (w3.alloc (.cells #[.string ⟨#[]⟩, .bool false, .bool false, .bool false, .bool false, .bool false, .bool false, .slice none 0 0, .slice none 0 0, .bool false, .slice none 0 0] 25)) := ho1.new (F := Fl.zero) (nil_at rfl rfl rfl _ _) (nil_few rfl rfl rfl) (fun q _ => nil_off rfl rfl rfl _)
      clear HC hq fq0 fq1 fq2 fq3 fq4 fq5 fq6 fq7 fq8 fq9 fq10 lf
      have qf : Blk w3 w.heap.size 25 #[.string mac, .bool pr, .bool au, .bool am, .bool nu, .bool nm, .bool na, .slice U us.length uc, .slice M ms.length mc, .bool vo, .slice V vs.length vc] := ho1.get (show (w.heap.size, (⟨mac, pr, au, am, nu, nm, na, U, us, uc, M, ms, mc, vo, V, vs, vc⟩ : Fl)) ∈ _ by simp)
      have fq0 := qf.cell 0
      have fq1 := qf.cell 1
      have fq2 := qf.cell 2
      have fq3 := qf.cell 3
      have fq4 := qf.cell 4
      have fq5 := qf.cell 5
      have fq6 := qf.cell 6
      have fq7 := qf.cell 7
      have fq8 := qf.cell 8
      have fq9 := qf.cell 9
      have fq10 := qf.cell 10
      simp only [List.getElem?_toArray, List.getElem?_cons_zero, List.getElem?_cons_succ] at fq0 fq1 fq2 fq3 fq4 fq5 fq6 fq7 fq8 fq9 fq10
      have lf := qf.lt
      clear qf
      have HC := Lib.hid (H2.out [(w3.heap.size, Fl.zero), (w.heap.size, (⟨mac, pr, au, am, nu, nm, na, U, us, uc, M, ms, mc, vo, V, vs, vc⟩ : Fl))] _ hn1 (by simp))
      go_wp2_with fail
      refine (HC.out).mono ?_
      rintro e w4 ⟨rfl, hq⟩
      have ho2 := hn1.next hq
      have hn2 : Vs w [(w4.heap.size, Fl.zero), (w3.heap.size, Fl.zero), (w.heap.size, (⟨mac, pr, au, am, nu, nm, na, U, us, uc, M, ms, mc, vo, V, vs, vc⟩ : Fl))] (w4.alloc (.cells #[.string ⟨#[]⟩, .bool false, .bool false, .bool false, .bool false, .bool false, .bool false, .slice none 0 0, .slice none 0 0, .bool false, .slice none 0 0] 25)) := ho2.new (F := Fl.zero) (nil_at rfl rfl rfl _ _) (nil_few rfl rfl rfl) (fun q _ => nil_off rfl rfl rfl _)
      clear HC hq fq0 fq1 fq2 fq3 fq4 fq5 fq6 fq7 fq8 fq9 fq10 lf ho1 hn1
      have qf : Blk w4 w.heap.size 25 #[.string mac, .bool pr, .bool au, .bool am, .bool nu, .bool nm, .bool na, .slice U us.length uc, .slice M ms.length mc, .bool vo, .slice V vs.length vc] := ho2.get (show (w.heap.size, (⟨mac, pr, au, am, nu, nm, na, U, us, uc, M, ms, mc, vo, V, vs, vc⟩ : Fl)) ∈ _ by simp)
      have fq0 := qf.cell 0
      have fq1 := qf.cell 1
      have fq2 := qf.cell 2
      have fq3 := qf.cell 3
      have fq4 := qf.cell 4
      have fq5 := qf.cell 5
      have fq6 := qf.cell 6
      have fq7 := qf.cell 7
      have fq8 := qf.cell 8
      have fq9 := qf.cell 9
      have fq10 := qf.cell 10
      simp only [List.getElem?_toArray, List.getElem?_cons_zero, List.getElem?_cons_succ] at fq0 fq1 fq2 fq3 fq4 fq5 fq6 fq7 fq8 fq9 fq10
      have lf := qf.lt
      clear qf
      have HC := Lib.hid (H3.out [(w4.heap.size, Fl.zero), (w3.heap.size, Fl.zero), (w.heap.size, (⟨mac, pr, au, am, nu, nm, na, U, us, uc, M, ms, mc, vo, V, vs, vc⟩ : Fl))] _ hn2 (by simp))
      go_wp2_with fail
      refine (HC.out).mono ?_
      rintro e w5 ⟨rfl, hq⟩
      have ho3 := hn2.next hq
      have hn3 : Vs w [(w5.heap.size, Fl.zero), (w4.heap.size, Fl.zero), (w3.heap.size, Fl.zero), (w.heap.size, (⟨mac, pr, au, am, nu, nm, na, U, us, uc, M, ms, mc, vo, V, vs, vc⟩ : Fl))] (w5.alloc (.cells #[.string ⟨#[]⟩, .bool false, .bool false, .bool false, .bool false, .bool false, .bool false, .slice none 0 0, .slice none 0 0, .bool false, .slice none 0 0] 25)) := ho3.new (F := Fl.zero) (nil_at rfl rfl rfl _ _) (nil_few rfl rfl rfl) (fun q _ => nil_off rfl rfl rfl _)
      clear HC hq fq0 fq1 fq2 fq3 fq4 fq5 fq6 fq7 fq8 fq9 fq10 lf ho2 hn2
      have qf : Blk w5 w.heap.size 25 #[.string mac, .bool pr, .bool au, .bool am, .bool nu, .bool nm, .bool na, .slice U us.length uc, .slice M ms.length mc, .bool vo, .slice V vs.length vc] := ho3.get (show (w.heap.size, (⟨mac, pr, au, am, nu, nm, na, U, us, uc, M, ms, mc, vo, V, vs, vc⟩ : Fl)) ∈ _ by simp)
      have fq0 := qf.cell 0
      have fq1 := qf.cell 1
      have fq2 := qf.cell 2
      have fq3 := qf.cell 3
      have fq4 := qf.cell 4
      have fq5 := qf.cell 5
      have fq6 := qf.cell 6
      have fq7 := qf.cell 7
      have fq8 := qf.cell 8
      have fq9 := qf.cell 9
      have fq10 := qf.cell 10
      simp only [List.getElem?_toArray, List.getElem?_cons_zero, List.getElem?_cons_succ] at fq0 fq1 fq2 fq3 fq4 fq5 fq6 fq7 fq8 fq9 fq10
      have lf := qf.lt
      clear qf
      have HC := Lib.hid (H4.out [(w5.heap.size, Fl.zero), (w4.heap.size, Fl.zero), (w3.heap.size, Fl.zero), (w.heap.size, (⟨mac, pr, au, am, nu, nm, na, U, us, uc, M, ms, mc, vo, V, vs, vc⟩ : Fl))] _ hn3 (by simp))
      go_wp2_with fail
      refine (HC.out).mono ?_
      rintro e w6 ⟨rfl, hq⟩
      have ho4 := hn3.next hq
      have hn4 : Vs w [(w6.heap.size, Fl.zero), (w5.heap.size, Fl.zero), (w4.heap.size, Fl.zero), (w3.heap.size, Fl.zero), (w.heap.size, (⟨mac, pr, au, am, nu, nm, na, U, us, uc, M, ms, mc, vo, V, vs, vc⟩ : Fl))] (w6.alloc (.cells #[.string ⟨#[]⟩, .bool false, .bool false, .bool false, .bool false, .bool false, .bool false, .slice none 0 0, .slice none 0 0, .bool false, .slice none 0 0] 25)) := ho4.new (F := Fl.zero) (nil_at rfl rfl rfl _ _) (nil_few rfl rfl rfl) (fun q _ => nil_off rfl rfl rfl _)
      clear HC hq fq0 fq1 fq2 fq3 fq4 fq5 fq6 fq7 fq8 fq9 fq10 lf ho3 hn3
      have qa : Blk w6 w3.heap.size 25 #[.string ⟨#[]⟩, .bool false, .bool false, .bool false, .bool false, .bool false, .bool false, .slice none 0 0, .slice none 0 0, .bool false, .slice none 0 0] := ho4.get (show (w3.heap.size, Fl.zero) ∈ _ by simp)
      have aq0 := qa.cell 0
      have aq1 := qa.cell 1
      have aq2 := qa.cell 2
      have aq3 := qa.cell 3
      have aq4 := qa.cell 4
      have aq5 := qa.cell 5
      have aq6 := qa.cell 6
      have aq7 := qa.cell 7
      have aq8 := qa.cell 8
      have aq9 := qa.cell 9
      have aq10 := qa.cell 10
      simp only [List.getElem?_toArray, List.getElem?_cons_zero, List.getElem?_cons_succ] at aq0 aq1 aq2 aq3 aq4 aq5 aq6 aq7 aq8 aq9 aq10
      have la := qa.lt
      clear qa
      have qb : Blk w6 w4.heap.size 25 #[.string ⟨#[]⟩, .bool false, .bool false, .bool false, .bool false, .bool false, .bool false, .slice none 0 0, .slice none 0 0, .bool false, .slice none 0 0] := ho4.get (show (w4.heap.size, Fl.zero) ∈ _ by simp)
      have bq0 := qb.cell 0
      have bq1 := qb.cell 1
      have bq2 := qb.cell 2
      have bq3 := qb.cell 3
      have bq4 := qb.cell 4
      have bq5 := qb.cell 5
      have bq6 := qb.cell 6
      have bq7 := qb.cell 7
      have bq8 := qb.cell 8
      have bq9 := qb.cell 9
      have bq10 := qb.cell 10
      simp only [List.getElem?_toArray, List.getElem?_cons_zero, List.getElem?_cons_succ] at bq0 bq1 bq2 bq3 bq4 bq5 bq6 bq7 bq8 bq9 bq10
      have lb := qb.lt
      clear qb
      go_wp2_with fail
      refine (HS.out _).mono ?_
      rintro e w7 ⟨rfl, hq⟩
      have hv7 := hn4.next hq
      clear hq aq0 aq1 aq2 aq3 aq4 aq5 aq6 aq7 aq8 aq9 aq10 bq0 bq1 bq2 bq3 bq4 bq5 bq6 bq7 bq8 bq9 bq10 la lb ho4 hn4
      have qc : Blk w7 w5.heap.size 25 #[.string ⟨#[]⟩, .bool false, .bool false, .bool false, .bool false, .bool false, .bool false, .slice none 0 0, .slice none 0 0, .bool false, .slice none 0 0] := hv7.get (show (w5.heap.size, Fl.zero) ∈ _ by simp)
      have cq0 := qc.cell 0
      have cq1 := qc.cell 1
      have cq2 := qc.cell 2
      have cq3 := qc.cell 3
      have cq4 := qc.cell 4
      have cq5 := qc.cell 5
      have cq6 := qc.cell 6
      have cq7 := qc.cell 7
      have cq8 := qc.cell 8
      have cq9 := qc.cell 9
      have cq10 := qc.cell 10
      simp only [List.getElem?_toArray, List.getElem?_cons_zero, List.getElem?_cons_succ] at cq0 cq1 cq2 cq3 cq4 cq5 cq6 cq7 cq8 cq9 cq10
      have lc := qc.lt
      clear qc
      have qd : Blk w7 w6.heap.size 25 #[.string ⟨#[]⟩, .bool false, .bool false, .bool false, .bool false, .bool false, .bool false, .slice none 0 0, .slice none 0 0, .bool false, .slice none 0 0] := hv7.get (show (w6.heap.size, Fl.zero) ∈ _ by simp)
      have dq0 := qd.cell 0
      have dq1 := qd.cell 1
      have dq2 := qd.cell 2
      have dq3 := qd.cell 3
      have dq4 := qd.cell 4
      have dq5 := qd.cell 5
      have dq6 := qd.cell 6
      have dq7 := qd.cell 7
      have dq8 := qd.cell 8
      have dq9 := qd.cell 9
      have dq10 := qd.cell 10
      simp only [List.getElem?_toArray, List.getElem?_cons_zero, List.getElem?_cons_succ] at dq0 dq1 dq2 dq3 dq4 dq5 dq6 dq7 dq8 dq9 dq10
      have ld := qd.lt
      clear qd
      go_wp2_with fail
      refine (HS.out _).mono ?_
      rintro e w8 ⟨rfl, hq⟩
      have hv8 := hv7.next hq
      clear hq cq0 cq1 cq2 cq3 cq4 cq5 cq6 cq7 cq8 cq9 cq10 dq0 dq1 dq2 dq3 dq4 dq5 dq6 dq7 dq8 dq9 dq10 lc ld hv7
      have HV8 := Lib.hid hv8
      have qa : Blk w8 w3.heap.size 25 #[.string ⟨#[]⟩, .bool false, .bool false, .bool false, .bool false, .bool false, .bool false, .slice none 0 0, .slice none 0 0, .bool false, .slice none 0 0] := hv8.get (show (w3.heap.size, Fl.zero) ∈ _ by simp)
      have a10 : w8.cell? ⟨w3.heap.size, 10, none⟩ = some (.slice none 0 0) := qa.cell 10
      have qc : Blk w8 w5.heap.size 25 #[.string ⟨#[]⟩, .bool false, .bool false, .bool false, .bool false, .bool false, .bool false, .slice none 0 0, .slice none 0 0, .bool false, .slice none 0 0] := hv8.get (show (w5.heap.size, Fl.zero) ∈ _ by simp)
      have c7 : w8.cell? ⟨w5.heap.size, 7, none⟩ = some (.slice none 0 0) := qc.cell 7
      clear qa qc hv8
      go_wp2_with fail
      go_loopw [14] (fun i wq => i = .int .i64 0 ∧ wq = w8) (fun _ _ => 0)
      case atStart => exact ⟨rfl, rfl⟩
      case round =>
        obtain ⟨rfl, rfl⟩ := hrel
        go_wp2_with fail
        go_loopw [15] (fun i wq => i = .int .i64 0 ∧ wq = wr) (fun _ _ => 0)
        case atStart => exact ⟨rfl, rfl⟩
        case round =>
          obtain ⟨rfl, rfl⟩ := hrel
          go_wp2_with fail
          go_roundw
          case rel => exact ⟨tn + 1, by omega, by go_num, HV8.out.less (by simp)⟩
          case measure => simp [intOf]; omega
    · go_wp2_with fail
      refine (fixed_step hvr).mono ?_
      rintro e w9 ⟨rfl, hv9⟩
      go_wp2_with fail
      go_ret
      exact ⟨rfl, hv9.below⟩
theorem filterSets_any (F : Fl) (x : Int) (w : World) (hF : F.At w.heap.size w) (hFit : F.Fit) :
    Calls Try.prog 4 #[F.val, .int .i64 x] w fun e w' => e = .returned (.bool true) ∧ Below w.heap.size w w' := by
  have AB := fun W => bound_any F W hFit
  have hG := bnd_at hF
  have hl := bnd_few F
  have hb60 : (bnd F).vs.length ≤ 60 := by show (F.vs.take 60).length ≤ 60; rw [List.length_take]; omega
  generalize bnd F = G at *
  by_cases hok : isV x = true ∧ ascB G.vs = true
  · obtain ⟨hx, ha⟩ := hok
    have lX := addL_length G.vs x
    have lY := delL_length G.vs x
    have eX := setL_add ha hx
    have eY := setL_del (x := x) ha
    refine sets_walk F.mac G.mac F.pr F.au F.am F.nu F.nm F.na F.vo G.pr G.au G.am G.nu G.nm G.na G.vo F.U F.M F.V G.U G.M G.V F.us F.ms G.us G.ms F.vs G.vs F.uc F.mc F.vc G.uc G.mc G.vc x (addL G.vs x) (delL G.vs x) w hG hl (by omega) AB ?_ ?_ ?_ ?_ ?_
    · exact fun L W h hm => (add_any G x W.heap.size W (h.at hm) (Nat.le_refl _) hl hx ha).mono fun _ _ hs => stepO_of h hm (by omega) hs
    · intro L W h hm
      have := rset_good G x true W.heap.size W (h.at hm) (Nat.le_refl _) hl hx ha
      rw [eX] at this
      exact this.mono fun _ _ hs => stepR_of h hm (by omega) hs
    · exact fun L W h hm => (del_any G x W.heap.size W (h.at hm) (Nat.le_refl _) hl hx ha).mono fun _ _ hs => stepO_of h hm (by omega) hs
    · intro L W h hm
      have := rset_good G x false W.heap.size W (h.at hm) (Nat.le_refl _) hl hx ha
      rw [eY] at this
      exact this.mono fun _ _ hs => stepR_of h hm (by omega) hs
    · exact fun L F G g k W h hm hk hS => same_yes F G W.heap.size W hS (h.at hm) (h.at hk) (Nat.le_refl _) (h.few hm)
  · have hbad : isV x = false ∨ ascB G.vs = false := by
      cases h1 : isV x
      · exact .inl rfl
      · cases h2 : ascB G.vs
        · exact .inr rfl
        · exact absurd ⟨h1, h2⟩ hok
    refine sets_bad F.mac G.mac F.pr F.au F.am F.nu F.nm F.na F.vo G.pr G.au G.am G.nu G.nm G.na G.vo F.U F.M F.V G.U G.M G.V F.us F.ms G.us G.ms F.vs G.vs F.uc F.mc F.vc G.uc G.mc G.vc x w hG hl AB ?_ ?_ ?_ ?_ ?_
    · exact fun L W h hm => add_bad G x W.heap.size W (h.at hm) (Nat.le_refl _) hl hbad
    · exact fun L W h hm => rset_bad G x true W.heap.size W (h.at hm) (Nat.le_refl _) hl hbad
    · exact fun L W h hm => del_bad G x W.heap.size W (h.at hm) (Nat.le_refl _) hl hbad
    · exact fun L W h hm => rset_bad G x false W.heap.size W (h.at hm) (Nat.le_refl _) hl hbad
    · exact fun W => same_yes Fl.zero Fl.zero W.heap.size W ⟨rfl, rfl, rfl, rfl, rfl, rfl, rfl, rfl, rfl, rfl, rfl⟩ (nil_at rfl rfl rfl _ _) (nil_at rfl rfl rfl _ _) (Nat.le_refl _) (nil_few rfl rfl rfl)

set_option maxRecDepth 100000 in
theorem filterSets_lifted (os : Os) (started : os.Started) (H : Type) (enc : TypeId × Value → H) :
    ReturnsInHanded {} Try.checked os 4 .any (Rows.filterSetsSpec.pre6 enc Try.prog Try.f4 Rows.filterSetsRow.domain false) (Rows.filterSetsSpec.post enc Try.prog Try.f4 false true false false) := by
  have e : Try.f4.params.toList = [25, 3] := by rw [Try.params4]
  refine law_of_walk (C := Try.checked) (tb := 4) H enc Try.own started (by kernel_rfl) Try.func4 Try.laidOut rfl rfl Try.underlying4 ?_ ?_
    (ChangeSpec.witness6 (enc := enc) (C := Try.checked) false ⟨#[], #[.agg #[.string ByteArray.empty, .bool false, .bool false, .bool false, .bool false, .bool false, .bool false, .slice none 0 0, .slice none 0 0, .bool false, .slice none 0 0], .int .i64 0], []⟩ 8 (by kernel_rfl) (by kernel_rfl) (by kernel_rfl) (by kernel_rfl)) ?_
  · rw [e]
    intro t ht
    simp only [List.mem_cons, List.not_mem_nil, or_false] at ht
    rcases ht with rfl | rfl <;> exact ⟨by kernel_rfl, of_decide_eq_true (by kernel_rfl)⟩
  · intro ds hds
    rw [e] at hds
    match ds, hds with
    | [d0, d1], _ => rfl
  · intro W base args ds p hval0 hA0 hsz0
    have hval : ∀ (j : Nat) t v, Try.f4.params[j]? = some t → args[j]? = some v → Value.okWide Try.prog W .any base t v := hval0
    have hA : DataW.TrodAll enc Try.prog W 0 (fun _ => true) true Try.f4.params.toList args.toList ds p := hA0
    have hsz : (DataW.weightsEach Try.prog Try.f4.params.toList ds).all (· ≤ reachBytes) = true := hsz0
    rw [Try.params4] at hA hval hsz
    obtain ⟨v0, v1, d0, d1, p0, p1, rfl, rfl, rfl, h0, h1⟩ := trodAll_two hA
    obtain ⟨F, rfl, hF, hFit⟩ := open_filter (hval 0 25 v0 rfl rfl) h0
    obtain ⟨x1, rfl, rfl, rfl, k1⟩ := open_int Try.underlying3 (hval 1 3 v1 rfl rfl) h1
    have i1 := bounds_i64 k1
    exact filterSets_any F x1 W hF hFit

theorem filterSets_holds : Rows.FilterSetsSaid :=
  OpenClaim.holds_of_wide 4 Try.f4 rfl rfl rfl rfl rfl rfl rfl ⟨rfl, rfl, rfl, rfl, rfl⟩ rfl rfl rfl rfl rfl (by kernel_rfl) Try.func4 (by kernel_rfl)
    (of_decide_eq_true (by kernel_rfl)) (by unfold Func.isWrapper; first | (rw [if_pos (by decide +kernel)]; kernel_rfl) | (rw [if_neg (by decide +kernel)]; exact ⟨rfl, rfl⟩))
    (fun os started H enc _ => filterSets_lifted os started H enc)
end Go.Proofs.Ytboinnejkghfiaa
