/-
  The laws' bound; a filter's clone, its lists in rows of its own; no condition.
-/
import Derived.Test.YtongkfimgohhbaaIns
import Derived.Test.YtongkfimgohhbaaCk
namespace Go.Proofs.Ytongkfimgohhbaa
open Go.RowKit

theorem Blk.set11 {w : World} {g : Nat} {t : TypeId} {a0 a1 a2 a3 a4 a5 a6 a7 a8 a9 a10 : Value} (h : Blk w g t #[a0, a1, a2, a3, a4, a5, a6, a7, a8, a9, a10]) (b0 b1 b2 b3 b4 b5 b6 b7 b8 b9 b10 : Value) :
    Blk (((((((((((w.setCell ⟨g, 0, none⟩ b0).setCell ⟨g, 1, none⟩ b1).setCell ⟨g, 2, none⟩ b2).setCell ⟨g, 3, none⟩ b3).setCell ⟨g, 4, none⟩ b4).setCell ⟨g, 5, none⟩ b5).setCell ⟨g, 6, none⟩ b6).setCell ⟨g, 7, none⟩ b7).setCell ⟨g, 8, none⟩ b8).setCell ⟨g, 9, none⟩ b9).setCell ⟨g, 10, none⟩ b10) g t #[b0, b1, b2, b3, b4, b5, b6, b7, b8, b9, b10] := by
  have := ((((((((((h.put 0 b0).put 1 b1).put 2 b2).put 3 b3).put 4 b4).put 5 b5).put 6 b6).put 7 b7).put 8 b8).put 9 b9).put 10 b10
  simpa using this
theorem below_set11 {B g : Nat} {w0 w : World} (h : Below B w0 w) (hB : B ≤ g) (b0 b1 b2 b3 b4 b5 b6 b7 b8 b9 b10 : Value) :
    Below B w0 (((((((((((w.setCell ⟨g, 0, none⟩ b0).setCell ⟨g, 1, none⟩ b1).setCell ⟨g, 2, none⟩ b2).setCell ⟨g, 3, none⟩ b3).setCell ⟨g, 4, none⟩ b4).setCell ⟨g, 5, none⟩ b5).setCell ⟨g, 6, none⟩ b6).setCell ⟨g, 7, none⟩ b7).setCell ⟨g, 8, none⟩ b8).setCell ⟨g, 9, none⟩ b9).setCell ⟨g, 10, none⟩ b10) :=
  ((((((((((h.setCell hB _).setCell hB _).setCell hB _).setCell hB _).setCell hB _).setCell hB _).setCell hB _).setCell hB _).setCell hB _).setCell hB _).setCell hB _
theorem add_zero_map (A : Option Addr) : A.map (fun x => x.add 0) = A := by
  cases A with
  | none => rfl
  | some a => rfl
/-- what the bound leaves of a filter -/
def bnd (F : Fl) : Fl := { F with us := F.us.take 20, ms := F.ms.take 20, vs := F.vs.take 60 }
theorem bnd_few (F : Fl) : (bnd F).Few := ⟨by show (F.us.take 20).length ≤ 400; rw [List.length_take]; omega, by show (F.ms.take 20).length ≤ 400; rw [List.length_take]; omega, by show (F.vs.take 60).length ≤ 400; rw [List.length_take]; omega⟩
theorem bnd_at {F : Fl} {B : Nat} {w : World} (h : F.At B w) : (bnd F).At B w := by
  refine ⟨?_, ?_, ?_⟩
  · show Rd B F.U ((F.us.take 20).map strV) w
    rw [List.map_take]; exact h.u.take 20
  · show Rd B F.M ((F.ms.take 20).map strV) w
    rw [List.map_take]; exact h.m.take 20
  · show Rd B F.V ((F.vs.take 60).map intV) w
    rw [List.map_take]; exact h.v.take 60

/-- a filter whose lists stand in rows of one's own -/
structure Fl.Own (F : Fl) (base : Nat) (w : World) : Prop where
  u : OwnS base F.U F.uc F.us w
  m : OwnS base F.M F.mc F.ms w
  v : OwnI base F.V F.vc F.vs w
theorem Fl.Own.at {F : Fl} {base B : Nat} {w : World} (h : F.Own base w) (hB : w.heap.size ≤ B) : F.At B w := ⟨Rd.own h.u hB, Rd.own h.m hB, Rd.own h.v hB⟩
theorem Fl.Own.less {F : Fl} {base base' : Nat} {w : World} (h : F.Own base w) (hb : base' ≤ base) : F.Own base' w := ⟨own_less h.u hb, own_less h.m hb, own_less h.v hb⟩
theorem own_next {w w' : World} {base : Nat} {e : TypeId} {size n : Nat} {v : Value} {xs : List Value} (h : w.ownsRow base e size v n xs) (hb : Below w.heap.size w w') : w'.ownsRow base e size v n xs := own_same h (fun k hk => hb.block k (h.lt k hk).2)
theorem Fl.Own.next {F : Fl} {base : Nat} {w w' : World} (h : F.Own base w) (hb : Below w.heap.size w w') : F.Own base w' := ⟨own_next h.u hb, own_next h.m hb, own_next h.v hb⟩
/-- the same filter, its lists elsewhere -/
structure Fl.Same (F G : Fl) : Prop where
  mac : G.mac = F.mac
  pr : G.pr = F.pr
  au : G.au = F.au
  am : G.am = F.am
  nu : G.nu = F.nu
  nm : G.nm = F.nm
  na : G.na = F.na
  us : G.us = F.us
  ms : G.ms = F.ms
  vo : G.vo = F.vo
  vs : G.vs = F.vs
/-- what clone hands back -/
def CloneP (F : Fl) (w : World) (e : Ending) (w' : World) : Prop :=
  ∃ G : Fl, F.Same G ∧ e = .returned G.val ∧ G.Own w.heap.size w' ∧ Below w.heap.size w w'
theorem clone_results (w : World) (tmps : Array Value) (g : Nat) (h2 : tmps[2]?.getD undef = .pointer (some ⟨g, 0, none⟩)) {a0 a1 a2 a3 a4 a5 a6 a7 a8 a9 a10 : Value} (h : Blk w g 25 #[a0, a1, a2, a3, a4, a5, a6, a7, a8, a9, a10]) :
    (results Try.f76 tmps).run Try.prog w = .ok (.agg #[a0, a1, a2, a3, a4, a5, a6, a7, a8, a9, a10]) w := by
  have c0 := h.cell 0
  have c1 := h.cell 1
  have c2 := h.cell 2
  have c3 := h.cell 3
  have c4 := h.cell 4
  have c5 := h.cell 5
  have c6 := h.cell 6
  have c7 := h.cell 7
  have c8 := h.cell 8
  have c9 := h.cell 9
  have c10 := h.cell 10
  simp only [List.getElem?_toArray, List.getElem?_cons_zero, List.getElem?_cons_succ] at c0 c1 c2 c3 c4 c5 c6 c7 c8 c9 c10
  simp [results, Try.results76, go_sem, h2, c0, c1, c2, c3, c4, c5, c6, c7, c8, c9, c10]
theorem own_set {w : World} {base g : Nat} {e : TypeId} {size n : Nat} {v : Value} {xs : List Value} (h : w.ownsRow base e size v n xs) (hg : g < base) (i : Nat) (u : Value) : (w.setCell ⟨g, i, none⟩ u).ownsRow base e size v n xs :=
  own_same h (fun k hk => Below.heap_setCell w _ u k (by have := (h.lt k hk).1; simp; omega))
theorem Blk.next {w w1 : World} {g : Nat} {t : TypeId} {cs : Array Value} (h : Blk w g t cs) (hq : Below w.heap.size w w1) : Blk w1 g t cs := h.same (hq.block _ h.lt)
theorem setCell_size (w : World) (a : Addr) (v : Value) : (w.setCell a v).heap.size = w.heap.size := by simp [World.setCell]
theorem Blk.far11 {w : World} {g' g : Nat} {t : TypeId} {cs : Array Value} (h : Blk w g' t cs) (hg : g' ≠ g) (b0 b1 b2 b3 b4 b5 b6 b7 b8 b9 b10 : Value) :
    Blk (((((((((((w.setCell ⟨g, 0, none⟩ b0).setCell ⟨g, 1, none⟩ b1).setCell ⟨g, 2, none⟩ b2).setCell ⟨g, 3, none⟩ b3).setCell ⟨g, 4, none⟩ b4).setCell ⟨g, 5, none⟩ b5).setCell ⟨g, 6, none⟩ b6).setCell ⟨g, 7, none⟩ b7).setCell ⟨g, 8, none⟩ b8).setCell ⟨g, 9, none⟩ b9).setCell ⟨g, 10, none⟩ b10) g' t cs :=
  ((((((((((h.other hg 0 b0).other hg 1 b1).other hg 2 b2).other hg 3 b3).other hg 4 b4).other hg 5 b5).other hg 6 b6).other hg 7 b7).other hg 8 b8).other hg 9 b9).other hg 10 b10
theorem own_set11 {w : World} {base g : Nat} {e : TypeId} {size n : Nat} {v : Value} {xs : List Value} (h : w.ownsRow base e size v n xs) (hg : g < base) (b0 b1 b2 b3 b4 b5 b6 b7 b8 b9 b10 : Value) :
    (((((((((((w.setCell ⟨g, 0, none⟩ b0).setCell ⟨g, 1, none⟩ b1).setCell ⟨g, 2, none⟩ b2).setCell ⟨g, 3, none⟩ b3).setCell ⟨g, 4, none⟩ b4).setCell ⟨g, 5, none⟩ b5).setCell ⟨g, 6, none⟩ b6).setCell ⟨g, 7, none⟩ b7).setCell ⟨g, 8, none⟩ b8).setCell ⟨g, 9, none⟩ b9).setCell ⟨g, 10, none⟩ b10).ownsRow base e size v n xs :=
  own_set (own_set (own_set (own_set (own_set (own_set (own_set (own_set (own_set (own_set (own_set h hg _ _) hg _ _) hg _ _) hg _ _) hg _ _) hg _ _) hg _ _) hg _ _) hg _ _) hg _ _) hg _ _
set_option maxHeartbeats 1000000 in
theorem clone_any (F : Fl) (B : Nat) (w : World) (hF : F.At B w) (hB : B ≤ w.heap.size) (hl : F.Few) : Calls Try.prog 76 #[F.val] w (CloneP F w) := by
  have A1 := fun W (hb : Below w.heap.size w W) => cloneS_any B F.U F.uc F.us W (hF.u.far hB hb) hl.u
  have A2 := fun W (hb : Below w.heap.size w W) => cloneS_any B F.M F.mc F.ms W (hF.m.far hB hb) hl.m
  have A3 := fun W (hb : Below w.heap.size w W) => cloneI_any B F.V F.vc F.vs W (hF.v.far hB hb) hl.v
  obtain ⟨mac, pr, au, am, nu, nm, na, U, us, uc, M, ms, mc, vo, V, vs, vc⟩ := F
  clear hF hl
  simp only at A1 A2 A3
  have H1 := Lib.hid A1
  have H2 := Lib.hid A2
  have H3 := Lib.hid A3
  clear A1 A2 A3
  show Calls Try.prog 76 #[.agg #[.string mac, .bool pr, .bool au, .bool am, .bool nu, .bool nm, .bool na, .slice U us.length uc, .slice M ms.length mc, .bool vo, .slice V vs.length vc]] w _
  go_enter Try.func76, Try.ntmps76
  go_wp2_with fail
  have k0 : Blk ((w.alloc (.cells #[.string mac, .bool pr, .bool au, .bool am, .bool nu, .bool nm, .bool na, .slice U us.length uc, .slice M ms.length mc, .bool vo, .slice V vs.length vc] 25)).alloc (.cells #[.string ⟨#[]⟩, .bool false, .bool false, .bool false, .bool false, .bool false, .bool false, .slice none 0 0, .slice none 0 0, .bool false, .slice none 0 0] 25)) w.heap.size 25 #[.string mac, .bool pr, .bool au, .bool am, .bool nu, .bool nm, .bool na, .slice U us.length uc, .slice M ms.length mc, .bool vo, .slice V vs.length vc] := (Blk.new w 25 _).alloc _
  have z0 : Blk ((w.alloc (.cells #[.string mac, .bool pr, .bool au, .bool am, .bool nu, .bool nm, .bool na, .slice U us.length uc, .slice M ms.length mc, .bool vo, .slice V vs.length vc] 25)).alloc (.cells #[.string ⟨#[]⟩, .bool false, .bool false, .bool false, .bool false, .bool false, .bool false, .slice none 0 0, .slice none 0 0, .bool false, .slice none 0 0] 25)) (w.heap.size + 1) 25 #[.string ⟨#[]⟩, .bool false, .bool false, .bool false, .bool false, .bool false, .bool false, .slice none 0 0, .slice none 0 0, .bool false, .slice none 0 0] := by
    have := Blk.new (w.alloc (.cells #[.string mac, .bool pr, .bool au, .bool am, .bool nu, .bool nm, .bool na, .slice U us.length uc, .slice M ms.length mc, .bool vo, .slice V vs.length vc] 25)) 25 #[.string ⟨#[]⟩, .bool false, .bool false, .bool false, .bool false, .bool false, .bool false, .slice none 0 0, .slice none 0 0, .bool false, .slice none 0 0]
    simpa using this
  have hb0 := ba (ba (b0 w) (.cells #[.string mac, .bool pr, .bool au, .bool am, .bool nu, .bool nm, .bool na, .slice U us.length uc, .slice M ms.length mc, .bool vo, .slice V vs.length vc] 25)) (.cells #[.string ⟨#[]⟩, .bool false, .bool false, .bool false, .bool false, .bool false, .bool false, .slice none 0 0, .slice none 0 0, .bool false, .slice none 0 0] 25)
  refine (H1.out _ hb0).mono ?_
  rintro e w1 ⟨U', uc', rfl, ho1, hq⟩
  replace ho1 := own_less (base' := w.heap.size + 2) ho1 (by simp)
  have k1 := k0.next hq
  have z1 := z0.next hq
  have hb1 := bt2 hb0 hq
  clear k0 z0 hb0 hq
  have c0 := k1.cell 0
  have c1 := k1.cell 1
  have c2 := k1.cell 2
  have c3 := k1.cell 3
  have c4 := k1.cell 4
  have c5 := k1.cell 5
  have c6 := k1.cell 6
  have c7 := k1.cell 7
  have c8 := k1.cell 8
  have c9 := k1.cell 9
  have c10 := k1.cell 10
  simp only [List.getElem?_toArray, List.getElem?_cons_zero, List.getElem?_cons_succ] at c0 c1 c2 c3 c4 c5 c6 c7 c8 c9 c10
  have f0 := k1.frozen 0
  have f1 := k1.frozen 1
  have f2 := k1.frozen 2
  have f3 := k1.frozen 3
  have f4 := k1.frozen 4
  have f5 := k1.frozen 5
  have f6 := k1.frozen 6
  have f7 := k1.frozen 7
  have f8 := k1.frozen 8
  have f9 := k1.frozen 9
  have f10 := k1.frozen 10
  go_wp2_with fail
  have k2 := k1.put 7 (.slice U' us.length uc')
  simp at k2
  have z2 := z1.other (k := w.heap.size) (by omega) 7 (.slice U' us.length uc')
  have ho2 := own_set ho1 (g := w.heap.size) (by omega) 7 (.slice U' us.length uc')
  have hb2 := hb1.setCell (p := ⟨w.heap.size, 7, none⟩) (Nat.le_refl _) (.slice U' us.length uc')
  refine (H2.out _ hb2).mono ?_
  rintro e w3 ⟨M', mc', rfl, hm3, hq⟩
  have hs3 := k2.lt
  have hz3 := z2.lt
  replace hm3 := own_less (base' := w.heap.size + 2) hm3 (by omega)
  have k3 := k2.next hq
  have z3 := z2.next hq
  have ho3 := own_next ho2 hq
  have hb3 := bt2 hb2 hq
  clear k1 k2 z1 z2 ho1 ho2 hb1 hb2 hq hs3 hz3 c0 c1 c2 c3 c4 c5 c6 c7 c8 c9 c10 f0 f1 f2 f3 f4 f5 f6 f7 f8 f9 f10
  have c0 := k3.cell 0
  have c1 := k3.cell 1
  have c2 := k3.cell 2
  have c3 := k3.cell 3
  have c4 := k3.cell 4
  have c5 := k3.cell 5
  have c6 := k3.cell 6
  have c7 := k3.cell 7
  have c8 := k3.cell 8
  have c9 := k3.cell 9
  have c10 := k3.cell 10
  simp only [List.getElem?_toArray, List.getElem?_cons_zero, List.getElem?_cons_succ] at c0 c1 c2 c3 c4 c5 c6 c7 c8 c9 c10
  have f0 := k3.frozen 0
  have f1 := k3.frozen 1
  have f2 := k3.frozen 2
  have f3 := k3.frozen 3
  have f4 := k3.frozen 4
  have f5 := k3.frozen 5
  have f6 := k3.frozen 6
  have f7 := k3.frozen 7
  have f8 := k3.frozen 8
  have f9 := k3.frozen 9
  have f10 := k3.frozen 10
  go_wp2_with fail
  have k4 := k3.put 8 (.slice M' ms.length mc')
  simp at k4
  have z4 := z3.other (k := w.heap.size) (by omega) 8 (.slice M' ms.length mc')
  have ho4 := own_set ho3 (g := w.heap.size) (by omega) 8 (.slice M' ms.length mc')
  have hm4 := own_set hm3 (g := w.heap.size) (by omega) 8 (.slice M' ms.length mc')
  have hb4 := hb3.setCell (p := ⟨w.heap.size, 8, none⟩) (Nat.le_refl _) (.slice M' ms.length mc')
  refine (H3.out _ hb4).mono ?_
  rintro e w5 ⟨V', vc', rfl, hv5, hq⟩
  have hs3 := k4.lt
  have hz3 := z4.lt
  replace hv5 := own_less (base' := w.heap.size + 2) hv5 (by omega)
  have k5 := k4.next hq
  have z5 := z4.next hq
  have ho5 := own_next ho4 hq
  have hm5 := own_next hm4 hq
  have hb5 := bt2 hb4 hq
  clear k3 k4 z3 z4 ho3 ho4 hm3 hm4 hb3 hb4 hq hs3 hz3 c0 c1 c2 c3 c4 c5 c6 c7 c8 c9 c10 f0 f1 f2 f3 f4 f5 f6 f7 f8 f9 f10
  have k6 := k5.put 10 (.slice V' vs.length vc')
  simp at k6
  have z6 := z5.other (k := w.heap.size) (by omega) 10 (.slice V' vs.length vc')
  have ho6 := own_set ho5 (g := w.heap.size) (by omega) 10 (.slice V' vs.length vc')
  have hm6 := own_set hm5 (g := w.heap.size) (by omega) 10 (.slice V' vs.length vc')
  have hv6 := own_set hv5 (g := w.heap.size) (by omega) 10 (.slice V' vs.length vc')
  have hb6 := hb5.setCell (p := ⟨w.heap.size, 10, none⟩) (Nat.le_refl _) (.slice V' vs.length vc')
  have hs5 := k5.lt
  have hz5 := z5.lt
  have c0 := k5.cell 0
  have c1 := k5.cell 1
  have c2 := k5.cell 2
  have c3 := k5.cell 3
  have c4 := k5.cell 4
  have c5 := k5.cell 5
  have c6 := k5.cell 6
  have c7 := k5.cell 7
  have c8 := k5.cell 8
  have c9 := k5.cell 9
  have c10 := k5.cell 10
  simp only [List.getElem?_toArray, List.getElem?_cons_zero, List.getElem?_cons_succ] at c0 c1 c2 c3 c4 c5 c6 c7 c8 c9 c10
  have f0 := k5.frozen 0
  have f1 := k5.frozen 1
  have f2 := k5.frozen 2
  have f3 := k5.frozen 3
  have f4 := k5.frozen 4
  have f5 := k5.frozen 5
  have f6 := k5.frozen 6
  have f7 := k5.frozen 7
  have f8 := k5.frozen 8
  have f9 := k5.frozen 9
  have f10 := k5.frozen 10
  have y0 := z5.frozen 0
  have y1 := z5.frozen 1
  have y2 := z5.frozen 2
  have y3 := z5.frozen 3
  have y4 := z5.frozen 4
  have y5 := z5.frozen 5
  have y6 := z5.frozen 6
  have y7 := z5.frozen 7
  have y8 := z5.frozen 8
  have y9 := z5.frozen 9
  have y10 := z5.frozen 10
  have d0 := z5.cell 0
  have d1 := z5.cell 1
  have d2 := z5.cell 2
  have d3 := z5.cell 3
  have d4 := z5.cell 4
  have d5 := z5.cell 5
  have d6 := z5.cell 6
  have d7 := z5.cell 7
  have d8 := z5.cell 8
  have d9 := z5.cell 9
  have d10 := z5.cell 10
  simp only [List.getElem?_toArray, List.getElem?_cons_zero, List.getElem?_cons_succ] at d0 d1 d2 d3 d4 d5 d6 d7 d8 d9 d10
  go_wp2_with fail
  have z7 := z6.set11 (.string mac) (.bool pr) (.bool au) (.bool am) (.bool nu) (.bool nm) (.bool na) (.slice U' us.length uc') (.slice M' ms.length mc') (.bool vo) (.slice V' vs.length vc')
  have hb7 := below_set11 hb6 (g := w.heap.size + 1) (by omega) (.string mac) (.bool pr) (.bool au) (.bool am) (.bool nu) (.bool nm) (.bool na) (.slice U' us.length uc') (.slice M' ms.length mc') (.bool vo) (.slice V' vs.length vc')
  have ho7 := own_set11 ho6 (g := w.heap.size + 1) (by omega) (.string mac) (.bool pr) (.bool au) (.bool am) (.bool nu) (.bool nm) (.bool na) (.slice U' us.length uc') (.slice M' ms.length mc') (.bool vo) (.slice V' vs.length vc')
  have hm7 := own_set11 hm6 (g := w.heap.size + 1) (by omega) (.string mac) (.bool pr) (.bool au) (.bool am) (.bool nu) (.bool nm) (.bool na) (.slice U' us.length uc') (.slice M' ms.length mc') (.bool vo) (.slice V' vs.length vc')
  have hv7 := own_set11 hv6 (g := w.heap.size + 1) (by omega) (.string mac) (.bool pr) (.bool au) (.bool am) (.bool nu) (.bool nm) (.bool na) (.slice U' us.length uc') (.slice M' ms.length mc') (.bool vo) (.slice V' vs.length vc')
  refine bodyPost_ret (v := .agg #[.string mac, .bool pr, .bool au, .bool am, .bool nu, .bool nm, .bool na, .slice U' us.length uc', .slice M' ms.length mc', .bool vo, .slice V' vs.length vc']) ?_ rfl ?_
  · exact clone_results _ _ _ rfl z7
  · exact ⟨⟨mac, pr, au, am, nu, nm, na, U', us, uc', M', ms, mc', vo, V', vs, vc'⟩, ⟨rfl, rfl, rfl, rfl, rfl, rfl, rfl, rfl, rfl, rfl, rfl⟩, rfl, ⟨own_less ho7 (by omega), own_less hm7 (by omega), own_less hv7 (by omega)⟩, hb7⟩

end Go.Proofs.Ytongkfimgohhbaa
