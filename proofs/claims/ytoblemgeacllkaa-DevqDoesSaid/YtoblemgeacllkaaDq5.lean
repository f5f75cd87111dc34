/-
  chain: the chain that stands at NEXT, or that it is malformed.
-/
import Derived.Test.YtoblemgeacllkaaDq4
namespace Go.Proofs.Ytoblemgeacllkaa
open Go.RowKit

def cellF (w : World) (g i : Nat) : Value := (w.cell? ⟨g, i, none⟩).getD undef
theorem cellF_of {w : World} {g i : Nat} {v : Value} (h : w.cell? ⟨g, i, none⟩ = some v) : w.cell? ⟨g, i, none⟩ = some (cellF w g i) := by unfold cellF; rw [h]; rfl
/-- what chain answers -/
def ChainP (c : Ctx) (w : World) (V : Option Ch) (e : Ending) (w' : World) : Prop :=
  Rm c w w' ∧ match V with
  | none => Bad e
  | some h => ∃ A cap, e = .returned (.agg #[.int .i64 (h.id : Int), .int .i64 (h.count : Int), .slice A h.parts.length cap]) ∧ w'.ownsRow w.heap.size 56 3 (.slice A h.parts.length cap) h.parts.length (ptCells h.parts)
theorem three_results (f : Func) (w : World) (tmps : Array Value) (t : Tmp) (gf : Nat) (hf : f.results = #[.cell t 51]) (h : tmps[t]?.getD undef = .pointer (some ⟨gf, 0, none⟩)) (a b c : Value)
    (hF : Blk w gf 51 #[a, b, c]) : (results f tmps).run Try.prog w = .ok (.agg #[a, b, c]) w := by
  have c0 := hF.cell 0
  have c1 := hF.cell 1
  have c2 := hF.cell 2
  simp only [List.getElem?_toArray, List.getElem?_cons_zero, List.getElem?_cons_succ] at c0 c1 c2
  simp [results, hf, go_sem, h, c0, c1, c2]
/-- chain's last part under way -/
structure CB (c : Ctx) (w : World) (gr cap k nl : Nat) (l : List De) (W : World) : Prop where
  rm : Rm c w W
  own : W.ownsRow 0 35 4 (.slice (some ⟨gr, 0, none⟩) nl cap) nl (desCells l)
  blk : ∃ x y z, Blk W k 51 #[x, y, z]
  ge : w.heap.size ≤ k
def CH (c : Ctx) (w : World) (gr cap k nl j : Nat) (l : List De) (id : Value) (W : World) : Prop :=
  (W.cell? ⟨gr, j, none⟩ = some id ∧ W.cell? ⟨k, 0, none⟩ = some (cellF W k 0) ∧ W.cell? ⟨k, 1, none⟩ = some (cellF W k 1) ∧ W.cell? ⟨k, 2, none⟩ = some (cellF W k 2) ∧ W.frozen? ⟨k, 0, none⟩ = false ∧ W.frozen? ⟨k, 1, none⟩ = false ∧ W.frozen? ⟨k, 2, none⟩ = false) ∧ CB c w gr cap k nl l W
section
variable {c : Ctx} {w W W' : World} {gr cap k nl j : Nat} {l : List De} {id : Value}
theorem CH.of (h : CB c w gr cap k nl l W) (hi : (desCells l)[j]? = some id) : CH c w gr cap k nl j l id W := by
  obtain ⟨x, y, z, hb⟩ := h.blk
  have := h.own.cells (g := gr) rfl j id hi
  rw [addr_zero] at this
  exact ⟨⟨this, cellF_of (hb.cell 0), cellF_of (hb.cell 1), cellF_of (hb.cell 2), hb.frozen 0, hb.frozen 1, hb.frozen 2⟩, h⟩
theorem CB.on (h : CB c w gr cap k nl l W) (hr : Rm c W W') : CB c w gr cap k nl l W' := by
  obtain ⟨x, y, z, hb⟩ := h.blk
  exact ⟨h.rm.leave hr, own_keep h.own hr.keep (by decide) (by decide) (by decide), ⟨x, y, z, hb.keep hr.keep (by decide) (by decide) (by decide)⟩, h.ge⟩
theorem CB.drew (h : CB c w gr cap k nl l W) : CB c w gr cap k nl l W.drew := h.on h.rm.enter.drew
theorem CB.store (h : CB c w gr cap k nl l W) (a b d : Value) : CB c w gr cap k nl l (((W.setCell ⟨k, 0, none⟩ a).setCell ⟨k, 1, none⟩ b).setCell ⟨k, 2, none⟩ d) ∧ Blk (((W.setCell ⟨k, 0, none⟩ a).setCell ⟨k, 1, none⟩ b).setCell ⟨k, 2, none⟩ d) k 51 #[a, b, d] := by
  obtain ⟨x, y, z, hb⟩ := h.blk
  have k1 := hb.put 0 a
  have k2 := k1.put 1 b
  have k3 := k2.put 2 d
  have k4 : Blk (((W.setCell ⟨k, 0, none⟩ a).setCell ⟨k, 1, none⟩ b).setCell ⟨k, 2, none⟩ d) k 51 #[a, b, d] := by simpa using k3
  refine ⟨⟨((h.rm.put hb h.ge (by decide) (by decide) (by decide) (by decide) 0 a).put k1 h.ge (by decide) (by decide) (by decide) (by decide) 1 b).put k2 h.ge (by decide) (by decide) (by decide) (by decide) 2 d, ?_, ⟨_, _, _, k4⟩, h.ge⟩, k4⟩
  refine own_same h.own (fun i hi => ?_)
  have hne : i ≠ k := fun e => own_ne h.own hb (by decide) (e ▸ hi)
  rw [Below.heap_setCell _ _ _ _ hne, Below.heap_setCell _ _ _ _ hne, Below.heap_setCell _ _ _ _ hne]
end
set_option maxRecDepth 100000 in
set_option maxHeartbeats 3200000 in
theorem chain_some {c : Ctx} {wE w : World} (h : Rm c wE w) (hq : c.q.Ok c.xs.length) (d0 : De) (hd : d0.Ok) (hout : c.q.out < c.q.size) (l n : List De) (p : List Pt)
    (h1 : ringGo c.xs c.q.ring c.q.size (allowed c.q - 1) c.q.na [] d0 = some l) (h2 : nameV c.xs l = some n) (h3 : partsGo c.xs n false = some p) (hl : ∀ d ∈ l, d.Ok) (hn : n.length ≤ 64) (hl2 : 1 ≤ l.length ∧ l.length ≤ 64) :
    Calls Try.prog 66 #[.pointer (some ⟨c.gq, 0, none⟩), d0.v] w (ChainP c w (some ⟨lastId l, l.length, p⟩)) := by
  have HE := Lib.hid h.enter
  have HR := fun W (h : Rm c W W) => rest_any h hq d0 hd hout
  have HN := fun W (h : Rm c W W) A cap (ho : W.ownsRow 0 35 4 (.slice A l.length cap) l.length (desCells l)) => naming_any h l hl A cap ho
  have HP := fun W (h : Rm c W W) A cap (ho : W.ownsRow 0 35 4 (.slice A n.length cap) n.length (desCells n)) => parts_any h n (nameV_ok h2 hl) hn A cap ho
  rw [h1] at HR
  rw [h2] at HN
  rw [h3] at HP
  have HR := Lib.hid HR
  have HN' := HN
  clear HN
  have HP := Lib.hid HP
  obtain ⟨m, hm⟩ : ∃ m, l.length = m + 1 := ⟨l.length - 1, by omega⟩
  have hm64 : m ≤ 63 := by omega
  have hid : (desCells l)[m * 4 + 2]? = some (.int .i64 (lastId l : Int)) := by
    have := (desCells_at l m (by omega)).2.2.1
    rw [this]
    have e : l.getLast? = some l[m] := by
      have h5 : l.length - 1 = m := by omega
      rw [List.getLast?_eq_getElem?, List.getElem?_eq_some_iff]
      exact ⟨by omega, by simp only [h5]⟩
    unfold lastId
    rw [e]
  obtain ⟨ix, hI⟩ : ∃ ix, (lastId l : Int) = ix := ⟨_, rfl⟩
  unfold ChainP
  simp only
  rw [hI] at hid ⊢
  rw [hm] at HN' ⊢
  rw [show ((m + 1 : Nat) : Int) = (m : Int) + 1 by omega]
  have HN := Lib.hid HN'
  clear HN'
  have HID := Lib.hid hid
  have Hm := Lib.hid hm
  clear h hq hd h1 h2 h3 hl hl2 hm hid hI
  unfold De.v at HR ⊢
  go_enter Try.func66, Try.ntmps66
  go_wp2_with fail
  refine (HR.out _ ((HE.out.alloc _).alloc _).enter).mono ?_
  intro e w1 hL
  obtain ⟨R1, A, cap, rfl, own⟩ := hL
  obtain ⟨gr, cap', he, hge, hltg⟩ := own.form (by rw [Hm.out]; omega)
  injection he with e1 e2 e3
  subst e1 e3
  have C1 : CB c w gr cap (w.heap.size + 1) (m + 1) l w1 :=
    ⟨((HE.out.alloc _).alloc _).leave R1, by have := own_base own (Nat.zero_le _); rwa [Hm.out] at this, ⟨_, _, _, (Sp.Blk.new2 w _ 51 #[.int .i64 0, .int .i64 0, .slice none 0 0]).keep R1.keep (by decide) (by decide) (by decide)⟩, by omega⟩
  have C1 := Lib.hid C1
  clear own R1 hge
  rw [Hm.out]
  go_wp2_with fail
  have v1 : IntKind.i64.wrap ((m : Int) + 1 - 1) = (m : Int) := by rw [IntKind.wrap_i64]; omega
  have v7 : IntKind.i64.wrap (m : Int) = (m : Int) := by rw [IntKind.wrap_i64]; omega
  have v6 : wrap64 (m : Int) = (m : Int) := by unfold wrap64; omega
  have v2 : (0 : Int) ≤ (m : Int) := by omega
  have v4 : m < m + 1 := by omega
  have v5 : (m : Int) < (m : Int) + 1 := by omega
  go_region_held3 (fun W => (W.cell? ⟨gr, m * 4 + 2, none⟩ = some (.int .i64 ix) ∧ W.cell? ⟨w.heap.size + 1, 0, none⟩ = some (cellF W (w.heap.size + 1) 0) ∧ W.cell? ⟨w.heap.size + 1, 1, none⟩ = some (cellF W (w.heap.size + 1) 1) ∧ W.cell? ⟨w.heap.size + 1, 2, none⟩ = some (cellF W (w.heap.size + 1) 2) ∧ W.frozen? ⟨w.heap.size + 1, 0, none⟩ = false ∧ W.frozen? ⟨w.heap.size + 1, 1, none⟩ = false ∧ W.frozen? ⟨w.heap.size + 1, 2, none⟩ = false) ∧ CB c w gr cap (w.heap.size + 1) (m + 1) l W)
    ((refine (id (α := CH c w gr cap (w.heap.size + 1) (m + 1) (m * 4 + 2) l (.int .i64 ix) _) ?_); with_reducible (first | exact CH.of (C1.out.drew.on RN |>.on RP |>.store _ _ _).1 HID.out | exact CH.of C1.out.drew HID.out | exact CH.of (C1.out.drew.on RN) HID.out | exact CH.of (C1.out.drew.on RN |>.on RP) HID.out)))
    (first
      | (go_at_call 89; ((with_reducible refine (HN.out _ C1.out.drew.rm.enter _ _ C1.out.drew.own).mono ?_); rintro e w2 ⟨RN, A2, cap2, rfl, ON⟩))
      | (go_at_call 88; ((with_reducible refine (HP.out _ RN.enter _ _ ON).mono ?_); rintro e w3 ⟨RP, A3, cap3, rfl, OP⟩)))
  have hb3 : w.heap.size ≤ w2.heap.size := by
    have := (C1.out.drew.on RN).rm.keep.size
    exact this
  obtain ⟨CE, kE⟩ := ((C1.out.drew.on RN).on RP).store (.int .i64 ix) (.int .i64 ((m : Int) + 1)) (.slice A3 p.length cap3)
  have OE := own_same (w' := ((w3.setCell ⟨w.heap.size + 1, 0, none⟩ (.int .i64 ix)).setCell ⟨w.heap.size + 1, 1, none⟩ (.int .i64 ((m : Int) + 1))).setCell ⟨w.heap.size + 1, 2, none⟩ (.slice A3 p.length cap3)) OP (fun i hi => by
    obtain ⟨x, y, z, hb⟩ := ((C1.out.drew.on RN).on RP).blk
    have hne : i ≠ w.heap.size + 1 := fun e => own_ne OP hb (by decide) (e ▸ hi)
    rw [Below.heap_setCell _ _ _ _ hne, Below.heap_setCell _ _ _ _ hne, Below.heap_setCell _ _ _ _ hne])
  have CE := Lib.hid CE
  have kE := Lib.hid kE
  have OE := Lib.hid (own_base OE hb3)
  clear OP RP RN ON
  go_wp2_with fail
  exact bodyPost_ret (v := .agg #[.int .i64 ix, .int .i64 ((m : Int) + 1), .slice A3 p.length cap3]) (three_results _ _ _ 4 (w.heap.size + 1) rfl rfl _ _ _ kE.out) rfl ⟨CE.out.rm, A3, cap3, rfl, OE.out⟩
set_option maxRecDepth 100000 in
set_option maxHeartbeats 3200000 in
theorem chain_ring {c : Ctx} {wE w : World} (h : Rm c wE w) (hq : c.q.Ok c.xs.length) (d0 : De) (hd : d0.Ok) (hout : c.q.out < c.q.size)
    (h1 : ringGo c.xs c.q.ring c.q.size (allowed c.q - 1) c.q.na [] d0 = none) :
    Calls Try.prog 66 #[.pointer (some ⟨c.gq, 0, none⟩), d0.v] w (ChainP c w none) := by
  have HE := Lib.hid h.enter
  have HR := fun W (h : Rm c W W) => rest_any h hq d0 hd hout
  rw [h1] at HR
  have HR := Lib.hid HR
  clear h hq hd h1
  unfold De.v at HR ⊢
  go_enter Try.func66, Try.ntmps66
  go_wp2_with fail
  refine (HR.out _ ((HE.out.alloc _).alloc _).enter).mono ?_
  intro e w1 hL
  obtain ⟨R1, he⟩ := hL
  have he : Bad e := he
  unfold Bad at he
  subst he
  exact ⟨rfl, ((HE.out.alloc _).alloc _).leave R1, rfl⟩
set_option maxRecDepth 100000 in
set_option maxHeartbeats 3200000 in
theorem chain_name {c : Ctx} {wE w : World} (h : Rm c wE w) (hq : c.q.Ok c.xs.length) (d0 : De) (hd : d0.Ok) (hout : c.q.out < c.q.size) (l : List De)
    (h1 : ringGo c.xs c.q.ring c.q.size (allowed c.q - 1) c.q.na [] d0 = some l) (h2 : nameV c.xs l = none) (hl : ∀ d ∈ l, d.Ok) (hl2 : 1 ≤ l.length ∧ l.length ≤ 64) :
    Calls Try.prog 66 #[.pointer (some ⟨c.gq, 0, none⟩), d0.v] w (ChainP c w none) := by
  have HE := Lib.hid h.enter
  have HR := fun W (h : Rm c W W) => rest_any h hq d0 hd hout
  have HN := fun W (h : Rm c W W) A cap (ho : W.ownsRow 0 35 4 (.slice A l.length cap) l.length (desCells l)) => naming_any h l hl A cap ho
  rw [h1] at HR
  rw [h2] at HN
  have HR := Lib.hid HR
  have HN' := HN
  clear HN
  obtain ⟨m, hm⟩ : ∃ m, l.length = m + 1 := ⟨l.length - 1, by omega⟩
  have hm64 : m ≤ 63 := by omega
  have hid : (desCells l)[m * 4 + 2]? = some (.int .i64 (lastId l : Int)) := by
    have := (desCells_at l m (by omega)).2.2.1
    rw [this]
    have e : l.getLast? = some l[m] := by
      have h5 : l.length - 1 = m := by omega
      rw [List.getLast?_eq_getElem?, List.getElem?_eq_some_iff]
      exact ⟨by omega, by simp only [h5]⟩
    unfold lastId
    rw [e]
  obtain ⟨ix, hI⟩ : ∃ ix, (lastId l : Int) = ix := ⟨_, rfl⟩
  rw [hI] at hid
  rw [hm] at HN'
  have HN := Lib.hid HN'
  clear HN'
  have HID := Lib.hid hid
  have Hm := Lib.hid hm
  clear h hq hd h1 h2 hl hl2 hm hid hI
  unfold De.v at HR ⊢
  go_enter Try.func66, Try.ntmps66
  go_wp2_with fail
  refine (HR.out _ ((HE.out.alloc _).alloc _).enter).mono ?_
  intro e w1 hL
  obtain ⟨R1, A, cap, rfl, own⟩ := hL
  obtain ⟨gr, cap', he, hge, hltg⟩ := own.form (by rw [Hm.out]; omega)
  injection he with e1 e2 e3
  subst e1 e3
  have C1 : CB c w gr cap (w.heap.size + 1) (m + 1) l w1 :=
    ⟨((HE.out.alloc _).alloc _).leave R1, by have := own_base own (Nat.zero_le _); rwa [Hm.out] at this, ⟨_, _, _, (Sp.Blk.new2 w _ 51 #[.int .i64 0, .int .i64 0, .slice none 0 0]).keep R1.keep (by decide) (by decide) (by decide)⟩, by omega⟩
  have C1 := Lib.hid C1
  clear own R1 hge
  rw [Hm.out]
  go_wp2_with fail
  have v1 : IntKind.i64.wrap ((m : Int) + 1 - 1) = (m : Int) := by rw [IntKind.wrap_i64]; omega
  have v7 : IntKind.i64.wrap (m : Int) = (m : Int) := by rw [IntKind.wrap_i64]; omega
  have v6 : wrap64 (m : Int) = (m : Int) := by unfold wrap64; omega
  have v2 : (0 : Int) ≤ (m : Int) := by omega
  have v4 : m < m + 1 := by omega
  have v5 : (m : Int) < (m : Int) + 1 := by omega
  refine wp_region_held_drew (S := (fun W => W.cell? ⟨gr, m * 4 + 2, none⟩ = some (.int .i64 ix) ∧ CB c w gr cap (w.heap.size + 1) (m + 1) l W)) (by kernel_rfl) ⟨(CH.of C1.out.drew HID.out).1.1, C1.out.drew⟩ (fun hHeld => ?_)
  refine wpAnyH_take (i := 0) (v := .slice (some ⟨gr, 0, none⟩) (m + 1) cap) (by rfl) (by kernel_rfl) (by kernel_rfl) (by kernel_rfl) (by intro _ _ _ h; exact h) (Or.inl ⟨by rfl, ?_⟩) (by assumption) ?_
  · intro W hSw
    try dsimp only at hSw
    go_simp
    try with_reducible rfl
  simp only [Act.put, List.setIfInBounds_toArray]
  refine wpAnyH_take (i := 1) (v := .slice (some ⟨gr, 0, none⟩) (m + 1) cap) (by rfl) (by kernel_rfl) (by kernel_rfl) (by kernel_rfl) (by intro _ _ _ h; exact h) (Or.inl ⟨by rfl, ?_⟩) (by assumption) ?_
  · intro W hSw
    try dsimp only at hSw
    go_simp
    try with_reducible rfl
  simp only [Act.put]
  refine wpAnyH_take (i := 2) (v := .int .i64 ((m : Int) + 1)) (by rfl) (by kernel_rfl) (by kernel_rfl) (by kernel_rfl) (by intro _ _ _ h; exact h) (Or.inl ⟨by rfl, ?_⟩) (by assumption) ?_
  · intro W hSw
    try dsimp only at hSw
    go_simp
    try with_reducible rfl
  simp only [Act.put]
  refine wpAnyH_take (i := 3) (v := .int .i64 (m : Int)) (by rfl) (by kernel_rfl) (by kernel_rfl) (by kernel_rfl) (by intro _ _ _ h; exact h) (Or.inl ⟨by rfl, ?_⟩) (by assumption) ?_
  · intro W hSw
    try dsimp only at hSw
    go_simp
    try with_reducible rfl
  simp only [Act.put]
  refine wpAnyH_take (i := 4) (v := .pointer (some ⟨gr, m * 4, none⟩)) (by rfl) (by kernel_rfl) (by kernel_rfl) (by kernel_rfl) (by intro _ _ _ h; exact h) (Or.inl ⟨by rfl, ?_⟩) (by assumption) ?_
  · intro W hSw
    try dsimp only at hSw
    go_simp
    try with_reducible rfl
  simp only [Act.put]
  refine wpAnyH_take (i := 5) (v := .pointer (some ⟨gr, m * 4 + 2, none⟩)) (by rfl) (by kernel_rfl) (by kernel_rfl) (by kernel_rfl) (by intro _ _ _ h; exact h) (Or.inl ⟨by rfl, ?_⟩) (by assumption) ?_
  · intro W hSw
    try dsimp only at hSw
    go_simp
    try with_reducible rfl
  simp only [Act.put]
  refine wpAnyH_take (i := 6) (v := .int .i64 ix) (by rfl) (by kernel_rfl) (by kernel_rfl) (by kernel_rfl) (by intro _ _ _ h; exact h) (Or.inl ⟨by rfl, ?_⟩) (by assumption) ?_
  · intro W hSw
    try dsimp only at hSw
    go_simp
    try with_reducible rfl
  simp only [Act.put]
  refine wpAnyH_take (i := 7) (v := .slice (some ⟨gr, 0, none⟩) (m + 1) cap) (by rfl) (by kernel_rfl) (by kernel_rfl) (by kernel_rfl) (by intro _ _ _ h; exact h) (Or.inl ⟨by rfl, ?_⟩) (by assumption) ?_
  · intro W hSw
    try dsimp only at hSw
    go_simp
    try with_reducible rfl
  simp only [Act.put]
  refine wpAnyH_take (i := 8) (v := .int .i64 ((m : Int) + 1)) (by rfl) (by kernel_rfl) (by kernel_rfl) (by kernel_rfl) (by intro _ _ _ h; exact h) (Or.inl ⟨by rfl, ?_⟩) (by assumption) ?_
  · intro W hSw
    try dsimp only at hSw
    go_simp
    try with_reducible rfl
  simp only [Act.put]
  refine wpAnyH_take (i := 9) (v := .pointer (some ⟨c.gq, 0, none⟩)) (by rfl) (by kernel_rfl) (by kernel_rfl) (by kernel_rfl) (by intro _ _ _ h; exact h) (Or.inl ⟨by rfl, ?_⟩) (by assumption) ?_
  · intro W hSw
    try dsimp only at hSw
    go_simp
    try with_reducible rfl
  simp only [Act.put]
  refine wpAnyH_take (i := 10) (v := .pointer (some ⟨c.gq, 0, none⟩)) (by rfl) (by kernel_rfl) (by kernel_rfl) (by kernel_rfl) (by intro _ _ _ h; exact h) (Or.inl ⟨by rfl, ?_⟩) (by assumption) ?_
  · intro W hSw
    try dsimp only at hSw
    go_simp
    try with_reducible rfl
  simp only [Act.put]
  refine wpAnyH_take (i := 11) (v := .slice (some ⟨gr, 0, none⟩) (m + 1) cap) (by rfl) (by kernel_rfl) (by kernel_rfl) (by kernel_rfl) (by intro _ _ _ h; exact h) (Or.inl ⟨by rfl, ?_⟩) (by assumption) ?_
  · intro W hSw
    try dsimp only at hSw
    go_simp
    try with_reducible rfl
  simp only [Act.put]
  refine wpAnyH_ready (rs := [12]) (by kernel_rfl) (by simp) ?_
  refine AllReadyH.cons (by rfl) (fun K hK => ?_) AllReadyH.nil
  go_simp
  refine (HN.out _ C1.out.drew.rm.enter _ _ C1.out.drew.own).mono ?_
  intro e w2 hL
  obtain ⟨RN, he⟩ := hL
  have he : Bad e := he
  unfold Bad at he
  subst he
  exact ⟨rfl, (C1.out.drew.on RN).rm, rfl⟩
set_option maxRecDepth 100000 in
set_option maxHeartbeats 3200000 in
theorem chain_part {c : Ctx} {wE w : World} (h : Rm c wE w) (hq : c.q.Ok c.xs.length) (d0 : De) (hd : d0.Ok) (hout : c.q.out < c.q.size) (l n : List De)
    (h1 : ringGo c.xs c.q.ring c.q.size (allowed c.q - 1) c.q.na [] d0 = some l) (h2 : nameV c.xs l = some n) (h3 : partsGo c.xs n false = none) (hl : ∀ d ∈ l, d.Ok) (hn : n.length ≤ 64) (hl2 : 1 ≤ l.length ∧ l.length ≤ 64) :
    Calls Try.prog 66 #[.pointer (some ⟨c.gq, 0, none⟩), d0.v] w (ChainP c w none) := by
  have HE := Lib.hid h.enter
  have HR := fun W (h : Rm c W W) => rest_any h hq d0 hd hout
  have HN := fun W (h : Rm c W W) A cap (ho : W.ownsRow 0 35 4 (.slice A l.length cap) l.length (desCells l)) => naming_any h l hl A cap ho
  have HP := fun W (h : Rm c W W) A cap (ho : W.ownsRow 0 35 4 (.slice A n.length cap) n.length (desCells n)) => parts_any h n (nameV_ok h2 hl) hn A cap ho
  rw [h1] at HR
  rw [h2] at HN
  rw [h3] at HP
  have HR := Lib.hid HR
  have HN' := HN
  clear HN
  have HP := Lib.hid HP
  obtain ⟨m, hm⟩ : ∃ m, l.length = m + 1 := ⟨l.length - 1, by omega⟩
  have hm64 : m ≤ 63 := by omega
  have hid : (desCells l)[m * 4 + 2]? = some (.int .i64 (lastId l : Int)) := by
    have := (desCells_at l m (by omega)).2.2.1
    rw [this]
    have e : l.getLast? = some l[m] := by
      have h5 : l.length - 1 = m := by omega
      rw [List.getLast?_eq_getElem?, List.getElem?_eq_some_iff]
      exact ⟨by omega, by simp only [h5]⟩
    unfold lastId
    rw [e]
  obtain ⟨ix, hI⟩ : ∃ ix, (lastId l : Int) = ix := ⟨_, rfl⟩
  rw [hI] at hid
  rw [hm] at HN'
  have HN := Lib.hid HN'
  clear HN'
  have HID := Lib.hid hid
  have Hm := Lib.hid hm
  clear h hq hd h1 h2 h3 hl hl2 hm hid hI
  unfold De.v at HR ⊢
  go_enter Try.func66, Try.ntmps66
  go_wp2_with fail
  refine (HR.out _ ((HE.out.alloc _).alloc _).enter).mono ?_
  intro e w1 hL
  obtain ⟨R1, A, cap, rfl, own⟩ := hL
  obtain ⟨gr, cap', he, hge, hltg⟩ := own.form (by rw [Hm.out]; omega)
  injection he with e1 e2 e3
  subst e1 e3
  have C1 : CB c w gr cap (w.heap.size + 1) (m + 1) l w1 :=
    ⟨((HE.out.alloc _).alloc _).leave R1, by have := own_base own (Nat.zero_le _); rwa [Hm.out] at this, ⟨_, _, _, (Sp.Blk.new2 w _ 51 #[.int .i64 0, .int .i64 0, .slice none 0 0]).keep R1.keep (by decide) (by decide) (by decide)⟩, by omega⟩
  have C1 := Lib.hid C1
  clear own R1 hge
  rw [Hm.out]
  go_wp2_with fail
  have v1 : IntKind.i64.wrap ((m : Int) + 1 - 1) = (m : Int) := by rw [IntKind.wrap_i64]; omega
  have v7 : IntKind.i64.wrap (m : Int) = (m : Int) := by rw [IntKind.wrap_i64]; omega
  have v6 : wrap64 (m : Int) = (m : Int) := by unfold wrap64; omega
  have v2 : (0 : Int) ≤ (m : Int) := by omega
  have v4 : m < m + 1 := by omega
  have v5 : (m : Int) < (m : Int) + 1 := by omega
  refine wp_region_held_drew (S := (fun W => W.cell? ⟨gr, m * 4 + 2, none⟩ = some (.int .i64 ix) ∧ CB c w gr cap (w.heap.size + 1) (m + 1) l W)) (by kernel_rfl) ⟨(CH.of C1.out.drew HID.out).1.1, C1.out.drew⟩ (fun hHeld => ?_)
  refine wpAnyH_take (i := 0) (v := .slice (some ⟨gr, 0, none⟩) (m + 1) cap) (by rfl) (by kernel_rfl) (by kernel_rfl) (by kernel_rfl) (by intro _ _ _ h; exact h) (Or.inl ⟨by rfl, ?_⟩) (by assumption) ?_
  · intro W hSw
    try dsimp only at hSw
    go_simp
    try with_reducible rfl
  simp only [Act.put, List.setIfInBounds_toArray]
  refine wpAnyH_take (i := 1) (v := .slice (some ⟨gr, 0, none⟩) (m + 1) cap) (by rfl) (by kernel_rfl) (by kernel_rfl) (by kernel_rfl) (by intro _ _ _ h; exact h) (Or.inl ⟨by rfl, ?_⟩) (by assumption) ?_
  · intro W hSw
    try dsimp only at hSw
    go_simp
    try with_reducible rfl
  simp only [Act.put]
  refine wpAnyH_take (i := 2) (v := .int .i64 ((m : Int) + 1)) (by rfl) (by kernel_rfl) (by kernel_rfl) (by kernel_rfl) (by intro _ _ _ h; exact h) (Or.inl ⟨by rfl, ?_⟩) (by assumption) ?_
  · intro W hSw
    try dsimp only at hSw
    go_simp
    try with_reducible rfl
  simp only [Act.put]
  refine wpAnyH_take (i := 3) (v := .int .i64 (m : Int)) (by rfl) (by kernel_rfl) (by kernel_rfl) (by kernel_rfl) (by intro _ _ _ h; exact h) (Or.inl ⟨by rfl, ?_⟩) (by assumption) ?_
  · intro W hSw
    try dsimp only at hSw
    go_simp
    try with_reducible rfl
  simp only [Act.put]
  refine wpAnyH_take (i := 4) (v := .pointer (some ⟨gr, m * 4, none⟩)) (by rfl) (by kernel_rfl) (by kernel_rfl) (by kernel_rfl) (by intro _ _ _ h; exact h) (Or.inl ⟨by rfl, ?_⟩) (by assumption) ?_
  · intro W hSw
    try dsimp only at hSw
    go_simp
    try with_reducible rfl
  simp only [Act.put]
  refine wpAnyH_take (i := 5) (v := .pointer (some ⟨gr, m * 4 + 2, none⟩)) (by rfl) (by kernel_rfl) (by kernel_rfl) (by kernel_rfl) (by intro _ _ _ h; exact h) (Or.inl ⟨by rfl, ?_⟩) (by assumption) ?_
  · intro W hSw
    try dsimp only at hSw
    go_simp
    try with_reducible rfl
  simp only [Act.put]
  refine wpAnyH_take (i := 6) (v := .int .i64 ix) (by rfl) (by kernel_rfl) (by kernel_rfl) (by kernel_rfl) (by intro _ _ _ h; exact h) (Or.inl ⟨by rfl, ?_⟩) (by assumption) ?_
  · intro W hSw
    try dsimp only at hSw
    go_simp
    try with_reducible rfl
  simp only [Act.put]
  refine wpAnyH_take (i := 7) (v := .slice (some ⟨gr, 0, none⟩) (m + 1) cap) (by rfl) (by kernel_rfl) (by kernel_rfl) (by kernel_rfl) (by intro _ _ _ h; exact h) (Or.inl ⟨by rfl, ?_⟩) (by assumption) ?_
  · intro W hSw
    try dsimp only at hSw
    go_simp
    try with_reducible rfl
  simp only [Act.put]
  refine wpAnyH_take (i := 8) (v := .int .i64 ((m : Int) + 1)) (by rfl) (by kernel_rfl) (by kernel_rfl) (by kernel_rfl) (by intro _ _ _ h; exact h) (Or.inl ⟨by rfl, ?_⟩) (by assumption) ?_
  · intro W hSw
    try dsimp only at hSw
    go_simp
    try with_reducible rfl
  simp only [Act.put]
  refine wpAnyH_take (i := 9) (v := .pointer (some ⟨c.gq, 0, none⟩)) (by rfl) (by kernel_rfl) (by kernel_rfl) (by kernel_rfl) (by intro _ _ _ h; exact h) (Or.inl ⟨by rfl, ?_⟩) (by assumption) ?_
  · intro W hSw
    try dsimp only at hSw
    go_simp
    try with_reducible rfl
  simp only [Act.put]
  refine wpAnyH_take (i := 10) (v := .pointer (some ⟨c.gq, 0, none⟩)) (by rfl) (by kernel_rfl) (by kernel_rfl) (by kernel_rfl) (by intro _ _ _ h; exact h) (Or.inl ⟨by rfl, ?_⟩) (by assumption) ?_
  · intro W hSw
    try dsimp only at hSw
    go_simp
    try with_reducible rfl
  simp only [Act.put]
  refine wpAnyH_take (i := 11) (v := .slice (some ⟨gr, 0, none⟩) (m + 1) cap) (by rfl) (by kernel_rfl) (by kernel_rfl) (by kernel_rfl) (by intro _ _ _ h; exact h) (Or.inl ⟨by rfl, ?_⟩) (by assumption) ?_
  · intro W hSw
    try dsimp only at hSw
    go_simp
    try with_reducible rfl
  simp only [Act.put]
  refine wpAnyH_ready (rs := [12]) (by kernel_rfl) (by simp) ?_
  refine AllReadyH.cons (by rfl) (fun K hK => ?_) AllReadyH.nil
  go_simp
  refine (HN.out _ C1.out.drew.rm.enter _ _ C1.out.drew.own).mono ?_
  rintro e w2 ⟨RN, A2, cap2, rfl, ON⟩
  refine hK.out _ _ ⟨(CH.of (C1.out.drew.on RN) HID.out).1.1, C1.out.drew.on RN⟩ (fun hHeld => ?_)
  clear hK K
  refine wpAnyH_ready (rs := [13]) (by kernel_rfl) (by simp) ?_
  refine AllReadyH.cons (by rfl) (fun K hK => ?_) AllReadyH.nil
  go_simp
  refine (HP.out _ RN.enter _ _ ON).mono ?_
  intro e w3 hL
  obtain ⟨RP, he⟩ := hL
  have he : Bad e := he
  unfold Bad at he
  subst he
  exact ⟨rfl, ((C1.out.drew.on RN).on RP).rm, rfl⟩
end Go.Proofs.Ytoblemgeacllkaa
