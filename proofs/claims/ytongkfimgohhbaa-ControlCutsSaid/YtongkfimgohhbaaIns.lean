/-
  slices.Insert of one number into a row of one's own, at any place, and slices.Delete of one: the new row, and that all other blocks stay; no condition.
-/
import Derived.Test.YtongkfimgohhbaaSl
namespace Go.Proofs.Ytongkfimgohhbaa
open Go.RowKit

/-- a list with a number more, at place i -/
def insL (L : List Int) (i : Nat) (x : Int) : List Int := L.take i ++ x :: L.drop i
theorem insL_length (L : List Int) (i : Nat) (x : Int) (h : i ≤ L.length) : (insL L i x).length = L.length + 1 := by
  simp [insL]; omega
theorem insL_map (L : List Int) (i : Nat) (x : Int) : (insL L i x).map intV = (L.map intV).take i ++ [intV x] ++ (L.map intV).drop i := by
  simp [insL, List.map_take, List.map_drop]
theorem frozen_out {w : World} {g : Nat} {t : TypeId} {cs : Array Value} (h : Blk w g t cs) (k : Nat) : w.frozen? ⟨g, k, none⟩ = false := h.frozen k
theorem one_ints (L : List Int) : ∀ v ∈ L.map intV, v.oneCell' = true := by
  intro u hu
  obtain ⟨c, _, rfl⟩ := List.mem_map.1 hu
  rfl
theorem shape_blk {w : World} {g : Nat} {t : TypeId} {cs : Array Value} (h : Blk w g t cs) : w.shape? g = some (t, cs.size) := by
  unfold Blk at h
  simp [World.shape?, h]
/-- what Insert leaves -/
def InsP (base : Nat) (A : Option Addr) (c : Nat) (L : List Int) (i : Nat) (x : Int) (w : World) (e : Ending) (w' : World) : Prop :=
  ∃ A' c', e = .returned (.slice A' (L.length + 1) c') ∧ OwnI base A' c' (insL L i x) w' ∧ w.grownBy w' (Value.slice A L.length c).ownBlock
theorem insP_mk {base g n c : Nat} {A : Option Addr} {cap : Nat} {cur : Array Value} {L : List Int} {i : Nat} {x : Int} {w w' : World} (hi : i ≤ L.length) (hn : n = L.length + 1) (hb : base ≤ g) (hg : Blk w' g 3 cur) (h1 : n ≤ cap) (h2 : cap ≤ maxLen) (h3 : cur.size = cap)
    (h4 : cur.toList.take n = (insL L i x).map intV) (hgr : w.grownBy w' (Value.slice A L.length c).ownBlock) : InsP base A c L i x w (.returned (.slice (some ⟨g, 0, none⟩) n cap)) w' := by
  subst hn
  refine ⟨_, _, rfl, ?_, hgr⟩
  unfold OwnI
  rw [insL_length _ _ _ hi]
  exact own_of_blk hb hg h1 h2 h3 h4 (by rw [List.length_map, insL_length _ _ _ hi])
theorem ins_list (cl cs rest : List Value) (x : Value) (i n : Nat) (hcl : cs.length = n) (hi : i < n) (ht : cl.take n = cs) :
    ((cl.take (i + 1) ++ cs.drop i ++ rest).take i ++ [x] ++ (cl.take (i + 1) ++ cs.drop i ++ rest).drop (i + 1)).take (n + 1) = cs.take i ++ [x] ++ cs.drop i := by
  have hlen : n ≤ cl.length := by
    have := congrArg List.length ht
    rw [List.length_take] at this
    omega
  have l1 : (cl.take (i + 1)).length = i + 1 := by rw [List.length_take]; omega
  have e1 : (cl.take (i + 1) ++ cs.drop i ++ rest).take i = cs.take i := by
    rw [List.append_assoc, List.take_append_of_le_length (by omega), List.take_take, ← ht, List.take_take]
    congr 1
    omega
  have e2 : (cl.take (i + 1) ++ cs.drop i ++ rest).drop (i + 1) = cs.drop i ++ rest := by
    rw [List.append_assoc, List.drop_left' l1]
  rw [e1, e2, ← List.append_assoc]
  exact List.take_left' (by simp; omega)
theorem ins_list2 (row cs r1 r2 : List Value) (x : Value) (i n : Nat) (hcl : cs.length = n) (hi : i < n) (h0 : row.take i = cs.take i) :
    ((row.take i ++ [x] ++ r1).take (i + 1) ++ cs.drop i ++ r2).take (n + 1) = cs.take i ++ [x] ++ cs.drop i := by
  have l1 : (cs.take i ++ [x]).length = i + 1 := by simp; omega
  rw [h0, List.take_left' l1]
  exact List.take_left' (by simp; omega)
theorem zero_size (k : Nat) : (Builtin.zeroCells (Value.int .i64 0).cells k).size = k := by simp [Builtin.zeroCells, Value.cells]
theorem insert_any (base vb : Nat) (A : Option Addr) (c : Nat) (L : List Int) (i : Nat) (x : Int) (w : World) (h : OwnI base A c L w) (hB : base ≤ w.heap.size) (hi : i ≤ L.length) (hl : L.length ≤ 400)
    (hv : Blk w vb 3 #[.int .i64 x]) (hne : (Value.slice A L.length c).ownBlock ≠ some vb) :
    Calls Try.prog 78 #[.slice A L.length c, .int .i64 i, .slice (some ⟨vb, 0, none⟩) 1 1] w (InsP base A c L i x w) := by
  have hvs : ∀ j v, ([.int .i64 x] : List Value)[j]? = some v → w.cell? ⟨vb, 0 + j, none⟩ = some v := by
    intro j v hj
    rw [Nat.zero_add, hv.cell]
    simpa using hj
  have h1v : ∀ v ∈ ([.int .i64 x] : List Value), v.oneCell' = true := by
    intro v hv'
    have : v = .int .i64 x := by simpa using hv'
    subst this; rfl
  have hvlt := hv.lt
  have e3 : linsert_ren.t 3 = 3 := rfl
  have hroom8 : (L.length + 1) * 8 ≤ 140737488355328 := by omega
  have hcap : ∀ o, grownCap w (L.length + 1) o 3 ≤ maxLen := fun o => grownCap_le_maxLen w _ o _ (by unfold maxLen; omega)
  by_cases hA : A = none
  · subst hA
    have hL : L = [] := by
      rcases h.2 with ⟨_, hn⟩ | ⟨g, cap, cur, hv', _⟩
      · exact List.length_eq_zero_iff.1 hn
      · injection hv' with hv'; cases hv'
    subst hL
    obtain rfl : i = 0 := by simpa using hi
    have hc0 : c = 0 := by
      rcases h.2 with ⟨hv', _⟩ | ⟨g, cap, cur, hv', _⟩
      · injection hv'
      · injection hv' with hv'; cases hv'
    subst hc0
    refine (Any2.slices_Insert_int_end_grow linsert none 0 0 vb 0 1 1 [] [.int .i64 x] w (by omega) (by omega) (by omega) (by omega) rfl rfl (fun _ => rfl) (fun a ha => by cases ha) hvs h1v).mono ?_
    rintro e w' ⟨rfl, rfl⟩
    have hge := grownCap_ge w (0 + 1) 0 3
    have hm := hcap 0
    rw [e3]
    simp only [List.length_nil] at hm
    generalize grownCap w (0 + 1) 0 3 = G at *
    refine insP_mk (n := 0 + 1) (cur := _) (Nat.le_refl _) (by simp) hB (Blk.new w.drew _ _) hge hm ?_ ?_ (grown_alloc (grown_drew (World.grownBy.refl w _)) _)
    · rw [Array.size_append, zero_size]; simp; omega
    · simp [insL, intV]
  · obtain ⟨g, cur, rfl, hbg, hg, hnc, hcm, hcs, hxs⟩ := own_blk h hA
    have hgne : vb ≠ g := by
      rintro rfl
      exact hne rfl
    have hcl : (L.map intV).length = L.length := List.length_map ..
    have hcell : ∀ j v, (L.map intV)[j]? = some v → w.cell? ⟨g, 0 + j, none⟩ = some v := by
      intro j v hj
      rw [Nat.zero_add, hg.cell]
      have hjl : j < L.length := by
        have := (List.getElem?_eq_some_iff.1 hj).1
        simpa using this
      rw [← hxs, List.getElem?_take, if_pos hjl] at hj
      rw [← hj]
      simp
    have hspare : ∀ j, j < c → (w.cell? ⟨g, 0 + j, none⟩).isSome = true := by
      intro j hj
      rw [Nat.zero_add, hg.cell, Array.getElem?_eq_getElem (by omega)]
      rfl
    have hfz : ∀ j, w.frozen? ⟨g, 0 + j, none⟩ = false := fun j => hg.frozen _
    have hm63 : c ≤ 9223372036854775807 := by unfold maxLen at hcm; omega
    have hr0 : w.grownBy w (Value.slice (some ⟨g, 0, none⟩) L.length c).ownBlock := World.grownBy.refl w _
    have hrow : (Value.slice (some ⟨g, 0, none⟩) L.length c).ownBlock = some g := rfl
    have htk : cur.toList.take L.length = L.map intV := hxs
    by_cases hroom : L.length + 1 ≤ c
    · by_cases hlt : i < L.length
      · refine (Any2.slices_Insert_int_shift linsert g 0 L.length c i vb 0 1 1 (L.map intV) [.int .i64 x] w hlt (by omega) hroom hm63 hgne hcl rfl hcell (fun j hj => hspare j (by omega)) (fun j _ => hfz j) hvs (one_ints L) h1v
          _ _ _ _ (shape_blk hv) (shape_blk hg) (by omega) (hv.frozen _) (hv.frozen _)).mono ?_
        rintro e w' ⟨rfl, rfl⟩
        simp only [Nat.zero_add]
        have hdl : ((L.map intV).drop i).length = L.length - i := by simp
        obtain ⟨d1, k1, k2⟩ := Blk.puts ((L.map intV).drop i) (i + 1) w.drew cur hg (by rw [hdl]; omega)
        have s1 : d1.size = cur.size := by
          have := congrArg List.length k2
          rw [List.length_append, List.length_append, List.length_take, hdl, List.length_drop] at this
          simp at this; omega
        obtain ⟨d2, k3, k4⟩ := Blk.puts [.int .i64 x] i _ d1 k1 (by simp; omega)
        have s2 : d2.size = d1.size := by
          have := congrArg List.length k4
          rw [List.length_append, List.length_append, List.length_take, List.length_drop] at this
          simp at this; omega
        refine insP_mk (Nat.le_of_lt hlt) rfl hbg k3 hroom hcm (by omega) ?_ (grown_puts (grown_puts (grown_drew hr0) (.inl hrow)) (.inl hrow))
        rw [insL_map, k4, k2]
        exact ins_list cur.toList (L.map intV) _ (.int .i64 x) i L.length hcl hlt htk
      · obtain rfl : i = L.length := by omega
        refine (Any2.slices_Insert_int_end_room linsert g 0 L.length c vb 0 1 1 [.int .i64 x] w (by omega) hroom hm63 rfl (fun j hj => by simpa using hspare (L.length + j) (by omega)) (fun j _ => by simpa using hfz (L.length + j)) hvs h1v).mono ?_
        rintro e w' ⟨rfl, rfl⟩
        simp only [Nat.zero_add]
        obtain ⟨d2, k3, k4⟩ := Blk.puts [.int .i64 x] L.length w cur hg (by simp; omega)
        have s2 : d2.size = cur.size := by
          have := congrArg List.length k4
          rw [List.length_append, List.length_append, List.length_take, List.length_drop] at this
          simp at this; omega
        refine insP_mk (Nat.le_refl _) rfl hbg k3 hroom hcm (by omega) ?_ (grown_puts hr0 (.inl hrow))
        rw [insL_map, k4, htk]
        have e1 : (L.map intV).take L.length = L.map intV := List.take_of_length_le (by simp)
        have e2 : (L.map intV).drop L.length = [] := List.drop_eq_nil_of_le (by simp)
        rw [e1, e2, List.append_nil]
        exact List.take_left' (by simp)
    · have hfull : c = L.length := by omega
      have hge := grownCap_ge w (L.length + 1) c 3
      by_cases hlt : i < L.length
      · refine (Any2.slices_Insert_int_grow linsert g 0 L.length c i vb 0 1 1 (L.map intV) [.int .i64 x] w hlt (by omega) hnc (by omega) hroom8 hcl rfl hcell hvs (one_ints L) h1v).mono ?_
        rintro e w' ⟨rfl, rfl⟩
        have hm := hcap c
        rw [e3]
        generalize grownCap w (L.length + 1) c 3 = G at *
        have hti : ((L.map intV).take i).length = i := by rw [List.length_take, hcl]; omega
        obtain ⟨row, hrw⟩ : ∃ row : Array Value, ((L.map intV).take i).toArray ++ Builtin.zeroCells (Value.int .i64 0).cells (L.length + 1 - i) ++ Builtin.zeroCells (Value.int .i64 0).cells (G - (L.length + 1)) = row := ⟨_, rfl⟩
        have hrs : row.size = G := by rw [← hrw, Array.size_append, Array.size_append, zero_size, zero_size, List.size_toArray, hti]; omega
        have hrt : row.toList.take i = (L.map intV).take i := by
          rw [← hrw]
          simp only [Array.toList_append, List.append_assoc]
          exact List.take_left' hti
        rw [hrw]
        have hdl : ((L.map intV).drop i).length = L.length - i := by simp
        obtain ⟨d1, k1, k2⟩ := Blk.puts [.int .i64 x] i (w.alloc (.cells row 3)).drew row (Blk.new w _ _) (by simp; omega)
        have s1 : d1.size = row.size := by
          have := congrArg List.length k2
          rw [List.length_append, List.length_append, List.length_take, List.length_drop] at this
          simp at this; omega
        obtain ⟨d2, k3, k4⟩ := Blk.puts ((L.map intV).drop i) (i + 1) ((w.alloc (.cells row 3)).drew.setCells w.heap.size i [.int .i64 x]).drew d1 k1 (by rw [hdl]; omega)
        have s2 : d2.size = d1.size := by
          have := congrArg List.length k4
          rw [List.length_append, List.length_append, List.length_take, hdl, List.length_drop] at this
          simp at this; omega
        refine insP_mk (Nat.le_of_lt hlt) rfl hB k3 hge hm (by omega) ?_ (grown_puts (grown_drew (grown_puts (grown_drew (grown_alloc hr0 _)) (.inr (Nat.le_refl _)))) (.inr (Nat.le_refl _)))
        rw [insL_map, k4, k2]
        exact ins_list2 row.toList (L.map intV) _ _ (.int .i64 x) i L.length hcl hlt hrt
      · obtain rfl : i = L.length := by omega
        refine (Any2.slices_Insert_int_end_grow linsert (some ⟨g, 0, none⟩) L.length c vb 0 1 1 (L.map intV) [.int .i64 x] w (by omega) hnc (by omega) hroom8 hcl rfl (fun h => by cases h) (fun a ha j v hj => by injection ha with ha; subst ha; rw [Addr.add_lit]; exact hcell j v hj) hvs h1v).mono ?_
        rintro e w' ⟨rfl, rfl⟩
        have hm := hcap c
        rw [e3]
        generalize grownCap w (L.length + 1) c 3 = G at *
        refine insP_mk (cur := _) (Nat.le_refl _) rfl hB (Blk.new w.drew _ _) hge hm ?_ ?_ (grown_alloc (grown_drew hr0) _)
        · rw [Array.size_append, zero_size]; simp; omega
        · have e1 : (L.map intV).take L.length = L.map intV := List.take_of_length_le (by simp)
          have e2 : (L.map intV).drop L.length = [] := List.drop_eq_nil_of_le (by simp)
          rw [insL_map, e1, e2, List.append_nil, Array.toList_append]
          exact List.take_left' (by simp)
/-- a list without the number at place i -/
def cutL (L : List Int) (i : Nat) : List Int := L.take i ++ L.drop (i + 1)
theorem cutL_length (L : List Int) (i : Nat) (h : i < L.length) : (cutL L i).length = L.length - 1 := by
  simp [cutL]; omega
def CutP (base : Nat) (A : Option Addr) (c : Nat) (L : List Int) (i : Nat) (w : World) (e : Ending) (w' : World) : Prop :=
  e = .returned (.slice A (L.length - 1) c) ∧ OwnI base A c (cutL L i) w' ∧ w.grownBy w' (Value.slice A L.length c).ownBlock
theorem delete_any (base : Nat) (A : Option Addr) (c : Nat) (L : List Int) (i : Nat) (w : World) (h : OwnI base A c L w) (hi : i < L.length) :
    Calls Try.prog 79 #[.slice A L.length c, .int .i64 i, .int .i64 ((i : Int) + 1)] w (CutP base A c L i w) := by
  have hA : A ≠ none := by
    rintro rfl
    rcases h.2 with ⟨_, hn⟩ | ⟨g, cap, cur, hv', _⟩
    · omega
    · injection hv' with hv'; cases hv'
  obtain ⟨g, cur, rfl, hbg, hg, hnc, hcm, hcs, hxs⟩ := own_blk h hA
  have hr : Rd w.heap.size (some ⟨g, 0, none⟩) (L.map intV) w := Rd.of_own h
  have hm63 : c ≤ 9223372036854775807 := by unfold maxLen at hcm; omega
  have e1 : ((i : Int) + 1) = ((i + 1 : Nat) : Int) := by omega
  rw [e1]
  refine (Any.slices_Delete_int_cells ldelete g 0 L.length c i (i + 1) L w (Nat.le_refl _) hnc hm63 (by omega) (by omega) (cells_int hr) (fun j _ => hg.frozen _)).mono ?_
  rintro e w' ⟨rfl, q, rfl⟩
  have hr0 : w.grownBy w (Value.slice (some ⟨g, 0, none⟩) L.length c).ownBlock := World.grownBy.refl w _
  have hrow : (Value.slice (some ⟨g, 0, none⟩) L.length c).ownBlock = some g := rfl
  rw [List.take_of_length_le (Nat.le_refl _), show i + 1 - i = 1 by omega]
  have hll : ((L.take i ++ L.drop (i + 1) ++ List.replicate 1 0).map (Value.int .i64)).length = L.length := by simp; omega
  obtain ⟨d1, k1, k2⟩ := Blk.puts ((L.take i ++ L.drop (i + 1) ++ List.replicate 1 0).map (Value.int .i64)) 0 (w.drewN q) cur hg (by rw [hll]; omega)
  have s1 : d1.size = cur.size := by
    have := congrArg List.length k2
    rw [List.length_append, List.length_append, List.length_take, hll, List.length_drop] at this
    simp at this; omega
  refine ⟨rfl, ?_, grown_puts (grown_drewN hr0 q) (.inl hrow)⟩
  unfold OwnI
  rw [cutL_length _ _ hi]
  refine own_of_blk hbg k1 (by omega) hcm (by omega) ?_ (by rw [List.length_map, cutL_length _ _ hi])
  rw [k2, List.take_zero, List.nil_append, List.map_append, List.append_assoc]
  have e2 : (L.take i ++ L.drop (i + 1)).map (Value.int .i64) = (cutL L i).map intV := rfl
  rw [e2]
  exact List.take_left' (by rw [List.length_map, cutL_length _ _ hi])
end Go.Proofs.Ytongkfimgohhbaa
