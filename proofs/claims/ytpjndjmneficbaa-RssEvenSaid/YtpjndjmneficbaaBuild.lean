/-
  What the code's Build answers, for every frame.
-/
import Derived.Test.YtpjndjmneficbaaParse
namespace Go.Proofs.Ytpjndjmneficbaa
open Go.RowKit

def tagS (v p : Int) : ByteArray := if v = -1 then ⟨#[]⟩ else two 33024 ++ two (8192 * p + v)
theorem tag_or (v p : Int) (h0 : 0 ≤ v) (h1 : v ≤ 4094) (h2 : 0 ≤ p) (h3 : p ≤ 7) : bits .or .i64 (p * 8192) v = 8192 * p + v := by
  refine (bits_join .i64 63 (by decide) (fun n a b => IntWalk.i64_in n (by omega)) 13 _ _ (by omega) ?_ (by omega) h0 (by omega) (by omega)).trans (by omega)
  omega
theorem held_new (w : World) (d r : ByteArray) (v p t : Int) (b : ByteArray) : (w.alloc (.cells #[.string d, .string r, .int .i64 v, .int .i64 p, .int .i64 t, .string b] 51)).drew.cell? ⟨w.heap.size, 3, none⟩ = some (.int .i64 p) ∧
    (w.alloc (.cells #[.string d, .string r, .int .i64 v, .int .i64 p, .int .i64 t, .string b] 51)).drew.cell? ⟨w.heap.size, 2, none⟩ = some (.int .i64 v) ∧ w.heap.size < (w.alloc (.cells #[.string d, .string r, .int .i64 v, .int .i64 p, .int .i64 t, .string b] 51)).drew.heap.size ∧ Below w.heap.size w (w.alloc (.cells #[.string d, .string r, .int .i64 v, .int .i64 p, .int .i64 t, .string b] 51)).drew :=
  ⟨(Blk.new w 51 #[.string d, .string r, .int .i64 v, .int .i64 p, .int .i64 t, .string b]).cell 3, (Blk.new w 51 #[.string d, .string r, .int .i64 v, .int .i64 p, .int .i64 t, .string b]).cell 2, by simp, ((Below.refl _ _).alloc (Nat.le_refl _) _).drew⟩
theorem held_next {w w1 w' : World} {x y : Value} (h : w1.cell? ⟨w.heap.size, 3, none⟩ = some x ∧ w1.cell? ⟨w.heap.size, 2, none⟩ = some y ∧ w.heap.size < w1.heap.size ∧ Below w.heap.size w w1) (hq : Below w1.heap.size w1 w') :
    w'.cell? ⟨w.heap.size, 3, none⟩ = some x ∧ w'.cell? ⟨w.heap.size, 2, none⟩ = some y ∧ w.heap.size < w'.heap.size ∧ Below w.heap.size w w' :=
  ⟨(hq.cell h.2.2.1).trans h.1, (hq.cell h.2.2.1).trans h.2.1, by have := hq.size; have := h.2.2.1; omega, h.2.2.2.trans (hq.mono (by have := h.2.2.1; omega))⟩
set_option maxHeartbeats 1600000 in
theorem tagBytes_some (d r : ByteArray) (v p t : Int) (b : ByteArray) (w : World) (h0 : 0 ≤ v) (h1 : v ≤ 4094) (h2 : 0 ≤ p) (h3 : p ≤ 7) :
    Calls Try.prog 46 #[.agg #[.string d, .string r, .int .i64 v, .int .i64 p, .int .i64 t, .string b]] w fun e w' => e = .returned (.string (tagS v p)) ∧ Below w.heap.size w w' := by
  have hv : (v == -1) = false := by simpa using (by omega : v ≠ -1)
  have eT : tagS v p = two 33024 ++ two (8192 * p + v) := by rw [tagS, if_neg (by omega)]
  rw [eT]
  have A1 := fun W => word_two 33024 W (by omega) (by omega)
  have A2 := fun W => word_two (8192 * p + v) W (by omega) (by omega)
  have s1 := Nat.le_of_eq (two_size 33024)
  have s2 := Nat.le_of_eq (two_size (8192 * p + v))
  have q1 := tag_or v p h0 h1 h2 h3
  generalize hX : two 33024 = X at *
  generalize hY : two (8192 * p + v) = Y at *
  have HA1 := Lib.hid A1
  have HA2 := Lib.hid A2
  have q2 : IntKind.i64.wrap (p * 8192) = p * 8192 := IntWalk.i64_in _ (by omega)
  have q3 : ¬ 9223372036854775807 < X.size + Y.size := by omega
  clear A1 A2 hX hY eT
  go_enter Try.func46, Try.ntmps46
  go_wp2_with fail
  have hc := held_new w d r v p t b
  go_region_held3 (fun w' => w'.cell? ⟨w.heap.size, 3, none⟩ = some (.int .i64 p) ∧ w'.cell? ⟨w.heap.size, 2, none⟩ = some (.int .i64 v) ∧ w.heap.size < w'.heap.size ∧ Below w.heap.size w w')
    (first | exact hc | assumption | exact held_next (by assumption) hq)
    (first
      | (go_at_call 47; ((with_reducible refine (HA1.out _).mono ?_); rintro e w' ⟨rfl, hq⟩))
      | (go_at_call 47; ((with_reducible refine (HA2.out _).mono ?_); rintro e w' ⟨rfl, hq⟩)))
  go_wp2
  go_ret
  rename_i hH
  exact ⟨rfl, hH.2.2.2⟩
theorem tagBytes_none (d r : ByteArray) (p t : Int) (b : ByteArray) (w : World) :
    Calls Try.prog 46 #[.agg #[.string d, .string r, .int .i64 (-1), .int .i64 p, .int .i64 t, .string b]] w fun e w' => e = .returned (.string (tagS (-1) p)) ∧ Below w.heap.size w w' := by
  have e : tagS (-1) p = ⟨#[]⟩ := if_pos rfl
  rw [e]
  go_enter Try.func46, Try.ntmps46
  go_wp2
  go_ret
  exact ⟨rfl, (Below.refl _ _).alloc (Nat.le_refl _) _⟩
theorem tagB_cases {v p : Int} (h : tagB v p = true) : v = -1 ∧ p = 0 ∨ (0 ≤ v ∧ v ≤ 4094 ∧ 0 ≤ p ∧ p ≤ 7) := by
  unfold tagB at h
  split at h
  · exact .inl ⟨by assumption, of_decide_eq_true h⟩
  · exact .inr (of_decide_eq_true h)
theorem tagBytes_any (d r : ByteArray) (v p t : Int) (b : ByteArray) (w : World) (h : tagB v p = true) :
    Calls Try.prog 46 #[.agg #[.string d, .string r, .int .i64 v, .int .i64 p, .int .i64 t, .string b]] w fun e w' => e = .returned (.string (tagS v p)) ∧ Below w.heap.size w w' := by
  rcases tagB_cases h with ⟨rfl, _⟩ | ⟨h0, h1, h2, h3⟩
  · exact tagBytes_none _ _ _ _ _ _
  · exact tagBytes_some _ _ _ _ _ _ _ h0 h1 h2 h3
theorem tagS_size (v p : Int) : (tagS v p).size = if v = -1 then 0 else 4 := by
  unfold tagS; split
  · rfl
  · rw [ByteArray.size_append, two_size, two_size]
theorem frameB_iff {f : Fr} : frameB f = true ↔ f.d.size = 6 ∧ f.r.size = 6 ∧ tagB f.v f.p = true ∧ kindB f.t = true := by
  unfold frameB; exact decide_eq_true_iff
theorem kindB_iff {t : Int} : kindB t = true ↔ 1536 ≤ t ∧ t ≤ 65535 ∧ t ≠ 33024 := by
  unfold kindB; exact decide_eq_true_iff

/-- The six cells of a frame, and all else as it was. -/
structure Six (w : World) (d r : ByteArray) (v p t : Int) (b : ByteArray) (w' : World) : Prop where
  blk : Blk w' w.heap.size 51 #[.string d, .string r, .int .i64 v, .int .i64 p, .int .i64 t, .string b]
  below : Below w.heap.size w w'
theorem Six.new (w : World) (d r : ByteArray) (v p t : Int) (b : ByteArray) : Six w d r v p t b (w.alloc (.cells #[.string d, .string r, .int .i64 v, .int .i64 p, .int .i64 t, .string b] 51)) := ⟨Blk.new w 51 _, (Below.refl _ _).alloc (Nat.le_refl _) _⟩
theorem Six.next {w w1 w' : World} {d r : ByteArray} {v p t : Int} {b : ByteArray} (h : Six w d r v p t b w1) (hq : Below w1.heap.size w1 w') : Six w d r v p t b w' :=
  ⟨h.blk.same (hq.block _ h.blk.lt), h.below.trans (hq.mono (by have := h.blk.lt; omega))⟩
theorem Six.drew {w w1 : World} {d r : ByteArray} {v p t : Int} {b : ByteArray} (h : Six w d r v p t b w1) : Six w d r v p t b w1.drew := ⟨h.blk, h.below.drew⟩
theorem Six.cells {w w1 : World} {d r : ByteArray} {v p t : Int} {b : ByteArray} (h : Six w d r v p t b w1) : w1.cell? ⟨w.heap.size, 0, none⟩ = some (.string d) ∧ w1.cell? ⟨w.heap.size, 1, none⟩ = some (.string r) ∧ w1.cell? ⟨w.heap.size, 2, none⟩ = some (.int .i64 v) ∧
    w1.cell? ⟨w.heap.size, 3, none⟩ = some (.int .i64 p) ∧ w1.cell? ⟨w.heap.size, 4, none⟩ = some (.int .i64 t) ∧ w1.cell? ⟨w.heap.size, 5, none⟩ = some (.string b) ∧ Six w d r v p t b w1 :=
  ⟨h.blk.cell 0, h.blk.cell 1, h.blk.cell 2, h.blk.cell 3, h.blk.cell 4, h.blk.cell 5, h⟩
theorem six_next {w w1 w' : World} {d r : ByteArray} {v p t : Int} {b : ByteArray} (h : w1.cell? ⟨w.heap.size, 0, none⟩ = some (.string d) ∧ w1.cell? ⟨w.heap.size, 1, none⟩ = some (.string r) ∧ w1.cell? ⟨w.heap.size, 2, none⟩ = some (.int .i64 v) ∧
    w1.cell? ⟨w.heap.size, 3, none⟩ = some (.int .i64 p) ∧ w1.cell? ⟨w.heap.size, 4, none⟩ = some (.int .i64 t) ∧ w1.cell? ⟨w.heap.size, 5, none⟩ = some (.string b) ∧ Six w d r v p t b w1) (hq : Below w1.heap.size w1 w') :
    w'.cell? ⟨w.heap.size, 0, none⟩ = some (.string d) ∧ w'.cell? ⟨w.heap.size, 1, none⟩ = some (.string r) ∧ w'.cell? ⟨w.heap.size, 2, none⟩ = some (.int .i64 v) ∧
    w'.cell? ⟨w.heap.size, 3, none⟩ = some (.int .i64 p) ∧ w'.cell? ⟨w.heap.size, 4, none⟩ = some (.int .i64 t) ∧ w'.cell? ⟨w.heap.size, 5, none⟩ = some (.string b) ∧ Six w d r v p t b w' := (h.2.2.2.2.2.2.next hq).cells
def buildE (f : Fr) : Int := if frameB f = true ∧ f.d.size + f.r.size + (tagS f.v f.p).size + 2 + f.b.size ≤ 1518 then 0 else 61
def buildS (f : Fr) : ByteArray := if frameB f = true ∧ f.d.size + f.r.size + (tagS f.v f.p).size + 2 + f.b.size ≤ 1518 then f.d ++ f.r ++ tagS f.v f.p ++ two f.t ++ f.b else ⟨#[]⟩
theorem build_bad (f : Fr) (w : World) (h : frameB f = false) :
    Calls Try.prog 31 #[.agg #[.string f.d, .string f.r, .int .i64 f.v, .int .i64 f.p, .int .i64 f.t, .string f.b]] w fun e w' => e = .returned (.tuple #[.string ⟨#[]⟩, .int .i64 61]) ∧ Below w.heap.size w w' := by
  have I := isFrame_any f
  rw [h] at I
  obtain ⟨d, r, v, p, t, b⟩ := f
  have HI := Lib.hid I
  clear I h
  go_enter Try.func31, Try.ntmps31
  go_wp2_with fail
  refine (HI.out _).mono ?_
  rintro e w1 ⟨rfl, hb⟩
  have hS := (Six.new w d r v p t b).next hb
  clear hb
  go_wp2_with fail
  go_ret2
  exact ⟨rfl, hS.below⟩
set_option maxHeartbeats 1600000 in
theorem build_good (f : Fr) (w : World) (h : frameB f = true) (hb : f.b.size ≤ 140737488351232) (k : Bool) (hk : decide (1518 < f.d.size + f.r.size + (tagS f.v f.p).size + 2 + f.b.size) = k) :
    Calls Try.prog 31 #[.agg #[.string f.d, .string f.r, .int .i64 f.v, .int .i64 f.p, .int .i64 f.t, .string f.b]] w fun e w' => e = .returned (.tuple #[.string (if k then ⟨#[]⟩ else f.d ++ f.r ++ tagS f.v f.p ++ two f.t ++ f.b), .int .i64 (if k then 61 else 0)]) ∧ Below w.heap.size w w' := by
  have I := isFrame_any f
  rw [h] at I
  obtain ⟨h1, h2, h3, h4⟩ := frameB_iff.1 h
  obtain ⟨d, r, v, p, t, b⟩ := f
  simp only at *
  have h5 := kindB_iff.1 h4
  have T := fun W => tagBytes_any d r v p t b W h3
  have Y := fun W => word_two t W (by omega) (by omega)
  have s1 := Nat.le_of_eq h1
  have s2 := Nat.le_of_eq h2
  have s3 : (tagS v p).size ≤ 4 := by rw [tagS_size]; split <;> omega
  have s4 := two_size t
  have HI := Lib.hid I
  have HT := Lib.hid T
  have HY := Lib.hid Y
  clear I T Y h1 h2 h3 h4 h5 h
  generalize tagS v p = X at *
  generalize two t = Z at *
  have s5 := Nat.le_of_eq s4
  have hk' : decide (1518 < d.size + r.size + X.size + Z.size + b.size) = k := by rw [s4]; exact hk
  have HK := Lib.hid hk'
  clear hk hk' s4
  have q1 : ¬ 9223372036854775807 < d.size + r.size := by omega
  have q2 : ¬ 9223372036854775807 < d.size + r.size + X.size := by omega
  have q3 : ¬ 9223372036854775807 < d.size + r.size + X.size + Z.size := by omega
  go_enter Try.func31, Try.ntmps31
  go_wp2_with fail
  refine (HI.out _).mono ?_
  rintro e w1 ⟨rfl, hb1⟩
  have hS := (Six.new w d r v p t b).next hb1
  have c0 := hS.cells
  have c1 := hS.drew.cells
  obtain ⟨i0, i1, i2, i3, i4, i5, _⟩ := hS.cells
  clear hb1
  go_wp2_with fail
  go_region_held3 (fun w' => w'.cell? ⟨w.heap.size, 0, none⟩ = some (.string d) ∧ w'.cell? ⟨w.heap.size, 1, none⟩ = some (.string r) ∧ w'.cell? ⟨w.heap.size, 2, none⟩ = some (.int .i64 v) ∧
    w'.cell? ⟨w.heap.size, 3, none⟩ = some (.int .i64 p) ∧ w'.cell? ⟨w.heap.size, 4, none⟩ = some (.int .i64 t) ∧ w'.cell? ⟨w.heap.size, 5, none⟩ = some (.string b) ∧ Six w d r v p t b w')
    (first | exact c0 | exact c1 | assumption | exact six_next (by assumption) hq)
    (first
      | (go_at_call 46; ((with_reducible refine (HT.out _).mono ?_); rintro e w' ⟨rfl, hq⟩))
      | (go_at_call 47; ((with_reducible refine (HY.out _).mono ?_); rintro e w' ⟨rfl, hq⟩)))
  rename_i hH
  obtain ⟨j0, j1, j2, j3, j4, j5, hE⟩ := hH
  have hsz : (d ++ r ++ X ++ Z).size = d.size + r.size + X.size + Z.size := by simp [ByteArray.size_append]
  have hsz2 : (d ++ r ++ X ++ Z).size ≤ 18 := by omega
  have hlen : decide (1518 < (d ++ r ++ X ++ Z).size + b.size) = k := by rw [hsz]; exact HK.out
  clear hsz q1 q2 q3 i0 i1 i2 i3 i4 i5 c0 c1 hS j0 j1 j2 j3 j4
  generalize hHD : d ++ r ++ X ++ Z = HD at *
  have HE := Lib.hid hHD
  clear hHD
  cases k
  · have hn : HD.size + b.size ≤ 1518 := by have := of_decide_eq_false hlen; omega
    clear hlen
    go_wp2_with fail
    go_ret2
    have hd := HE.out
    subst hd
    exact ⟨rfl, hE.below⟩
  · have hn : 1518 < HD.size + b.size := of_decide_eq_true hlen
    clear hlen
    go_wp2_with fail
    go_ret2
    exact ⟨rfl, hE.below⟩
theorem build_any (f : Fr) (w : World) (hb : f.b.size ≤ 140737488351232) :
    Calls Try.prog 31 #[.agg #[.string f.d, .string f.r, .int .i64 f.v, .int .i64 f.p, .int .i64 f.t, .string f.b]] w fun e w' => e = .returned (.tuple #[.string (buildS f), .int .i64 (buildE f)]) ∧ Below w.heap.size w w' := by
  cases h : frameB f
  · have e1 : buildS f = ⟨#[]⟩ := by rw [buildS, if_neg (by rw [h]; simp)]
    have e2 : buildE f = 61 := by rw [buildE, if_neg (by rw [h]; simp)]
    rw [e1, e2]
    exact build_bad f w h
  · refine (build_good f w h hb _ rfl).mono fun e w' ⟨he, hw⟩ => ⟨?_, hw⟩
    rw [he]
    by_cases hl : f.d.size + f.r.size + (tagS f.v f.p).size + 2 + f.b.size ≤ 1518
    · have e1 : buildS f = f.d ++ f.r ++ tagS f.v f.p ++ two f.t ++ f.b := by rw [buildS, if_pos ⟨h, hl⟩]
      have e2 : buildE f = 0 := by rw [buildE, if_pos ⟨h, hl⟩]
      rw [e1, e2, decide_eq_false (by omega)]; rfl
    · have e1 : buildS f = ⟨#[]⟩ := by rw [buildS, if_neg (fun x => hl x.2)]
      have e2 : buildE f = 61 := by rw [buildE, if_neg (fun x => hl x.2)]
      rw [e1, e2, decide_eq_true (by omega)]; rfl
end Go.Proofs.Ytpjndjmneficbaa
