/-
  Rows of numbers that a call itself made; what rss.Even, the document's Even and Same answer.
-/
import Derived.Test.YtpjndjmneficbaaRck
import Derived.Deep.AppendLies
import Derived.OwnWalk
namespace Go.Proofs.Ytpjndjmneficbaa
open Go.RowKit

theorem own_same {w w' : World} {base : Nat} {e : TypeId} {size n : Nat} {v : Value} {xs : List Value} (h : w.ownsRow base e size v n xs) (hb : ∀ k, v.ownBlock = some k → w'.heap[k]? = w.heap[k]?) : w'.ownsRow base e size v n xs := by
  refine ⟨h.1, ?_⟩
  rcases h.2 with hn | ⟨g, cap, cur, rfl, h1, hgg, rest⟩
  · exact .inl hn
  · exact .inr ⟨g, cap, cur, rfl, h1, (hb g rfl).trans hgg, rest⟩
theorem Try.info3 : (Try.prog.info? 3).map (fun i => (i.zero, i.size, i.bytes)) = some (some (.int .i64 0), 1, 8) := by kernel_rfl
def intV (x : Int) : Value := .int .i64 x
theorem intV_one (xs : List Int) : ∀ u ∈ xs.map intV, u.oneCell' = true := by
  intro u hu
  obtain ⟨c, _, rfl⟩ := List.mem_map.1 hu
  rfl
/-- The row that begins block g, of n numbers, holds xs; below B all is as in w0. -/
structure GI (B g n cap : Nat) (xs : List Int) (w0 w : World) : Prop where
  len : xs.length = n
  own : w.ownsRow B 3 1 (.slice (some ⟨g, 0, none⟩) n cap) n (xs.map intV)
  below : Below B w0 w
  size : B ≤ w.heap.size
section
variable {B g n cap : Nat} {xs : List Int} {w0 w : World}
theorem GI.cell (h : GI B g n cap xs w0 w) (j : Nat) (hj : j < xs.length) : w.cell? ⟨g, j, none⟩ = some (.int .i64 xs[j]) := by
  rw [World.ownsRow.cellAt h.own j (by have := h.len; omega)]
  simp [hj, intV]
theorem GI.free (h : GI B g n cap xs w0 w) (j : Nat) : w.frozen? ⟨g, j, none⟩ = false := World.ownsRow.frozenAt h.own j
theorem GI.base (h : GI B g n cap xs w0 w) : B ≤ g ∧ g < w.heap.size := h.own.lt g rfl
theorem GI.set (h : GI B g n cap xs w0 w) (j : Nat) (c : Int) : GI B g n cap (xs.set j c) w0 (w.setCell ⟨g, j, none⟩ (.int .i64 c)) := by
  refine ⟨by rw [List.length_set]; exact h.len, ?_, h.below.setCell h.base.1 _, by have := h.size; simpa [World.setCell] using this⟩
  rw [List.map_set]
  exact (World.ownsRow.stored h.own j (.int .i64 c)).1
theorem GI.kept {w2 : World} (h : GI B g n cap xs w0 w) (hb : Below w.heap.size w w2) : GI B g n cap xs w0 w2 :=
  ⟨h.len, own_same h.own (fun k hk => hb.block k (h.own.lt k hk).2), h.below.trans (hb.mono h.size), by have := hb.size; have := h.size; omega⟩
theorem GI.tab (h : GI B g n cap xs w0 w) : Tab (some ⟨g, 0, none⟩) xs w := by
  intro _
  refine ⟨g, 0, rfl, h.base.2, fun i hi => ?_⟩
  rw [Nat.zero_add]
  exact h.cell i hi
theorem GI.made (h : w.ownsRow w0.heap.size 3 1 (.slice (some ⟨w0.heap.size, 0, none⟩) n n) n (madeCells (Value.cells (.int .i64 0)) (n * 1)).toList) (hg : w0.grownBy w none) : GI w0.heap.size w0.heap.size n n (List.replicate n 0) w0 w := by
  have e : (madeCells (Value.cells (.int .i64 0)) (n * 1)).toList = List.replicate n (.int .i64 0) := by
    rw [Nat.mul_one]; exact toList_madeCells_one _ n
  rw [e] at h
  refine ⟨by simp, by rw [List.map_replicate]; exact h, (Below.refl _ _).grown hg (Nat.le_refl _) (by simp), hg.size⟩
theorem GI.empty (w : World) : GI w.heap.size w.heap.size 0 0 [] w (w.alloc (.cells #[] 3)) :=
  ⟨rfl, ⟨rfl, .inr ⟨w.heap.size, 0, #[], rfl, Nat.le_refl _, heap_alloc_new w _, Nat.le_refl _, Nat.zero_le _, rfl, rfl⟩⟩, (Below.refl _ _).alloc (Nat.le_refl _) _, by simp⟩
theorem GI.ready (h : GI B g n cap xs w0 w) (ys : List Int) :
    (w.alloc (.cells (ys.map intV).toArray 3)).ownsRow B 3 1 (.slice (some ⟨g, 0, none⟩) n cap) n (xs.map intV) ∧
    (∀ j u, (ys.map intV)[j]? = some u → (w.alloc (.cells (ys.map intV).toArray 3)).cell? ((⟨w.heap.size, 0, none⟩ : Addr).add j) = some u) ∧ Below B w0 (w.alloc (.cells (ys.map intV).toArray 3)) ∧ B ≤ (w.alloc (.cells (ys.map intV).toArray 3)).heap.size := by
  have hc : ∀ j u, (ys.map intV)[j]? = some u → (w.alloc (.cells (ys.map intV).toArray 3)).cell? ((⟨w.heap.size, 0, none⟩ : Addr).add j) = some u := by
    have := World.news_of_block (B := w.heap.size) (cs := (ys.map intV).toArray) (t := 3) (fr := (0, 0)) (heap_alloc_new w _)
    simpa using this
  exact ⟨h.own.alloc _, hc, h.below.alloc h.size _, by have := h.size; simp; omega⟩
theorem GI.more {m g' cap' : Nat} {ys : List Int} {w1 w2 : World} (hx : xs.length = n) (hm : ys.length = m) (hb : Below B w0 w1) (hB : B ≤ w1.heap.size) (hg : B ≤ g)
    (hown : w2.ownsRow B 3 1 (.slice (some ⟨g', 0, none⟩) (n + m) cap') (n + m) (xs.map intV ++ ys.map intV)) (hgrow : w1.grownBy w2 (Value.slice (some ⟨g, 0, none⟩) n cap).ownBlock) :
    GI B g' (n + m) cap' (xs ++ ys) w0 w2 := by
  refine ⟨by simp [hx, hm], by rw [List.map_append]; exact hown, hb.grown hgrow hB ?_, Nat.le_trans hB hgrow.size⟩
  intro k hk
  have : g = k := by simpa [Value.ownBlock] using hk
  omega
end
/-- numbers dealt in turn -/
def evenL (n q : Nat) : List Int := (List.range n).map fun i => ((i % q : Nat) : Int)
theorem evenL_length (n q : Nat) : (evenL n q).length = n := by simp [evenL]
theorem evenL_get (n q i : Nat) (h : i < (evenL n q).length) : (evenL n q)[i] = ((i % q : Nat) : Int) := by simp [evenL]
theorem evenL_next (n q : Nat) : evenL (n + 1) q = evenL n q ++ [((n % q : Nat) : Int)] := by simp [evenL, List.range_succ]
/-- what is filled so far -/
def part (n q k : Nat) : List Int := (evenL n q).take k ++ List.replicate (n - k) 0
theorem part_zero (n q : Nat) : part n q 0 = List.replicate n 0 := by simp [part]
theorem part_all (n q : Nat) : part n q n = evenL n q := by
  rw [part, Nat.sub_self, List.replicate_zero, List.append_nil, List.take_of_length_le (by rw [evenL_length]; omega)]
theorem part_length (n q k : Nat) (h : k ≤ n) : (part n q k).length = n := by
  simp [part, evenL_length]; omega
theorem part_next (n q k : Nat) (h : k < n) : (part n q k).set k ((k % q : Nat) : Int) = part n q (k + 1) := by
  apply List.ext_getElem?
  intro j
  rw [List.getElem?_set]
  unfold part
  have l1 : ((evenL n q).take k).length = k := by rw [List.length_take, evenL_length]; omega
  have l2 : ((evenL n q).take (k + 1)).length = k + 1 := by rw [List.length_take, evenL_length]; omega
  by_cases e : k = j
  · subst e
    rw [if_pos rfl, if_pos (by rw [List.length_append, l1, List.length_replicate]; omega), List.getElem?_append_left (by omega), List.getElem?_take, if_pos (by omega), List.getElem?_eq_getElem (by rw [evenL_length]; omega), evenL_get]
  · rw [if_neg e]
    by_cases hj : j < k
    · rw [List.getElem?_append_left (by omega), List.getElem?_append_left (by omega), List.getElem?_take, List.getElem?_take, if_pos hj, if_pos (by omega)]
    · rw [List.getElem?_append_right (by omega), List.getElem?_append_right (by omega), l1, l2, List.getElem?_replicate, List.getElem?_replicate]
      by_cases hn : j < n
      · rw [if_pos (by omega), if_pos (by omega)]
      · rw [if_neg (by omega), if_neg (by omega)]
theorem even_bad (n q : Int) (w : World) (b0 : Bool) (h0 : fromB n 128 = b0) (h : b0 = true → fromB q 8 = false) : Calls Try.prog 11 #[.int .i64 n, .int .i64 q] w fun e w' => e = .returned (.slice none 0 0) ∧ w = w' := by
  have A := fun W => from_any n 128 W
  have A2 := fun W => from_any q 8 W
  rw [h0] at A
  have HA := Lib.hid A
  cases b0
  · clear A A2
    go_enter Try.func11, Try.ntmps11
    go_wp2_with (go_at_call 21; ((with_reducible refine (HA.out _).mono ?_); rintro e w' ⟨rfl, rfl⟩))
    go_ret
    exact ⟨rfl, rfl⟩
  · rw [h rfl] at A2
    have HA2 := Lib.hid A2
    clear A A2 h
    go_enter Try.func11, Try.ntmps11
    go_wp2_with (first | (go_at_call 21; ((with_reducible refine (HA.out _).mono ?_); rintro e w' ⟨rfl, rfl⟩)) | (go_at_call 21; ((with_reducible refine (HA2.out _).mono ?_); rintro e w' ⟨rfl, rfl⟩)))
    go_ret
    exact ⟨rfl, rfl⟩
set_option maxHeartbeats 1000000 in
theorem even_good (n q : Nat) (w : World) (h1 : 1 ≤ n) (h2 : n ≤ 128) (q1 : 1 ≤ q) (q2 : q ≤ 8) : Calls Try.prog 11 #[.int .i64 n, .int .i64 q] w fun e w' => e = .returned (.slice (some ⟨w.heap.size, 0, none⟩) n n) ∧ GI w.heap.size w.heap.size n n (evenL n q) w w' := by
  have A := fun W => from_any n 128 W
  have A2 := fun W => from_any q 8 W
  rw [show fromB n 128 = true by simp [fromB]; omega] at A
  rw [show fromB q 8 = true by simp [fromB]; omega] at A2
  have HA := Lib.hid A
  have HA2 := Lib.hid A2
  clear A A2
  obtain ⟨i0, hi, hz0, hz1, hz2⟩ := info_parts Try.info3
  have HI := Lib.hid hi
  have HZ0 := Lib.hid hz0
  have HZ1 := Lib.hid hz1
  have HZ2 := Lib.hid hz2
  clear hi hz0 hz1 hz2
  go_enter Try.func11, Try.ntmps11
  go_wp2_with (first
    | (go_at_call 21; ((with_reducible refine (HA.out _).mono ?_); rintro e w' ⟨rfl, rfl⟩))
    | (go_at_call 21; ((with_reducible refine (HA2.out _).mono ?_); rintro e w' ⟨rfl, rfl⟩))
    | (at_make; refine wpList_make_full _ rfl (.tmp 15) (.tmp 15) 22 rfl w.heap.size 3 i0 (.int .i64 0) 1 Try.underlying22 HI.out HZ0.out HZ1.out .i64 .i64 n n n rfl rfl rfl rfl (by rw [HZ2.out]; omega) (by unfold maxLen; omega) (Nat.le_refl _) ?_; intro w1 hrow hgrow))
  have hst := GI.made hrow hgrow
  rw [← part_zero n q] at hst
  clear hrow hgrow
  go_loopw [19] (fun i wr => ∃ k : Nat, k ≤ n ∧ i = .int .i64 k ∧ GI w.heap.size w.heap.size n n (part n q k) w wr) (fun i _ => n - (intOf i).toNat)
  case atStart => exact ⟨0, Nat.zero_le _, rfl, hst⟩
  case round =>
    obtain ⟨k, hk, rfl, hfill⟩ := hrel
    clear hst
    by_cases hlt : k < n
    · have hcell := hfill.cell k (by rw [part_length n q k hk]; exact hlt)
      have hfree := hfill.free k
      have em : Int.tmod (k : Int) (q : Int) = ((k % q : Nat) : Int) := by rw [Int.tmod_eq_emod_of_nonneg (by omega)]; omega
      generalize (part n q k)[k]'(by rw [part_length n q k hk]; exact hlt) = x at hcell
      have hm : k % q < 8 := Nat.lt_of_lt_of_le (Nat.mod_lt _ (by omega)) q2
      have hs0 := hfill.set k ((k % q : Nat) : Int)
      rw [part_next n q k hlt] at hs0
      have hs := Lib.hid hs0
      clear hs0 hfill
      generalize k % q = m at *
      go_wp2
      go_roundw
      case rel => exact ⟨k + 1, by omega, by go_num, hs.out⟩
      case measure => simp [intOf]; omega
    · obtain rfl : k = n := by omega
      rw [part_all] at hfill
      have HF := Lib.hid hfill
      clear hfill
      go_wp2
      go_ret
      exact ⟨rfl, HF.out⟩
set_option maxHeartbeats 1000000 in
theorem same_yes (L : List Int) (A A' : Option Addr) (c c' : Nat) (w : World) (hl : L.length ≤ 128) (h1 : Tab A L w) (h2 : Tab A' L w) :
    Calls Try.prog 12 #[.slice A L.length c, .slice A' L.length c'] w fun e w' => e = .returned (.bool true) ∧ Below w.heap.size w w' := by
  have H1 := Lib.hid h1
  have H2 := Lib.hid h2
  clear h1 h2
  go_enter Try.func12, Try.ntmps12
  go_wp2
  go_loopw [5] (fun i wr => ∃ k : Nat, k ≤ L.length ∧ i = .int .i64 k ∧ Below w.heap.size w wr) (fun i _ => L.length - (intOf i).toNat)
  case atStart => exact ⟨0, Nat.zero_le _, rfl, Below.refl _ _⟩
  case round =>
    obtain ⟨k, hk, rfl, hb⟩ := hrel
    by_cases hlt : k < L.length
    · obtain ⟨b, off, x, rfl, hx, hc⟩ := (H1.out.below hb).at k hlt
      obtain ⟨b', off', x', rfl, hx', hc'⟩ := (H2.out.below hb).at k hlt
      obtain rfl : x = x' := hx.symm.trans hx'
      clear hx hx'
      go_wp2_with fail
      have e1 : (0 : Int) ≤ (k : Int) := by omega
      have e2 : (k : Int) < (L.length : Int) := by omega
      go_quiet (fail)
      go_wp2
      go_roundw
      case rel => exact ⟨k + 1, by omega, by go_num, below_drewN hb _⟩
      case measure => simp [intOf]; omega
    · go_wp2
      go_ret
      exact ⟨rfl, hb⟩
theorem reven_bad (n q : Int) (w : World) (b0 b1 b2 b3 : Bool) (h0 : decide (0 < n) = b0) (h1 : decide (n ≤ 128) = b1) (h2 : decide (1 ≤ q) = b2) (h3 : decide (q ≤ 8) = b3) (h : (b0 && b1 && b2 && b3) = false) :
    Calls Try.prog 13 #[.int .i64 n, .int .i64 q] w fun e w' => e = .returned (.slice (some ⟨w.heap.size, 0, none⟩) 0 0) ∧ GI w.heap.size w.heap.size 0 0 [] w w' := by
  have HE := Lib.hid (GI.empty w)
  cases b0
  · have g0 : ¬ 0 < n := of_decide_eq_false h0
    clear h0 h1 h2 h3 h
    go_enter Try.func13, Try.ntmps13
    go_wp2_with fail
    go_loopw [5, 6] (fun t i wr => t = .slice (some ⟨w.heap.size, 0, none⟩) 0 0 ∧ i = .int .i64 0 ∧ wr = w.alloc (.cells #[] 3)) (fun _ _ _ => 0)
    case atStart => exact ⟨rfl, rfl, rfl⟩
    case round =>
      obtain ⟨rfl, rfl, rfl⟩ := hrel
      go_wp2
      go_ret
      exact ⟨rfl, HE.out⟩
  cases b1
  · have g0 : 0 < n := of_decide_eq_true h0
    have g1 : ¬ n ≤ 128 := of_decide_eq_false h1
    clear h0 h1 h2 h3 h
    go_enter Try.func13, Try.ntmps13
    go_wp2_with fail
    go_loopw [5, 6] (fun t i wr => t = .slice (some ⟨w.heap.size, 0, none⟩) 0 0 ∧ i = .int .i64 0 ∧ wr = w.alloc (.cells #[] 3)) (fun _ _ _ => 0)
    case atStart => exact ⟨rfl, rfl, rfl⟩
    case round =>
      obtain ⟨rfl, rfl, rfl⟩ := hrel
      go_wp2
      go_ret
      exact ⟨rfl, HE.out⟩
  cases b2
  · have g0 : 0 < n := of_decide_eq_true h0
    have g1 : n ≤ 128 := of_decide_eq_true h1
    have g2 : ¬ 1 ≤ q := of_decide_eq_false h2
    clear h0 h1 h2 h3 h
    go_enter Try.func13, Try.ntmps13
    go_wp2_with fail
    go_loopw [5, 6] (fun t i wr => t = .slice (some ⟨w.heap.size, 0, none⟩) 0 0 ∧ i = .int .i64 0 ∧ wr = w.alloc (.cells #[] 3)) (fun _ _ _ => 0)
    case atStart => exact ⟨rfl, rfl, rfl⟩
    case round =>
      obtain ⟨rfl, rfl, rfl⟩ := hrel
      go_wp2
      go_ret
      exact ⟨rfl, HE.out⟩
  cases b3
  · have g0 : 0 < n := of_decide_eq_true h0
    have g1 : n ≤ 128 := of_decide_eq_true h1
    have g2 : 1 ≤ q := of_decide_eq_true h2
    have g3 : ¬ q ≤ 8 := of_decide_eq_false h3
    clear h0 h1 h2 h3 h
    go_enter Try.func13, Try.ntmps13
    go_wp2_with fail
    go_loopw [5, 6] (fun t i wr => t = .slice (some ⟨w.heap.size, 0, none⟩) 0 0 ∧ i = .int .i64 0 ∧ wr = w.alloc (.cells #[] 3)) (fun _ _ _ => 0)
    case atStart => exact ⟨rfl, rfl, rfl⟩
    case round =>
      obtain ⟨rfl, rfl, rfl⟩ := hrel
      go_wp2
      go_ret
      exact ⟨rfl, HE.out⟩
  · cases h
set_option maxHeartbeats 1000000 in
theorem reven_good (n q : Nat) (w : World) (h1 : 1 ≤ n) (h2 : n ≤ 128) (q1 : 1 ≤ q) (q2 : q ≤ 8) : Calls Try.prog 13 #[.int .i64 n, .int .i64 q] w fun e w' => ∃ g cap, e = .returned (.slice (some ⟨g, 0, none⟩) n cap) ∧ GI w.heap.size g n cap (evenL n q) w w' := by
  obtain ⟨i0, hi, hz0, hz1, hz2⟩ := info_parts Try.info3
  have HI := Lib.hid hi
  have HZ0 := Lib.hid hz0
  have HZ1 := Lib.hid hz1
  have HZ2 := Lib.hid hz2
  clear hi hz0 hz1 hz2
  have hst := GI.empty w
  go_enter Try.func13, Try.ntmps13
  go_wp2_with fail
  go_loopw [5, 6] (fun t i wr => ∃ k g cap : Nat, k ≤ n ∧ i = .int .i64 k ∧ t = .slice (some ⟨g, 0, none⟩) k cap ∧ GI w.heap.size g k cap (evenL k q) w wr) (fun _ i _ => n - (intOf i).toNat)
  case atStart => exact ⟨0, w.heap.size, 0, by omega, rfl, rfl, hst⟩
  case round =>
    obtain ⟨k, g, cap, hk, rfl, rfl, hfill⟩ := hrel
    clear hst
    by_cases hlt : k < n
    · have em : Int.tmod (k : Int) (q : Int) = ((k % q : Nat) : Int) := by rw [Int.tmod_eq_emod_of_nonneg (by omega)]; omega
      have g1 : (k : Int) < (n : Int) := by omega
      have g2 : (n : Int) ≤ 128 := by omega
      have g3 : (1 : Int) ≤ (q : Int) := by omega
      have g4 : (q : Int) ≤ 8 := by omega
      have hm : k % q < 8 := Nat.lt_of_lt_of_le (Nat.mod_lt _ (by omega)) q2
      have HN := Lib.hid (evenL_next k q)
      have HR := Lib.hid (hfill.ready [((k % q : Nat) : Int)])
      have hb := hfill.base.1
      have hl2 := Lib.hid hfill.len
      clear hfill
      generalize k % q = m at *
      go_wp2_with (at_builtin; refine wpList_append_lies (wr.alloc (.cells #[.int .i64 m] 3)) rfl (.tmp 25) (.tmp 29) 22 rfl w.heap.size 3 i0 _ 1 8 Try.underlying22 HI.out HZ0.out HZ1.out HZ2.out rfl (by decide) (.slice (some ⟨g, 0, none⟩) k cap) k ((evenL k q).map intV) rfl HR.out.1 ⟨wr.heap.size, 0, none⟩ 1 1 ([(m : Int)].map intV) rfl rfl HR.out.2.1 (intV_one _) (by decide) (by unfold maxLen; omega) (by omega) HR.out.2.2.2 _ rfl ?_; intro gl cap' w2 hown hgrow hat hlt'; have HM := Lib.hid (GI.more (m := 1) hl2.out rfl HR.out.2.2.1 HR.out.2.2.2 hb hown hgrow); clear hown hgrow hat hlt')
      go_roundw
      case rel => exact ⟨k + 1, gl, cap', by omega, by go_num, rfl, HN.out ▸ HM.out⟩
      case measure => simp [intOf]; omega
    · obtain rfl : k = n := by omega
      have HF := Lib.hid hfill
      clear hfill
      go_wp2
      go_ret
      exact ⟨_, _, rfl, HF.out⟩
end Go.Proofs.Ytpjndjmneficbaa
