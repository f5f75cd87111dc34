/-
  The reader's macs and queues: lists that are filled piece by piece; no condition.
-/
import Derived.Test.YtongkfimgohhbaaTc
import Derived.Test.YtongkfimgohhbaaSl
import Derived.OwnWalk
namespace Go.Proofs.Ytongkfimgohhbaa
open Go.RowKit

/-- what is left behind k pieces of m bytes; the pieces; was more asked for than there was? -/
def stS (s : ByteArray) (m : Nat) : Nat → ByteArray
  | 0 => s
  | k + 1 => tkR (stS s m k) m
def stB (s : ByteArray) (b : Bool) (m : Nat) : Nat → Bool
  | 0 => b
  | k + 1 => tkB (stS s m k) m (stB s b m k)
def stL (s : ByteArray) (m : Nat) : Nat → List ByteArray
  | 0 => []
  | k + 1 => stL s m k ++ [tkS (stS s m k) m]
def stN (s : ByteArray) (m : Nat) : Nat → List Int
  | 0 => []
  | k + 1 => stN s m k ++ [((nm (stS s m k) m : Nat) : Int)]
theorem stL_length (s : ByteArray) (m k : Nat) : (stL s m k).length = k := by
  induction k with
  | zero => rfl
  | succ k ih => simp [stL, ih]
theorem stN_length (s : ByteArray) (m k : Nat) : (stN s m k).length = k := by
  induction k with
  | zero => rfl
  | succ k ih => simp [stN, ih]
theorem stS_size (s : ByteArray) (m k : Nat) : (stS s m k).size ≤ s.size := by
  induction k with
  | zero => exact Nat.le_refl _
  | succ k ih => exact Nat.le_trans (tkR_size _ _) ih
/-- a row of n cells of which k are filled -/
def fillS (s : ByteArray) (m n k : Nat) : List Value := (stL s m k).map strV ++ List.replicate (n - k) (strV ⟨#[]⟩)
def fillN (s : ByteArray) (m n k : Nat) : List Value := (stN s m k).map intV ++ List.replicate (n - k) (intV 0)
theorem fillS_length (s : ByteArray) (m n k : Nat) (h : k ≤ n) : (fillS s m n k).length = n := by
  simp [fillS, stL_length]; omega
theorem fillN_length (s : ByteArray) (m n k : Nat) (h : k ≤ n) : (fillN s m n k).length = n := by
  simp [fillN, stN_length]; omega
theorem fillS_next (s : ByteArray) (m n k : Nat) (h : k < n) : (fillS s m n k).set k (strV (tkS (stS s m k) m)) = fillS s m n (k + 1) := by
  unfold fillS
  rw [List.set_append_right _ _ (by rw [List.length_map, stL_length]; exact Nat.le_refl _), List.length_map, stL_length, Nat.sub_self, show n - k = (n - (k + 1)) + 1 by omega, List.replicate_succ, List.set_cons_zero]
  simp [stL]
theorem fillN_next (s : ByteArray) (m n k : Nat) (h : k < n) : (fillN s m n k).set k (intV ((nm (stS s m k) m : Nat) : Int)) = fillN s m n (k + 1) := by
  unfold fillN
  rw [List.set_append_right _ _ (by rw [List.length_map, stN_length]; exact Nat.le_refl _), List.length_map, stN_length, Nat.sub_self, show n - k = (n - (k + 1)) + 1 by omega, List.replicate_succ, List.set_cons_zero]
  simp [stN]
/-- under way: the row that is filled, what is left, and all else as it was -/
structure Fil (h g : Nat) (e : TypeId) (n : Nat) (xs : List Value) (s : ByteArray) (b : Bool) (w0 w : World) : Prop where
  own : w.ownsRow w0.heap.size e 1 (.slice (some ⟨g, 0, none⟩) n n) n xs
  rd : Blk w h 64 (rdC s b)
  tch : Tch [h] w0 w
  ne : h < w0.heap.size
section
variable {h g : Nat} {e : TypeId} {n : Nat} {xs : List Value} {s s' : ByteArray} {b b' : Bool} {w0 w w' : World}
theorem Fil.base (f : Fil h g e n xs s b w0 w) : w0.heap.size ≤ g ∧ g < w.heap.size := f.own.lt g rfl
theorem Fil.next (f : Fil h g e n xs s b w0 w) (hk : Blk w' h 64 (rdC s' b')) (ht : Tch [h] w w') : Fil h g e n xs s' b' w0 w' :=
  ⟨own_same f.own (fun k hk => ht.block k (f.own.lt k hk).2 (by have := (f.own.lt k hk).1; have := f.ne; simp; omega)), hk, f.tch.trans ht, f.ne⟩
theorem Fil.set (f : Fil h g e n xs s b w0 w) (j : Nat) (u : Value) : Fil h g e n (xs.set j u) s b w0 (w.setCell ⟨g, j, none⟩ u) :=
  ⟨(World.ownsRow.stored f.own j u).1, f.rd.other (by have := f.base; have := f.ne; omega) j u, f.tch.setCell (.inr f.base.1) j u, f.ne⟩
theorem Fil.cell (f : Fil h g e n xs s b w0 w) (j : Nat) (hj : j < n) : ∃ u, w.cell? ⟨g, j, none⟩ = some u := by
  refine ⟨xs[j]'(by rw [f.own.1]; omega), ?_⟩
  rw [World.ownsRow.cellAt f.own j (by omega)]
  simp [f.own.1, hj]
theorem Fil.free (f : Fil h g e n xs s b w0 w) (j : Nat) : w.frozen? ⟨g, j, none⟩ = false := World.ownsRow.frozenAt f.own j
end
theorem Try.info9 : (Try.prog.info? 9).map (fun i => (i.zero, i.size, i.bytes)) = some (some (.string ⟨#[]⟩), 1, 16) := by kernel_rfl
theorem Try.info3' : (Try.prog.info? 3).map (fun i => (i.zero, i.size, i.bytes)) = some (some (.int .i64 0), 1, 8) := by kernel_rfl
/-- what macs hands back where the number is at most sixteen -/
def MacP (h : Nat) (s : ByteArray) (b : Bool) (n : Nat) (w : World) (e : Ending) (w' : World) : Prop :=
  ∃ A c, e = .returned (.slice A n c) ∧ OwnS w.heap.size A c (stL s 6 n) w' ∧ Blk w' h 64 (rdC (stS s 6 n) (stB s b 6 n)) ∧ Tch [h] w w'
theorem cmacs_bad (h : Nat) (s : ByteArray) (b : Bool) (w : World) (hs : s.size ≤ maxLen) (hn : 16 < nm s 4) (hb : Blk w h 64 (rdC s b)) :
    Calls Try.prog 65 #[.pointer (some ⟨h, 0, none⟩)] w fun e w' =>
      e = .returned (.slice none 0 0) ∧ Blk w' h 64 (rdC (tkR s 4) true) ∧ Tch [h] w w' := by
  have A1 := number_any h s b 4 w hs (by omega) (by omega) hb
  obtain ⟨n, hN⟩ : ∃ n, nm s 4 = n := ⟨_, rfl⟩
  rw [hN] at A1 hn
  have H1 := Lib.hid A1
  clear A1 hb hN
  go_enter Try.func65, Try.ntmps65
  go_wp2_with fail
  refine (H1.out).mono ?_
  rintro e w1 ⟨rfl, hk, ht⟩
  have HP := Lib.hid (hk.put 1 (.bool true))
  have HT := Lib.hid (ht.setCell (g := h) (.inl (by simp)) 1 (.bool true))
  have c1 := hk.cell 1
  simp only [List.getElem?_toArray, List.getElem?_cons_zero, List.getElem?_cons_succ] at c1
  have f1 := hk.frozen 1
  clear hk ht H1
  go_wp2_with fail
  go_ret
  exact ⟨rfl, HP.out, HT.out⟩
set_option maxHeartbeats 1000000 in
set_option maxRecDepth 100000 in
theorem cmacs_good (h : Nat) (s : ByteArray) (b : Bool) (n : Nat) (w : World) (hs : s.size ≤ maxLen) (hN : nm s 4 = n) (hn : n ≤ 16) (hb : Blk w h 64 (rdC s b)) :
    Calls Try.prog 65 #[.pointer (some ⟨h, 0, none⟩)] w (MacP h (tkR s 4) (tkB s 4 b) n w) := by
  have A1 := number_any h s b 4 w hs (by omega) (by omega) hb
  rw [hN] at A1
  have hq : (tkR s 4).size ≤ maxLen := Nat.le_trans (tkR_size _ _) hs
  have H1 := Lib.hid A1
  have hlt := hb.lt
  clear A1 hb hN hs
  generalize tkR s 4 = s1 at *
  generalize tkB s 4 b = b1 at *
  have HQ := Lib.hid hq
  clear hq
  obtain ⟨i0, hi, hz0, hz1, hz2⟩ := info_parts Try.info9
  have HI := Lib.hid hi
  have HZ0 := Lib.hid hz0
  have HZ1 := Lib.hid hz1
  have HZ2 := Lib.hid hz2
  clear hi hz0 hz1 hz2
  go_enter Try.func65, Try.ntmps65
  go_wp2_with fail
  refine (H1.out).mono ?_
  rintro e w1 ⟨rfl, hk, ht⟩
  clear H1
  have hlt1 : h < w1.heap.size := hk.lt
  have HK := Lib.hid hk
  have HT := Lib.hid ht
  clear hk ht
  go_wp2_with (at_make; refine wpList_make_full _ rfl (.tmp 13) (.tmp 13) 22 rfl w1.heap.size 9 i0 (.string ⟨#[]⟩) 1 Try.underlying22 HI.out HZ0.out HZ1.out .i64 .i64 n n n rfl rfl rfl rfl (by rw [HZ2.out]; omega) (by unfold maxLen; omega) (Nat.le_refl _) ?_; intro w2 hrow hgrow)
  have hfil : Fil h w1.heap.size 9 n (fillS s1 6 n 0) (stS s1 6 0) (stB s1 b1 6 0) w1 w2 := by
    have e : (madeCells (Value.cells (.string ⟨#[]⟩)) (n * 1)).toList = fillS s1 6 n 0 := by
      rw [Nat.mul_one]
      show _ = List.replicate n (strV ⟨#[]⟩)
      exact toList_madeCells_one _ n
    rw [e] at hrow
    exact ⟨hrow, HK.out.same (hgrow.block h hlt1 (by simp)), Tch.of_below ((Below.refl _ _).grown hgrow (Nat.le_refl _) (by simp)) _, hlt1⟩
  clear hrow hgrow
  go_loopw [17] (fun i wr => ∃ k : Nat, k ≤ n ∧ i = .int .i64 k ∧ Fil h w1.heap.size 9 n (fillS s1 6 n k) (stS s1 6 k) (stB s1 b1 6 k) w1 wr) (fun i _ => n - (intOf i).toNat)
  case atStart => exact ⟨0, Nat.zero_le _, rfl, hfil⟩
  case round =>
    obtain ⟨k, hk, rfl, hf⟩ := hrel
    clear hfil
    by_cases hlt2 : k < n
    · have A := take_any h (stS s1 6 k) (stB s1 b1 6 k) 6 wr (Nat.le_trans (stS_size _ _ _) HQ.out) (by omega) hf.rd
      have hnx := fillS_next s1 6 n k hlt2
      obtain ⟨q, hq⟩ : ∃ q, tkS (stS s1 6 k) 6 = q := ⟨_, rfl⟩
      rw [hq] at A hnx
      have HA := Lib.hid A
      have HF := Lib.hid hf
      have HX := Lib.hid hnx
      clear A hf hnx hq
      go_wp2_with fail
      refine (HA.out).mono ?_
      rintro e w4 ⟨rfl, hk4, ht4⟩
      have hf4 := HF.out.next hk4 ht4
      obtain ⟨u, hc⟩ := hf4.cell k hlt2
      have hfr := hf4.free k
      have hs4 := hf4.set k (strV q)
      rw [HX.out] at hs4
      have HS := Lib.hid hs4
      clear hs4 hf4 hk4 ht4 HF HA HX
      go_wp2
      go_roundw
      case rel => exact ⟨k + 1, by omega, by go_num, HS.out⟩
      case measure => simp [intOf]; omega
    · obtain rfl : k = n := by omega
      have HF := Lib.hid hf
      clear hf
      go_wp2
      go_ret
      have hf := HF.out
      refine ⟨some ⟨w1.heap.size, 0, none⟩, k, rfl, ?_, hf.rd, HT.out.trans hf.tch⟩
      have := hf.own
      simp only [fillS, Nat.sub_self, List.replicate_zero, List.append_nil] at this
      have := own_less this HT.out.size
      unfold OwnS
      rw [stL_length]
      exact this
/-- what queues hands back where there are at most 128 -/
def QueP (h : Nat) (s : ByteArray) (b : Bool) (n : Nat) (w : World) (e : Ending) (w' : World) : Prop :=
  ∃ A c, e = .returned (.slice A n c) ∧ OwnI w.heap.size A c (stN s 2 n) w' ∧ Blk w' h 64 (rdC (stS s 2 n) (stB s b 2 n)) ∧ Tch [h] w w'
theorem que_bad (h : Nat) (s : ByteArray) (b : Bool) (n : Nat) (w : World) (hn : 128 < n) (hn2 : n ≤ 65536) (hb : Blk w h 64 (rdC s b)) :
    Calls Try.prog 80 #[.pointer (some ⟨h, 0, none⟩), .int .i64 n] w fun e w' =>
      e = .returned (.slice none 0 0) ∧ Blk w' h 64 (rdC s true) ∧ Tch [h] w w' := by
  have _ := hn2
  have HP := Lib.hid (hb.put 1 (.bool true))
  have HT := Lib.hid ((Tch.refl [h] w).setCell (g := h) (.inl (by simp)) 1 (.bool true))
  have c1 := hb.cell 1
  simp only [List.getElem?_toArray, List.getElem?_cons_zero, List.getElem?_cons_succ] at c1
  have f1 := hb.frozen 1
  clear hb
  go_enter Try.func80, Try.ntmps80
  go_wp2_with fail
  go_ret
  exact ⟨rfl, HP.out, HT.out⟩
set_option maxHeartbeats 1000000 in
set_option maxRecDepth 100000 in
theorem que_good (h : Nat) (s1 : ByteArray) (b1 : Bool) (n : Nat) (w : World) (hq : s1.size ≤ maxLen) (hn : n ≤ 128) (hb : Blk w h 64 (rdC s1 b1)) :
    Calls Try.prog 80 #[.pointer (some ⟨h, 0, none⟩), .int .i64 n] w (QueP h s1 b1 n w) := by
  have hlt1 := hb.lt
  have HK := Lib.hid hb
  clear hb
  have HQ := Lib.hid hq
  clear hq
  obtain ⟨i0, hi, hz0, hz1, hz2⟩ := info_parts Try.info3'
  have HI := Lib.hid hi
  have HZ0 := Lib.hid hz0
  have HZ1 := Lib.hid hz1
  have HZ2 := Lib.hid hz2
  clear hi hz0 hz1 hz2
  go_enter Try.func80, Try.ntmps80
  go_wp2_with (at_make; refine wpList_make_full _ rfl (.tmp 12) (.tmp 12) 23 rfl w.heap.size 3 i0 (.int .i64 0) 1 Try.underlying23 HI.out HZ0.out HZ1.out .i64 .i64 n n n rfl rfl rfl rfl (by rw [HZ2.out]; omega) (by unfold maxLen; omega) (Nat.le_refl _) ?_; intro w2 hrow hgrow)
  have hfil : Fil h w.heap.size 3 n (fillN s1 2 n 0) (stS s1 2 0) (stB s1 b1 2 0) w w2 := by
    have e : (madeCells (Value.cells (.int .i64 0)) (n * 1)).toList = fillN s1 2 n 0 := by
      rw [Nat.mul_one]
      show _ = List.replicate n (intV 0)
      exact toList_madeCells_one _ n
    rw [e] at hrow
    exact ⟨hrow, HK.out.same (hgrow.block h hlt1 (by simp)), Tch.of_below ((Below.refl _ _).grown hgrow (Nat.le_refl _) (by simp)) _, hlt1⟩
  clear hrow hgrow
  go_loopw [16] (fun i wr => ∃ k : Nat, k ≤ n ∧ i = .int .i64 k ∧ Fil h w.heap.size 3 n (fillN s1 2 n k) (stS s1 2 k) (stB s1 b1 2 k) w wr) (fun i _ => n - (intOf i).toNat)
  case atStart => exact ⟨0, Nat.zero_le _, rfl, hfil⟩
  case round =>
    obtain ⟨k, hk, rfl, hf⟩ := hrel
    clear hfil
    by_cases hlt2 : k < n
    · have A := number_any h (stS s1 2 k) (stB s1 b1 2 k) 2 wr (Nat.le_trans (stS_size _ _ _) HQ.out) (by omega) (by omega) hf.rd
      have hnx := fillN_next s1 2 n k hlt2
      obtain ⟨q, hq⟩ : ∃ q, nm (stS s1 2 k) 2 = q := ⟨_, rfl⟩
      rw [hq] at A hnx
      have HA := Lib.hid A
      have HF := Lib.hid hf
      have HX := Lib.hid hnx
      clear A hf hnx hq
      go_wp2_with fail
      refine (HA.out).mono ?_
      rintro e w4 ⟨rfl, hk4, ht4⟩
      have hf4 := HF.out.next hk4 ht4
      obtain ⟨u, hc⟩ := hf4.cell k hlt2
      have hfr := hf4.free k
      have hs4 := hf4.set k (intV ((q : Nat) : Int))
      rw [HX.out] at hs4
      have HS := Lib.hid hs4
      clear hs4 hf4 hk4 ht4 HF HA HX
      go_wp2
      go_roundw
      case rel => exact ⟨k + 1, by omega, by go_num, HS.out⟩
      case measure => simp [intOf]; omega
    · obtain rfl : k = n := by omega
      have HF := Lib.hid hf
      clear hf
      go_wp2
      go_ret
      have hf := HF.out
      refine ⟨some ⟨w.heap.size, 0, none⟩, k, rfl, ?_, hf.rd, hf.tch⟩
      have := hf.own
      simp only [fillN, Nat.sub_self, List.replicate_zero, List.append_nil] at this
      unfold OwnI
      rw [stN_length]
      exact this
end Go.Proofs.Ytongkfimgohhbaa
