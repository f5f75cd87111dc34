/-
  What toeplitz's ones and Hash answer, for every key and every string: the exclusive or of the key's windows at the bits that are 1; no condition beyond the string's own length.
-/
import Derived.RangeFuncNested
import Derived.RangeFuncBound
import Derived.RangeFuncCalls
import Derived.RangeFuncLeaves
import Derived.RangeFuncBox
import Derived.Shelf.Abstract
import Derived.Shelf.RegionOpen
import Derived.OwnWalkIn
import Derived.TacticsInMore
import Derived.LoopNIn
import Derived.LoopIn
import Derived.Test.YtpjndjmneficbaaTsmall
namespace Go.Proofs.Ytpjndjmneficbaa
open Go.RowKit Go.Shelf
attribute [local go_sem] Oper.semAt_some

/-- the bits that are 1, of the first k -/
def onesF (s : ByteArray) : Nat → List (Fin 416)
  | 0 => []
  | k + 1 => if bitB s k then onesF s k ++ [Fin.ofNat 416 k] else onesF s k
theorem onesF_length (s : ByteArray) : ∀ k, (onesF s k).length ≤ k
  | 0 => Nat.le_refl _
  | k + 1 => by
    have := onesF_length s k
    simp only [onesF]
    split
    · simp; omega
    · omega
def hashL (key : ByteArray) (l : List (Fin 416)) : Nat := l.foldl (fun h n => h ^^^ win key (n.val : Int)) 0
theorem hashL_snoc (key : ByteArray) (l : List (Fin 416)) (x : Fin 416) : hashL key (l ++ [x]) = hashL key l ^^^ win key (x.val : Int) := by simp [hashL]
theorem hashL_ones (key s : ByteArray) : ∀ k, k ≤ 416 → hashL key (onesF s k) = hashN (fun n => win key n) (bitB s) k
  | 0, _ => rfl
  | k + 1, h => by
    simp only [onesF, hashN]
    split
    · rw [hashL_snoc, hashL_ones key s k (by omega)]
      have : (Fin.ofNat 416 k).val = k := by simp [Fin.ofNat]; omega
      rw [this]
    · exact hashL_ones key s k (by omega)
theorem hashL_lt (key : ByteArray) (l : List (Fin 416)) : hashL key l < 4294967296 := by
  suffices h : ∀ (l : List (Fin 416)) (a : Nat), a < 4294967296 → l.foldl (fun h n => h ^^^ win key (n.val : Int)) a < 4294967296 from h l 0 (by omega)
  intro l
  induction l with
  | nil => intro a h; exact h
  | cons x l ih => intro a h; exact ih _ (Nat.xor_lt_two_pow (n := 32) h (win_lt _ _))

theorem top_bit : ∀ (c : Fin 256) (t : Fin 8), (c.val * 2 ^ t.val % 256) &&& 128 = 128 * (c.val / 2 ^ (7 - t.val) % 2) := by decide +kernel
theorem test_bit (s : ByteArray) (k : Nat) (hq : k / 8 < s.size) : bits .and .u8 ((s[k / 8].toNat : Int) * 2 ^ (k % 8) % 256) 128 = 128 * (bitZ s k : Int) := by
  have hc : s[k / 8].toNat < 256 := UInt8.toNat_lt _
  have h := top_bit ⟨s[k / 8].toNat, hc⟩ ⟨k % 8, by omega⟩
  have e1 : (k : Int) / 8 = ((k / 8 : Nat) : Int) := by omega
  have e2 : ((k : Int) % 8).toNat = k % 8 := by omega
  have e3 : bitZ s k = s[k / 8].toNat / 2 ^ (7 - k % 8) % 2 := by unfold bitZ; rw [e1, e2, byteZ_in s _ hq]
  have e4 : (s[k / 8].toNat : Int) * 2 ^ (k % 8) % 256 = ((s[k / 8].toNat * 2 ^ (k % 8) % 256 : Nat) : Int) := by simp
  have e5 := u8_and_nat (s[k / 8].toNat * 2 ^ (k % 8) % 256) 128 (Nat.mod_lt _ (by omega)) (by omega)
  rw [e4, e3]
  refine e5.trans ?_
  rw [h]
  simp

/-- what the loop's body keeps: the string's own box -/
def KeepsBox (b : Nat) (A B : World) : Prop := B.cell? ⟨b, 0, none⟩ = A.cell? ⟨b, 0, none⟩
theorem keepsBox_b {b : Nat} {w : World} (hb : b < w.heap.size) (W : World) (l : Nat) (o o' : Obj) (hl : w.heap.size ≤ l) (h : W.heap[l]? = some o) (h1 : o.isCells = false) (h2 : o.isWalk = false) : KeepsBox b W (W.putObj l o') :=
  (belowK_b (n₀ := b + 1) (w := w) (by omega) W l o o' hl h h1 h2).cell (p := ⟨b, 0, none⟩) (by show b < b + 1; omega)

theorem onesT_any (F : Fence) (n : Nat) (h12 : F.fn 69) (hro : F.round = none) (s : ByteArray) (w : World) :
    CallsIn F n Try.prog 69 #[.string s] w fun e w' => e = .returned (.func (.func 79) #[] #[.pointer (some ⟨w.heap.size, 0, none⟩)]) ∧ w' = w.alloc (.cells #[.string s] 9) := by
  refine callsIn_of_wp Try.func69 rfl h12 ?_ hro
  simp only [Try.ntmps69, List.size_toArray, List.length_cons, List.length_nil, Nat.reduceAdd, Nat.reduceSub, Array.replicate_succ, Array.replicate_zero, List.push_toArray, List.append_toArray, List.nil_append, List.cons_append]
  gi_wp2
  go_ret
  exact ⟨rfl, rfl⟩

set_option maxRecDepth 100000 in
set_option maxHeartbeats 2000000 in
theorem ones1_in (F : Fence) (n : Nat) (h15 : F.fn 79) (hro : F.round = none) (hn : 1 ≤ n) (l Bs : Nat) (s : ByteArray) (hs : s.size ≤ 52) (J Jx : List (Fin 416) → World → Prop)
    (hY : ∀ pre x W, J pre W → pre.length < 416 → YieldAt F (n - 1) Try.prog l #[.int .i64 (x.val : Int)] W fun e W' =>
      (e = .returned (.bool true) ∧ J (pre ++ [x]) W' ∧ KeepsBox Bs W W') ∨ (e = .returned (.bool false) ∧ Jx (pre ++ [x]) W'))
    (W : World) (hBs : W.cell? ⟨Bs, 0, none⟩ = some (.string s)) (h0 : J [] W) :
    CallsIn F n Try.prog 79 #[.func (.yield l) #[] #[], .pointer (some ⟨Bs, 0, none⟩)] W fun e W' => (∃ v, e = .returned v) ∧
      ((∃ ys, ys = onesF s (8 * s.size) ∧ J ys W') ∨ (∃ pre, True ∧ Jx pre W')) := by
  refine callsIn_of_wp Try.func79 rfl h15 ?_ hro
  simp only [Try.ntmps79, List.size_toArray, List.length_cons, List.length_nil, Nat.reduceAdd, Nat.reduceSub, Array.replicate_succ, Array.replicate_zero, List.push_toArray, List.append_toArray, List.nil_append, List.cons_append]
  gi_wp2
  gi_loopw [7] (fun i wr => ∃ k : Nat, k ≤ 8 * s.size ∧ i = .int .i64 k ∧ J (onesF s k) wr ∧ wr.cell? ⟨Bs, 0, none⟩ = some (.string s))
    (fun i _ => 8 * s.size - (intOf i).toNat)
  case atStart => exact ⟨0, Nat.zero_le _, rfl, h0, hBs⟩
  case round =>
    obtain ⟨k, hk, rfl, hJs, hcx⟩ := hrel
    by_cases hlt : k < 8 * s.size
    · have hlen := onesF_length s k
      obtain ⟨fn, tmps, assign, body, hy, hR⟩ := hY _ (Fin.ofNat 416 k) wr hJs (by omega)
      have hv : (Fin.ofNat 416 k).val = k := by simp [Fin.ofNat]; omega
      rw [hv] at hy
      have hq : k / 8 < s.size := by omega
      have htest := test_bit s k hq
      by_cases hb1 : bitZ s k = 1
      · have hB : bitB s k = true := by simp [bitB, hb1]
        have hnext : onesF s (k + 1) = onesF s k ++ [Fin.ofNat 416 k] := by simp [onesF, hB]
        have ht1 : bits .and .u8 ((s[k / 8].toNat : Int) * 2 ^ (k % 8) % 256) 128 = 128 := by rw [htest, hb1]; rfl
        clear htest
        gi_wp2
        refine hR.mono ?_
        rintro e W3 (⟨rfl, hJ3, hk3⟩ | ⟨rfl, hJx3⟩)
        · gi_wp2
          go_roundw
          case rel => exact ⟨k + 1, by omega, by simp, by rw [hnext]; exact hJ3, Eq.trans hk3 hcx⟩
          case measure => simp [intOf]; omega
        · gi_wp2
          refine bodyPost_ret (results_none rfl _ _ _) rfl ?_
          exact ⟨⟨_, rfl⟩, .inr ⟨_, trivial, hJx3⟩⟩
      · have hb0 : bitZ s k = 0 := by have := bitZ_le s k; omega
        have hB : bitB s k = false := by simp [bitB, hb0]
        have hnext : onesF s (k + 1) = onesF s k := by simp [onesF, hB]
        have ht1 : bits .and .u8 ((s[k / 8].toNat : Int) * 2 ^ (k % 8) % 256) 128 = 0 := by rw [htest, hb0]; rfl
        clear htest hy hR
        gi_wp2
        refine ⟨fun _ h => (by cases h), ?_⟩
        gi_wp2
        go_roundw
        case rel => exact ⟨k + 1, by omega, by simp, by rw [hnext]; exact hJs, hcx⟩
        case measure => simp [intOf]; omega
    · obtain rfl : k = 8 * s.size := by omega
      gi_wp2
      go_end0
      exact ⟨⟨_, rfl⟩, .inl ⟨_, rfl, hJs⟩⟩

theorem ones_stops (F : Fence) (n : Nat) (h15 : F.fn 79) (hro : F.round = none) (hn : 1 ≤ n) (Bs : Nat) (s : ByteArray) (hs : s.size ≤ 52) (w : World) (hb : Bs < w.heap.size) (hBs : w.cell? ⟨Bs, 0, none⟩ = some (.string s)) :
    SeqStopsK F n Try.prog 79 #[.pointer (some ⟨Bs, 0, none⟩)] (fun x : Fin 416 => #[Value.int .i64 (x.val : Int)]) (KeepsBox Bs) (fun ys => ys = onesF s (8 * s.size)) (fun _ => True) 416 w := fun l J Jx W hW _ _ hY h0 =>
  ones1_in F n h15 hro hn l Bs s hs J Jx hY W ((hW.cell (p := ⟨Bs, 0, none⟩) hb).trans hBs) h0

set_option maxRecDepth 100000 in
set_option maxHeartbeats 2000000 in
theorem hash_short (key s : ByteArray) (w : World) (hk1 : 4 ≤ key.size) (hk2 : key.size ≤ 52) (hs : s.size ≤ key.size) :
    Calls Try.prog 53 #[.string key, .string s] w fun e W' => e = .returned (.tuple #[.int .u32 (hashV key s), .int .i64 0]) ∧ Below w.heap.size w W' := by
  have ecut : s.extract 0 s.size = s := by simp
  refine (callsIn_wide (n := 3)).1 ?_
  refine callsIn_of_wp_marks Try.func53 rfl trivial ?_ rfl
  simp only [Try.ntmps53, List.size_toArray, List.length_cons, List.length_nil, Nat.reduceAdd, Nat.reduceSub, Array.replicate_succ, Array.replicate_zero, List.push_toArray, List.append_toArray, List.nil_append, List.cons_append]
  gi_wp2_with (refine ⟨trivial, ?_⟩; gi_at_call 69; refine (onesT_any Fence.wide _ trivial rfl _ _).mono ?_; rintro e w' ⟨rfl, rfl⟩)
  have c0 := Boxed.new w 9 (.string key)
  have c1 := Boxed.new (w.alloc (.cells #[.string key] 9)) 47 (.int .u32 0)
  have c2 := Boxed.new ((w.alloc (.cells #[.string key] 9)).alloc (.cells #[.int .u32 0] 47)) 9 (.string s)
  simp only [World.size_alloc] at c1 c2
  have hB0 : Below w.heap.size w (((w.alloc (.cells #[.string key] 9)).alloc (.cells #[.int .u32 0] 47)).alloc (.cells #[.string s] 9)) := (((Below.refl _ w).alloc (Nat.le_refl _) _).alloc (by simp) _).alloc (by simp; omega) _
  refine wpIn_rangeFunc_ownF rfl (by omega) (gf := 79) (lb := #[.pointer (some ⟨w.heap.size + 1 + 1, 0, none⟩)]) rfl trivial (enters_of Try.func79 (by kernel_rfl) rfl)
    (ones_stops Fence.wide _ trivial rfl (by omega) (w.heap.size + 1 + 1) s (by omega) _ (by simp) c2.cell) (Kp := KeepsBox (w.heap.size + 1 + 1)) (fun h k => Eq.trans k h) (keepsBox_b (by simp)) (Below.refl _ _) (fun _ => rfl)
    (fun pre W => (W.cell? ⟨w.heap.size, 0, none⟩ = some (.string key) ∧ W.cell? ⟨w.heap.size + 1, 0, none⟩ = some (.int .u32 (hashL key pre)) ∧ W.frozen? ⟨w.heap.size + 1, 0, none⟩ = false) ∧ Below w.heap.size w W)
    (fun _ _ _ => False)
    (OwnFrom.and (Own.from (fun s A B row hs hg hr => ⟨cell_kept hs.1 hg hr, cell_kept hs.2.1 hg hr, (frozen_kept hs.2.1 hg hr).trans hs.2.2⟩) _) (ownFrom_below (Nat.le_refl _) (by simp; omega)))
    (fun _ _ _ _ _ hs _ _ => hs)
    ⟨⟨((c0.alloc _).alloc _).cell, (c1.alloc _).cell, (c1.alloc _).frozen⟩, hB0⟩
    (fun x => { tmps := #[.string key, .string s, .pointer (some ⟨w.heap.size, 0, none⟩), undef, .int .u32 0, .int .i64 0, .pointer (some ⟨w.heap.size + 1, 0, none⟩), .int .i64 (x.val : Int), .string key, .int .i64 key.size, .bool (decide ((key.size : Int) < 4)), .bool (decide ((key.size : Int) < 4)), .string key, .int .i64 key.size, .bool (decide (52 < (key.size : Int))), .bool (decide ((key.size : Int) < 4) || decide (52 < (key.size : Int))), .string s, .string s, .int .i64 s.size, .string key, .int .i64 key.size, .int .i64 s.size, .string s, .string s, .func (.func 79) #[] #[.pointer (some ⟨w.heap.size + 1 + 1, 0, none⟩)], .int .i64 (x.val : Int), undef, undef, undef, undef, undef, undef], defers := [] }) ?assign ?body ?done ?stop
  case assign =>
    intro l x W K hK
    gi_wp2
    exact hK
  case body =>
    rintro l pre x W ⟨⟨hk, hc, hf⟩, hB⟩ _
    have hmx : Try.prog.follows .mixedOrders = true := by kernel_rfl
    have hx := x.isLt
    have hwl := win_lt key (x.val : Int)
    have hxor := u32_xor_nat _ _ (hashL_lt key pre) hwl
    gi_wp2
    gi_region_with_o (refine ⟨trivial, ?_⟩; gi_at_call 70; refine (CallsIn.inRound l (callsIn_wide.2 (window_any key (x.val : Int) _ (by omega) (by omega)))).mono ?_; rintro e w' ⟨rfl, rfl⟩)
    all_goals gi_wp2
    all_goals exact ⟨(KeepsOthers.setCell _ _ _).trans (KeepsOthers.drew _), (World.cell?_setCell_other W ⟨w.heap.size + 1, 0, none⟩ ⟨w.heap.size + 1 + 1, 0, none⟩ _ (by simp)), ⟨(World.cell?_setCell_other W ⟨w.heap.size + 1, 0, none⟩ ⟨w.heap.size, 0, none⟩ _ (by simp)).trans hk, (by rw [hashL_snoc]; exact World.cell?_setCell_same W ⟨w.heap.size + 1, 0, none⟩ _ hc), (World.frozen?_setCell W _ _ _).trans hf⟩, (hB.setCell (p := ⟨w.heap.size + 1, 0, none⟩) (by simp) _).drew⟩
  case done =>
    rintro D ys W hD rfl ⟨⟨_, hc, _⟩, hB⟩ hK
    have hv : hashL key (onesF s (8 * (s).size)) = hashV key s := hashL_ones key s _ (by omega)
    rw [hv] at hc
    gi_wp2
    refine ⟨by simp, .inl ⟨_, _, rfl, run_takeDeferred hK, ?_⟩⟩
    exact ⟨_, results_tmp2 rfl _ _ _, rfl, hB.trans (belowK_b (w := w) (Nat.le_refl _) W D _ _ (by simp at hD; omega) hK rfl rfl)⟩
  case stop =>
    rintro D c pre W _ _ h _
    exact h.elim

set_option maxRecDepth 100000 in
set_option maxHeartbeats 2000000 in
theorem hash_long (key s T : ByteArray) (w : World) (hk1 : 4 ≤ key.size) (hk2 : key.size ≤ 52) (hs : key.size < s.size) (eT : s.extract 0 key.size = T) (hT : T.size = key.size) :
    Calls Try.prog 53 #[.string key, .string s] w fun e W' => e = .returned (.tuple #[.int .u32 (hashV key T), .int .i64 0]) ∧ Below w.heap.size w W' := by
  refine (callsIn_wide (n := 3)).1 ?_
  refine callsIn_of_wp_marks Try.func53 rfl trivial ?_ rfl
  simp only [Try.ntmps53, List.size_toArray, List.length_cons, List.length_nil, Nat.reduceAdd, Nat.reduceSub, Array.replicate_succ, Array.replicate_zero, List.push_toArray, List.append_toArray, List.nil_append, List.cons_append]
  gi_wp2_with (refine ⟨trivial, ?_⟩; gi_at_call 69; refine (onesT_any Fence.wide _ trivial rfl _ _).mono ?_; rintro e w' ⟨rfl, rfl⟩)
  have c0 := Boxed.new w 9 (.string key)
  have c1 := Boxed.new (w.alloc (.cells #[.string key] 9)) 47 (.int .u32 0)
  have c2 := Boxed.new ((w.alloc (.cells #[.string key] 9)).alloc (.cells #[.int .u32 0] 47)) 9 (.string T)
  simp only [World.size_alloc] at c1 c2
  have hB0 : Below w.heap.size w (((w.alloc (.cells #[.string key] 9)).alloc (.cells #[.int .u32 0] 47)).alloc (.cells #[.string T] 9)) := (((Below.refl _ w).alloc (Nat.le_refl _) _).alloc (by simp) _).alloc (by simp; omega) _
  refine wpIn_rangeFunc_ownF rfl (by omega) (gf := 79) (lb := #[.pointer (some ⟨w.heap.size + 1 + 1, 0, none⟩)]) rfl trivial (enters_of Try.func79 (by kernel_rfl) rfl)
    (ones_stops Fence.wide _ trivial rfl (by omega) (w.heap.size + 1 + 1) T (by omega) _ (by simp) c2.cell) (Kp := KeepsBox (w.heap.size + 1 + 1)) (fun h k => Eq.trans k h) (keepsBox_b (by simp)) (Below.refl _ _) (fun _ => rfl)
    (fun pre W => (W.cell? ⟨w.heap.size, 0, none⟩ = some (.string key) ∧ W.cell? ⟨w.heap.size + 1, 0, none⟩ = some (.int .u32 (hashL key pre)) ∧ W.frozen? ⟨w.heap.size + 1, 0, none⟩ = false) ∧ Below w.heap.size w W)
    (fun _ _ _ => False)
    (OwnFrom.and (Own.from (fun s A B row hs hg hr => ⟨cell_kept hs.1 hg hr, cell_kept hs.2.1 hg hr, (frozen_kept hs.2.1 hg hr).trans hs.2.2⟩) _) (ownFrom_below (Nat.le_refl _) (by simp; omega)))
    (fun _ _ _ _ _ hs _ _ => hs)
    ⟨⟨((c0.alloc _).alloc _).cell, (c1.alloc _).cell, (c1.alloc _).frozen⟩, hB0⟩
    (fun x => { tmps := #[.string key, .string T, .pointer (some ⟨w.heap.size, 0, none⟩), undef, .int .u32 0, .int .i64 0, .pointer (some ⟨w.heap.size + 1, 0, none⟩), .int .i64 (x.val : Int), .string key, .int .i64 key.size, .bool (decide ((key.size : Int) < 4)), .bool (decide ((key.size : Int) < 4)), .string key, .int .i64 key.size, .bool (decide (52 < (key.size : Int))), .bool (decide ((key.size : Int) < 4) || decide (52 < (key.size : Int))), .string s, .string s, .int .i64 s.size, .string key, .int .i64 key.size, .int .i64 key.size, .string T, .string T, .func (.func 79) #[] #[.pointer (some ⟨w.heap.size + 1 + 1, 0, none⟩)], .int .i64 (x.val : Int), undef, undef, undef, undef, undef, undef], defers := [] }) ?assign ?body ?done ?stop
  case assign =>
    intro l x W K hK
    gi_wp2
    exact hK
  case body =>
    rintro l pre x W ⟨⟨hk, hc, hf⟩, hB⟩ _
    have hmx : Try.prog.follows .mixedOrders = true := by kernel_rfl
    have hx := x.isLt
    have hwl := win_lt key (x.val : Int)
    have hxor := u32_xor_nat _ _ (hashL_lt key pre) hwl
    gi_wp2
    gi_region_with_o (refine ⟨trivial, ?_⟩; gi_at_call 70; refine (CallsIn.inRound l (callsIn_wide.2 (window_any key (x.val : Int) _ (by omega) (by omega)))).mono ?_; rintro e w' ⟨rfl, rfl⟩)
    all_goals gi_wp2
    all_goals exact ⟨(KeepsOthers.setCell _ _ _).trans (KeepsOthers.drew _), (World.cell?_setCell_other W ⟨w.heap.size + 1, 0, none⟩ ⟨w.heap.size + 1 + 1, 0, none⟩ _ (by simp)), ⟨(World.cell?_setCell_other W ⟨w.heap.size + 1, 0, none⟩ ⟨w.heap.size, 0, none⟩ _ (by simp)).trans hk, (by rw [hashL_snoc]; exact World.cell?_setCell_same W ⟨w.heap.size + 1, 0, none⟩ _ hc), (World.frozen?_setCell W _ _ _).trans hf⟩, (hB.setCell (p := ⟨w.heap.size + 1, 0, none⟩) (by simp) _).drew⟩
  case done =>
    rintro D ys W hD rfl ⟨⟨_, hc, _⟩, hB⟩ hK
    have hv : hashL key (onesF T (8 * (T).size)) = hashV key T := hashL_ones key T _ (by omega)
    rw [hv] at hc
    gi_wp2
    refine ⟨by simp, .inl ⟨_, _, rfl, run_takeDeferred hK, ?_⟩⟩
    exact ⟨_, results_tmp2 rfl _ _ _, rfl, hB.trans (belowK_b (w := w) (Nat.le_refl _) W D _ _ (by simp at hD; omega) hK rfl rfl)⟩
  case stop =>
    rintro D c pre W _ _ h _
    exact h.elim

theorem bitZ_cut (s : ByteArray) (k : Nat) (n : Nat) (h : n < 8 * k) : bitZ (s.extract 0 k) n = bitZ s n := by
  unfold bitZ
  have e1 : (n : Int) / 8 = ((n / 8 : Nat) : Int) := by omega
  rw [e1]
  by_cases hq : n / 8 < s.size
  · have hq2 : n / 8 < (s.extract 0 k).size := by simp; omega
    rw [byteZ_in _ _ hq, byteZ_in _ _ hq2]
    have : (s.extract 0 k)[n / 8] = s[n / 8] := by rw [ByteArray.getElem_extract]; simp
    rw [this]
  · rw [byteZ_out s _ (.inr (by omega)), byteZ_out (s.extract 0 k) _ (.inr (by rw [ByteArray.size_extract]; omega))]
theorem hashV_cut (key s : ByteArray) (h : key.size < s.size) : hashV key (s.extract 0 key.size) = hashV key s := by
  have hz : (s.extract 0 key.size).size = key.size := by simp; omega
  unfold hashV
  rw [hz, hashN_upto _ (bitB s) (8 * key.size) (8 * s.size) (by omega) (fun i h1 h2 => .inr (win_out key i (.inr (by omega))))]
  exact hashN_congr _ _ _ _ _ (fun i hi => by unfold bitB; rw [bitZ_cut s _ i hi]) (fun _ _ => rfl)

/-- What toeplitz.Hash answers. -/
theorem hash_any (key s : ByteArray) (w : World) :
    Calls Try.prog 53 #[.string key, .string s] w fun e W' => e = .returned (hashE key s) ∧ Below w.heap.size w W' := by
  unfold hashE
  by_cases h0 : key.size < 4
  · rw [if_pos (.inl h0)]
    go_enter Try.func53, Try.ntmps53
    go_wp2
    go_ret2
    exact ⟨rfl, (Below.refl _ _).alloc (Nat.le_refl _) _⟩
  · by_cases h1 : 52 < key.size
    · rw [if_pos (.inr h1)]
      go_enter Try.func53, Try.ntmps53
      go_wp2
      go_ret2
      exact ⟨rfl, (Below.refl _ _).alloc (Nat.le_refl _) _⟩
    · rw [if_neg (by omega)]
      by_cases h2 : key.size < s.size
      · have := hash_long key s _ w (by omega) (by omega) h2 rfl (by simp; omega)
        rwa [hashV_cut key s h2] at this
      · exact hash_short key s w (by omega) (by omega) (by omega)
end Go.Proofs.Ytpjndjmneficbaa
