/-
  The document's memory and queue made anew: New, Check, New; what they answer is what the code answers; no condition but the memory's size.
-/
import Derived.Test.YtoblemgeacllkaaDra
import Derived.Test.YtoblemgeacllkaaDq12
namespace Go.Proofs.Ytoblemgeacllkaa
open Go.RowKit

theorem text_of {w : World} {g : Nat} (l : List UInt8) (h : Blk w g 5 (l.map byteV).toArray) :
    (convert 89 9 (.slice (some ⟨g, 0, none⟩) l.length l.length)).run Try.prog w = .ok (.string ⟨l.toArray⟩) w := by
  refine run_convert_bytes_back w 89 9 5 ⟨g, 0, none⟩ l.length _ Try.underlying89 Try.underlying5 Try.underlying9 ?_
  intro j hj
  have e : (⟨g, 0, none⟩ : Addr).add j = ⟨g, j, none⟩ := by unfold Addr.add; split <;> simp_all
  rw [e, h.cell j]
  simp [byteV, hj]
theorem made_zero {w : World} {g n : Nat} (h : Blk w g 5 ((List.replicate n (0 : UInt8)).map byteV).toArray) :
    ∃ Z : ByteArray, (convert 89 9 (.slice (some ⟨g, 0, none⟩) n n)).run Try.prog w = .ok (.string Z) w ∧ Z = ⟨(List.replicate n (0 : UInt8)).toArray⟩ := by
  have := text_of _ h
  rw [List.length_replicate] at this
  exact ⟨_, this, rfl⟩
set_option maxRecDepth 100000 in
set_option maxHeartbeats 400000 in
theorem rnew_ok (n : Nat) (w : World) (h1 : 64 ≤ n) (h2 : n ≤ 1048576) :
    Calls Try.prog 34 #[.int .i64 n] w fun e w' => ∃ g, e = .returned (.tuple #[.pointer (some ⟨g, 0, none⟩), .int .i64 0]) ∧ Mr w.heap.size g (.slice none 0 0) (List.replicate n 0) [] w' ∧ Below w.heap.size w w' := by
  obtain ⟨i0, hi, hz0, hz1, hz2⟩ := info_parts Try.info5
  have HI := Lib.hid hi
  have HZ0 := Lib.hid hz0
  have HZ1 := Lib.hid hz1
  have HZ2 := Lib.hid hz2
  clear hi hz0 hz1 hz2
  go_enter Try.func34, Try.ntmps34
  go_wp2_with (at_make; refine wpList_make_full _ rfl _ _ 89 rfl w.heap.size 5 i0 (.int .u8 0) 1 Try.underlying89 HI.out HZ0.out HZ1.out .i64 .i64 n n n rfl rfl rfl rfl (by rw [HZ2.out]; omega) (by unfold maxLen; omega) (Nat.le_refl _) ?_; intro w1 hrow hgrow; rw [← zeros_map] at hrow; have hblk := blk_of_own hrow; obtain ⟨Z, hconv, hZ⟩ := made_zero hblk; have HB := Lib.hid ((Below.refl _ _).grown hgrow (Nat.le_refl _) (by simp)); have HZZ := Lib.hid hZ; clear hrow hgrow hblk hZ)
  go_ret2
  have hZ := HZZ.out
  subst hZ
  have hz := HB.out.size
  refine ⟨w1.heap.size, rfl, ⟨hz, ⟨0, Blk.new _ _ _⟩, World.ownsRow_nil _ _ _ _, fun _ => rfl, by simpa using h2⟩, HB.out.alloc hz _⟩

section
variable {B gm : Nat} {lv : Value} {xs : List UInt8} {lg : List Acc} {w : World}
theorem rmay_is (h : Mr B gm lv xs lg w) (a n : Int) (v : Bool) (hv : mayB xs a n = v) :
    Calls Try.prog 40 #[.pointer (some ⟨gm, 0, none⟩), .int .i64 a, .int .i64 n] w fun e w' => e = .returned (.bool v) ∧ w = w' := by
  rw [← hv]; exact rmay_any h a n
set_option maxRecDepth 100000 in
set_option maxHeartbeats 1600000 in
theorem rcheck_low (ring size drv dev : Int) (k : size < 1) (w : World) (gm : Nat) :
    Calls Try.prog 37 #[.pointer (some ⟨gm, 0, none⟩), .agg #[.int .i64 ring, .int .i64 size, .int .i64 drv, .int .i64 dev]] w fun e w' => e = .returned (.int .i64 140) ∧ Below w.heap.size w w' := by
  go_enter Try.func37, Try.ntmps37
  go_wp2_with fail
  go_ret
  exact ⟨rfl, ba (Below.refl _ _) _⟩
set_option maxRecDepth 100000 in
set_option maxHeartbeats 1600000 in
theorem rcheck_high (ring size drv dev : Int) (k0 : ¬ size < 1) (k : 32768 < size) (w : World) (gm : Nat) :
    Calls Try.prog 37 #[.pointer (some ⟨gm, 0, none⟩), .agg #[.int .i64 ring, .int .i64 size, .int .i64 drv, .int .i64 dev]] w fun e w' => e = .returned (.int .i64 140) ∧ Below w.heap.size w w' := by
  go_enter Try.func37, Try.ntmps37
  go_wp2_with fail
  go_ret
  exact ⟨rfl, ba (Below.refl _ _) _⟩
set_option maxRecDepth 100000 in
set_option maxHeartbeats 1600000 in
theorem rcheck_r1 (ring size drv dev : Int) (s1 : 1 ≤ size) (s2 : size ≤ 32768) (r1 : (ring.tmod 16 != 0) = true)  (w : World) (gm : Nat) :
    Calls Try.prog 37 #[.pointer (some ⟨gm, 0, none⟩), .agg #[.int .i64 ring, .int .i64 size, .int .i64 drv, .int .i64 dev]] w fun e w' => e = .returned (.int .i64 140) ∧ Below w.heap.size w w' := by
  go_enter Try.func37, Try.ntmps37
  go_wp2_with fail
  go_ret
  exact ⟨rfl, ba (Below.refl _ _) _⟩
set_option maxRecDepth 100000 in
set_option maxHeartbeats 1600000 in
theorem rcheck_r2 (ring size drv dev : Int) (s1 : 1 ≤ size) (s2 : size ≤ 32768) (r1 : (ring.tmod 16 != 0) = false) (r2 : (drv.tmod 4 != 0) = true)  (w : World) (gm : Nat) :
    Calls Try.prog 37 #[.pointer (some ⟨gm, 0, none⟩), .agg #[.int .i64 ring, .int .i64 size, .int .i64 drv, .int .i64 dev]] w fun e w' => e = .returned (.int .i64 140) ∧ Below w.heap.size w w' := by
  go_enter Try.func37, Try.ntmps37
  go_wp2_with fail
  go_ret
  exact ⟨rfl, ba (Below.refl _ _) _⟩
set_option maxRecDepth 100000 in
set_option maxHeartbeats 1600000 in
theorem rcheck_r3 (ring size drv dev : Int) (s1 : 1 ≤ size) (s2 : size ≤ 32768) (r1 : (ring.tmod 16 != 0) = false) (r2 : (drv.tmod 4 != 0) = false) (r3 : (dev.tmod 4 != 0) = true)  (w : World) (gm : Nat) :
    Calls Try.prog 37 #[.pointer (some ⟨gm, 0, none⟩), .agg #[.int .i64 ring, .int .i64 size, .int .i64 drv, .int .i64 dev]] w fun e w' => e = .returned (.int .i64 140) ∧ Below w.heap.size w w' := by
  go_enter Try.func37, Try.ntmps37
  go_wp2_with fail
  go_ret
  exact ⟨rfl, ba (Below.refl _ _) _⟩
set_option maxRecDepth 100000 in
set_option maxHeartbeats 1600000 in
theorem rcheck_m1 (h : Mr B gm lv xs lg w) (ring size drv dev : Int) (s1 : 1 ≤ size) (s2 : size ≤ 32768) (r1 : (ring.tmod 16 != 0) = false) (r2 : (drv.tmod 4 != 0) = false) (r3 : (dev.tmod 4 != 0) = false) (m1 : mayB xs ring (size * 16) = false)  :
    Calls Try.prog 37 #[.pointer (some ⟨gm, 0, none⟩), .agg #[.int .i64 ring, .int .i64 size, .int .i64 drv, .int .i64 dev]] w fun e w' => e = .returned (.int .i64 140) ∧ Below w.heap.size w w' := by
  have hb1 := ba (Below.refl w.heap.size w) (.cells #[.int .i64 ring, .int .i64 size, .int .i64 drv, .int .i64 dev] 23)
  have v1 : IntKind.i64.wrap (16 * size) = size * 16 := by rw [IntKind.wrap_i64]; omega
  have H0 := Lib.hid (fun W (hb : Below w.heap.size w W) => rmay_is (h.below hb) ring (size * 16) _ m1)
  clear h m1
  go_enter Try.func37, Try.ntmps37
  go_wp2_with (first
    | (go_at_call 40; ((with_reducible refine (H0.out _ hb1).mono ?_); rintro e w1 ⟨rfl, rfl⟩)))
  go_ret
  exact ⟨rfl, ba (Below.refl _ _) _⟩
set_option maxRecDepth 100000 in
set_option maxHeartbeats 1600000 in
theorem rcheck_m2 (h : Mr B gm lv xs lg w) (ring size drv dev : Int) (s1 : 1 ≤ size) (s2 : size ≤ 32768) (r1 : (ring.tmod 16 != 0) = false) (r2 : (drv.tmod 4 != 0) = false) (r3 : (dev.tmod 4 != 0) = false) (m1 : mayB xs ring (size * 16) = true) (m2 : mayB xs drv 4 = false)  :
    Calls Try.prog 37 #[.pointer (some ⟨gm, 0, none⟩), .agg #[.int .i64 ring, .int .i64 size, .int .i64 drv, .int .i64 dev]] w fun e w' => e = .returned (.int .i64 140) ∧ Below w.heap.size w w' := by
  have hb1 := ba (Below.refl w.heap.size w) (.cells #[.int .i64 ring, .int .i64 size, .int .i64 drv, .int .i64 dev] 23)
  have v1 : IntKind.i64.wrap (16 * size) = size * 16 := by rw [IntKind.wrap_i64]; omega
  have H0 := Lib.hid (fun W (hb : Below w.heap.size w W) => rmay_is (h.below hb) ring (size * 16) _ m1)
  have H1 := Lib.hid (fun W (hb : Below w.heap.size w W) => rmay_is (h.below hb) drv 4 _ m2)
  clear h m1 m2
  go_enter Try.func37, Try.ntmps37
  go_wp2_with (first
    | (go_at_call 40; ((with_reducible refine (H0.out _ hb1).mono ?_); rintro e w1 ⟨rfl, rfl⟩))
    | (go_at_call 40; ((with_reducible refine (H1.out _ hb1).mono ?_); rintro e w1 ⟨rfl, rfl⟩)))
  go_ret
  exact ⟨rfl, ba (Below.refl _ _) _⟩
set_option maxRecDepth 100000 in
set_option maxHeartbeats 1600000 in
theorem rcheck_m3 (h : Mr B gm lv xs lg w) (ring size drv dev : Int) (s1 : 1 ≤ size) (s2 : size ≤ 32768) (r1 : (ring.tmod 16 != 0) = false) (r2 : (drv.tmod 4 != 0) = false) (r3 : (dev.tmod 4 != 0) = false) (m1 : mayB xs ring (size * 16) = true) (m2 : mayB xs drv 4 = true) (m3 : mayB xs dev 4 = false)  :
    Calls Try.prog 37 #[.pointer (some ⟨gm, 0, none⟩), .agg #[.int .i64 ring, .int .i64 size, .int .i64 drv, .int .i64 dev]] w fun e w' => e = .returned (.int .i64 140) ∧ Below w.heap.size w w' := by
  have hb1 := ba (Below.refl w.heap.size w) (.cells #[.int .i64 ring, .int .i64 size, .int .i64 drv, .int .i64 dev] 23)
  have v1 : IntKind.i64.wrap (16 * size) = size * 16 := by rw [IntKind.wrap_i64]; omega
  have H0 := Lib.hid (fun W (hb : Below w.heap.size w W) => rmay_is (h.below hb) ring (size * 16) _ m1)
  have H1 := Lib.hid (fun W (hb : Below w.heap.size w W) => rmay_is (h.below hb) drv 4 _ m2)
  have H2 := Lib.hid (fun W (hb : Below w.heap.size w W) => rmay_is (h.below hb) dev 4 _ m3)
  clear h m1 m2 m3
  go_enter Try.func37, Try.ntmps37
  go_wp2_with (first
    | (go_at_call 40; ((with_reducible refine (H0.out _ hb1).mono ?_); rintro e w1 ⟨rfl, rfl⟩))
    | (go_at_call 40; ((with_reducible refine (H1.out _ hb1).mono ?_); rintro e w1 ⟨rfl, rfl⟩))
    | (go_at_call 40; ((with_reducible refine (H2.out _ hb1).mono ?_); rintro e w1 ⟨rfl, rfl⟩)))
  go_ret
  exact ⟨rfl, ba (Below.refl _ _) _⟩
set_option maxRecDepth 100000 in
set_option maxHeartbeats 1600000 in
theorem rcheck_good (h : Mr B gm lv xs lg w) (ring size drv dev : Int) (s1 : 1 ≤ size) (s2 : size ≤ 32768) (r1 : (ring.tmod 16 != 0) = false) (r2 : (drv.tmod 4 != 0) = false) (r3 : (dev.tmod 4 != 0) = false) (m1 : mayB xs ring (size * 16) = true) (m2 : mayB xs drv 4 = true) (m3 : mayB xs dev 4 = true)  :
    Calls Try.prog 37 #[.pointer (some ⟨gm, 0, none⟩), .agg #[.int .i64 ring, .int .i64 size, .int .i64 drv, .int .i64 dev]] w fun e w' => e = .returned (.int .i64 0) ∧ Below w.heap.size w w' := by
  have hb1 := ba (Below.refl w.heap.size w) (.cells #[.int .i64 ring, .int .i64 size, .int .i64 drv, .int .i64 dev] 23)
  have v1 : IntKind.i64.wrap (16 * size) = size * 16 := by rw [IntKind.wrap_i64]; omega
  have H0 := Lib.hid (fun W (hb : Below w.heap.size w W) => rmay_is (h.below hb) ring (size * 16) _ m1)
  have H1 := Lib.hid (fun W (hb : Below w.heap.size w W) => rmay_is (h.below hb) drv 4 _ m2)
  have H2 := Lib.hid (fun W (hb : Below w.heap.size w W) => rmay_is (h.below hb) dev 4 _ m3)
  clear h m1 m2 m3
  go_enter Try.func37, Try.ntmps37
  go_wp2_with (first
    | (go_at_call 40; ((with_reducible refine (H0.out _ hb1).mono ?_); rintro e w1 ⟨rfl, rfl⟩))
    | (go_at_call 40; ((with_reducible refine (H1.out _ hb1).mono ?_); rintro e w1 ⟨rfl, rfl⟩))
    | (go_at_call 40; ((with_reducible refine (H2.out _ hb1).mono ?_); rintro e w1 ⟨rfl, rfl⟩)))
  go_ret
  exact ⟨rfl, ba (Below.refl _ _) _⟩
theorem tmod_ne (a u : Int) (v : Bool) (h : (a.tmod u == 0) = v) : (a.tmod u != 0) = !v := by rw [← h]; rfl
theorem rcheck_any (h : Mr B gm lv xs lg w) (ring size drv dev : Int) :
    Calls Try.prog 37 #[.pointer (some ⟨gm, 0, none⟩), .agg #[.int .i64 ring, .int .i64 size, .int .i64 drv, .int .i64 dev]] w fun e w' => e = .returned (.int .i64 (layE xs ring size drv dev)) ∧ Below w.heap.size w w' := by
  unfold layE layB fitsB
  by_cases k1 : size < 1
  · rw [if_neg (by simp; omega)]; exact rcheck_low ring size drv dev k1 w gm
  by_cases k2 : 32768 < size
  · rw [if_neg (by simp; omega)]; exact rcheck_high ring size drv dev k1 k2 w gm
  rw [decide_eq_true (p := 1 ≤ size ∧ size ≤ 32768) (by omega), Bool.true_and]
  have s1 : 1 ≤ size := by omega
  have s2 : size ≤ 32768 := by omega
  cases r1 : ring.tmod 16 == 0
  · exact rcheck_r1 ring size drv dev s1 s2 (tmod_ne _ _ _ r1) w gm
  cases r2 : drv.tmod 4 == 0
  · rw [if_neg (by simp)]; exact rcheck_r2 ring size drv dev s1 s2 (tmod_ne _ _ _ r1) (tmod_ne _ _ _ r2) w gm
  cases r3 : dev.tmod 4 == 0
  · rw [if_neg (by simp)]; exact rcheck_r3 ring size drv dev s1 s2 (tmod_ne _ _ _ r1) (tmod_ne _ _ _ r2) (tmod_ne _ _ _ r3) w gm
  cases m1 : mayB xs ring (size * 16)
  · exact rcheck_m1 h ring size drv dev s1 s2 (tmod_ne _ _ _ r1) (tmod_ne _ _ _ r2) (tmod_ne _ _ _ r3) m1
  cases m2 : mayB xs drv 4
  · exact rcheck_m2 h ring size drv dev s1 s2 (tmod_ne _ _ _ r1) (tmod_ne _ _ _ r2) (tmod_ne _ _ _ r3) m1 m2
  cases m3 : mayB xs dev 4
  · exact rcheck_m3 h ring size drv dev s1 s2 (tmod_ne _ _ _ r1) (tmod_ne _ _ _ r2) (tmod_ne _ _ _ r3) m1 m2 m3
  · exact rcheck_good h ring size drv dev s1 s2 (tmod_ne _ _ _ r1) (tmod_ne _ _ _ r2) (tmod_ne _ _ _ r3) m1 m2 m3
end
set_option maxRecDepth 100000 in
set_option maxHeartbeats 1600000 in
theorem rqnew_bad {g : Nat} (ring size drv dev E : Int) (hE : (E != 0) = true) (w : World)
    (HC : ∀ W, Below w.heap.size w W → Calls Try.prog 37 #[.pointer (some ⟨g, 0, none⟩), .agg #[.int .i64 ring, .int .i64 size, .int .i64 drv, .int .i64 dev]] W fun e w' => e = .returned (.int .i64 E) ∧ Below W.heap.size W w') :
    Calls Try.prog 36 #[.pointer (some ⟨g, 0, none⟩), .agg #[.int .i64 ring, .int .i64 size, .int .i64 drv, .int .i64 dev]] w fun e w' => e = .returned (.tuple #[.pointer none, .int .i64 E]) ∧ Below w.heap.size w w' := by
  have HC := Lib.hid HC
  have hb1 := ba (Below.refl w.heap.size w) (.cells #[.int .i64 ring, .int .i64 size, .int .i64 drv, .int .i64 dev] 23)
  have HB := Lib.hid hb1
  go_enter Try.func36, Try.ntmps36
  go_wp2_with fail
  refine (HC.out _ HB.out).mono ?_
  rintro e w1 ⟨rfl, hq⟩
  have H1 := Lib.hid (b0 HB.out hq)
  clear hq hb1
  go_wp2_with fail
  go_ret2
  exact ⟨rfl, H1.out⟩
set_option maxRecDepth 100000 in
set_option maxHeartbeats 1600000 in
theorem rqnew_good {g : Nat} (ring size drv dev : Int) (w : World)
    (HC : ∀ W, Below w.heap.size w W → Calls Try.prog 37 #[.pointer (some ⟨g, 0, none⟩), .agg #[.int .i64 ring, .int .i64 size, .int .i64 drv, .int .i64 dev]] W fun e w' => e = .returned (.int .i64 0) ∧ Below W.heap.size W w') :
    Calls Try.prog 36 #[.pointer (some ⟨g, 0, none⟩), .agg #[.int .i64 ring, .int .i64 size, .int .i64 drv, .int .i64 dev]] w fun e w' => ∃ k, e = .returned (.tuple #[.pointer (some ⟨k, 0, none⟩), .int .i64 0]) ∧ w.heap.size ≤ k ∧
      Blk w' k 48 #[.pointer (some ⟨g, 0, none⟩), .int .i64 ring, .int .i64 size, .int .i64 drv, .int .i64 dev, .int .i64 0, .bool true, .int .i64 0, .bool true, .int .i64 0, .bool true, .int .i64 0, .int .i64 0, .bool false] ∧ Below w.heap.size w w' := by
  have HC := Lib.hid HC
  have hb1 := ba (Below.refl w.heap.size w) (.cells #[.int .i64 ring, .int .i64 size, .int .i64 drv, .int .i64 dev] 23)
  have HB := Lib.hid hb1
  have k0 := Blk.new w 23 #[.int .i64 ring, .int .i64 size, .int .i64 drv, .int .i64 dev]
  go_enter Try.func36, Try.ntmps36
  go_wp2_with fail
  refine (HC.out _ HB.out).mono ?_
  rintro e w1 ⟨rfl, hq⟩
  have H1 := Lib.hid (b0 HB.out hq)
  have k1 := k0.same (hq.block _ k0.lt)
  obtain ⟨c0, c1, c2, c3, -, -, -, -⟩ := blk4 k1
  have hl1 := k1.lt
  have hn1 := Nat.ne_of_lt hl1
  have hle := H1.out.size
  have HL := Lib.hid hle
  clear hq hb1 k0 k1 hle
  go_wp2_with fail
  go_ret2
  refine ⟨w1.heap.size + 1, rfl, by have := HL.out; omega, Sp.Blk.new2 _ _ _ _, ba (ba H1.out _) _⟩
def RnewP (xs : List UInt8) (g : Nat) (ring size drv dev : Int) (w : World) (e : Ending) (w' : World) : Prop :=
  Below w.heap.size w w' ∧ if layB xs ring size drv dev then ∃ k, e = .returned (.tuple #[.pointer (some ⟨k, 0, none⟩), .int .i64 0]) ∧ w.heap.size ≤ k ∧ Blk w' k 48 ((newQ ring size drv dev).cellsR g)
  else e = .returned (.tuple #[.pointer none, .int .i64 140])
theorem rqnew_any {B g : Nat} {lv : Value} {xs : List UInt8} {lg : List Acc} {w : World} (h : Mr B g lv xs lg w) (ring size drv dev : Int) :
    Calls Try.prog 36 #[.pointer (some ⟨g, 0, none⟩), .agg #[.int .i64 ring, .int .i64 size, .int .i64 drv, .int .i64 dev]] w (RnewP xs g ring size drv dev w) := by
  have HC := fun W (hb : Below w.heap.size w W) => rcheck_any (h.below hb) ring size drv dev
  unfold RnewP
  unfold layE at HC
  cases e : layB xs ring size drv dev
  · rw [e] at HC
    exact (rqnew_bad ring size drv dev 140 rfl w HC).mono fun _ _ ⟨h1, h2⟩ => ⟨h2, h1⟩
  · rw [e] at HC
    refine (rqnew_good ring size drv dev w HC).mono fun _ _ ⟨k, h1, h2, h3, h4⟩ => ⟨h4, ?_⟩
    rw [if_pos rfl]
    refine ⟨k, h1, h2, ?_⟩
    obtain ⟨⟨a1, a2⟩, ⟨b1, b2⟩, ⟨c1, c2⟩, d1, d2⟩ := lay_facts e
    have e1 : ((ring.toNat : Nat) : Int) = ring := by omega
    have e2 : ((size.toNat : Nat) : Int) = size := by omega
    have e3 : ((drv.toNat : Nat) : Int) = drv := by omega
    have e4 : ((dev.toNat : Nat) : Int) = dev := by omega
    unfold newQ Qs.cellsR
    simp only [e1, e2, e3, e4]
    exact h3
end Go.Proofs.Ytoblemgeacllkaa
