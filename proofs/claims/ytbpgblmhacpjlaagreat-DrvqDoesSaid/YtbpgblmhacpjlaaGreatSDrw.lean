/-
  the document's Write; no condition.
-/
import Derived.Test.YtbpgblmhacpjlaaGreatSDr1
import Derived.Test.YtbpgblmhacpjlaaGreatZj
namespace Go.Proofs.YtbpgblmhacpjlaaGreat
open Go.RowKit

theorem Mr.put {B gm : Nat} {lv : Value} {xs ys : List UInt8} {lg : List Acc} {w : World} (h : Mr B gm lv xs lg w) (hy : ys.length = xs.length) : Mr B gm lv ys lg (w.setCell ⟨gm, 0, none⟩ (.string ⟨ys.toArray⟩)) := by
  obtain ⟨ag, hb⟩ := h.blk
  have hb2 := hb.put 0 (.string ⟨ys.toArray⟩)
  refine ⟨h.hB, ⟨ag, by simpa using hb2⟩, own_same h.log (fun k hk => Below.heap_setCell w _ _ k (fun e => by have e : k = gm := e; subst e; exact own_ne h.log hb (by decide) hk)), h.nil, by rw [hy]; exact h.len⟩
theorem Rnoted.put {B gm : Nat} {lv : Value} {xs ys : List UInt8} {lg : List Acc} {w w' : World} (h : Rnoted B gm lv xs lg w w') (hy : ys.length = xs.length) : Rnoted B gm lv ys lg w (w'.setCell ⟨gm, 0, none⟩ (.string ⟨ys.toArray⟩)) := by
  obtain ⟨lv', hM, ⟨h1, h2, h3, h4, h5⟩, hL⟩ := h
  exact ⟨lv', hM.put hy, ⟨h1, h2, h3, by simpa [World.setCell] using h4, fun k hk hne => (Below.heap_setCell w' _ _ k hne).trans (h5 k hk hne)⟩, hL⟩
theorem Rnoted.refl {B gm : Nat} {lv : Value} {xs : List UInt8} {lg : List Acc} {w : World} (h : Mr B gm lv xs lg w) : Rnoted B gm lv xs lg w w := ⟨lv, h, ⟨rfl, rfl, rfl, Nat.le_refl _, fun _ _ _ => rfl⟩, fun _ hk => .inl hk⟩
theorem Rnoted.below {B gm : Nat} {lv : Value} {xs : List UInt8} {lg : List Acc} {w w' w2 : World} (h : Rnoted B gm lv xs lg w w') (hb : Below w'.heap.size w' w2) : Rnoted B gm lv xs lg w w2 := by
  obtain ⟨lv', hM, ⟨h1, h2, h3, h4, h5⟩, hL⟩ := h
  exact ⟨lv', hM.below hb, ⟨hb.os.trans h1, hb.tape.trans h2, hb.output.trans h3, Nat.le_trans h4 hb.size, fun k hk hne => (hb.block k (by omega)).trans (h5 k hk hne)⟩, hL⟩
theorem cat_over (xs : List UInt8) (a : Nat) (s : ByteArray) : ((⟨xs.toArray⟩ : ByteArray).extract 0 a ++ s) ++ (⟨xs.toArray⟩ : ByteArray).extract (a + s.size) xs.length = ⟨(over xs a s).toArray⟩ := by
  apply ByteArray.ext
  apply Array.toList_inj.1
  rw [ByteArray.data_append, ByteArray.data_append, Array.toList_append, Array.toList_append, ByteArray.data_extract, ByteArray.data_extract, Array.toList_extract, Array.toList_extract]
  unfold over
  simp [List.extract]
  exact List.take_of_length_le (by simp)
/-- what Write leaves -/
def RwP (B gm : Nat) (lv : Value) (xs : List UInt8) (lg : List Acc) (a : Int) (s : ByteArray) (w : World) (e : Ending) (w' : World) : Prop :=
  e = .returned (.int .i64 (wrE xs a s)) ∧ ∃ lg', lg'.length ≤ lg.length + 1 ∧ Rnoted B gm lv (wrX xs a s) lg' w w'
set_option maxRecDepth 100000 in
set_option maxHeartbeats 3200000 in
theorem rwrite_no {B gm : Nat} {lv : Value} {xs : List UInt8} {lg : List Acc} {w : World} (h : Mr B gm lv xs lg w) (a : Int) (s : ByteArray) (hno : ¬ (0 ≤ a ∧ a + s.size ≤ xs.length)) :
    Calls Tryz.prog 12 #[.pointer (some ⟨gm, 0, none⟩), .int .i64 a, .string s] w (RwP B gm lv xs lg a s w) := by
  unfold RwP wrE wrX
  rw [if_neg hno, if_neg hno]
  have HM := rmay_any h a (s.size : Int)
  rw [decide_eq_false (fun x => hno ⟨x.2.1, x.2.2⟩)] at HM
  have HM := Lib.hid HM
  have HR := Lib.hid (Rnoted.refl h)
  clear h hno
  go_enter Tryz.func12, Tryz.ntmps12
  go_wp2_with fail
  refine HM.out.mono ?_
  rintro e w1 ⟨rfl, rfl⟩
  go_wp2_with fail
  go_ret
  exact ⟨rfl, lg, Nat.le_succ _, HR.out⟩
set_option maxRecDepth 100000 in
set_option maxHeartbeats 6400000 in
theorem rwrite_yes {B gm : Nat} {lv : Value} {xs : List UInt8} {lg : List Acc} {w : World} (h : Mr B gm lv xs lg w) (hlg : lg.length ≤ 4000) (a : Nat) (s : ByteArray) (hok : a + s.size ≤ xs.length) :
    Calls Tryz.prog 12 #[.pointer (some ⟨gm, 0, none⟩), .int .i64 (a : Int), .string s] w (RwP B gm lv xs lg a s w) := by
  have hyes : (0 : Int) ≤ (a : Int) ∧ (a : Int) + (s.size : Int) ≤ (xs.length : Int) := by omega
  unfold RwP wrE wrX
  rw [if_pos hyes, if_pos hyes]
  have HM := rmay_any h a (s.size : Int)
  rw [decide_eq_true ⟨by omega, hyes⟩] at HM
  have HM := Lib.hid HM
  have hx := h.len
  have hol := over_length xs a s hok
  have hcat := cat_over xs a s
  have hs0 : (⟨xs.toArray⟩ : ByteArray).size = xs.length := by show xs.toArray.size = _; simp
  have hNo : Calls Tryz.prog 42 #[.pointer (some ⟨gm, 0, none⟩), .int .i64 (a : Int), .int .i64 (s.size : Int), .bool true] w fun e w' => e = .returned (.tuple #[]) ∧ ∃ lg', lg'.length ≤ lg.length + 1 ∧ Rnoted B gm lv xs lg' w w' := by
    by_cases k : s.size = 0
    · rw [k]
      exact (rnote_none h hlg a true).mono fun e w' ⟨h1, h2⟩ => ⟨h1, lg, Nat.le_succ _, h2 ▸ Rnoted.refl h⟩
    · exact (rnote_some h hlg a s.size true (by omega)).mono fun e w' ⟨h1, x, h2⟩ => ⟨h1, _, by simp, h2⟩
  have HNo := Lib.hid hNo
  have hat : (a : Int).toNat = a := Int.toNat_natCast a
  rw [hat]
  obtain ⟨S0, hS0⟩ : ∃ S0 : ByteArray, ⟨xs.toArray⟩ = S0 := ⟨_, rfl⟩
  rw [hS0] at hcat hs0
  obtain ⟨P1, e1⟩ : ∃ P, S0.extract 0 a = P := ⟨_, rfl⟩
  have p1 : P1.size = a := by rw [← e1, ByteArray.size_extract]; omega
  obtain ⟨P2, e2⟩ : ∃ P, S0.extract (a + s.size) xs.length = P := ⟨_, rfl⟩
  have p2 : P2.size ≤ xs.length := by rw [← e2, ByteArray.size_extract]; omega
  obtain ⟨P3, e3⟩ : ∃ P, P1 ++ s = P := ⟨_, rfl⟩
  have p3 : P3.size = a + s.size := by rw [← e3, ByteArray.size_append, p1]
  rw [e1, e3, e2] at hcat
  have Hx := Lib.hid hS0
  have Hol := Lib.hid hol
  have Hcat := Lib.hid hcat
  obtain ⟨S9, e4⟩ : ∃ P, P3 ++ P2 = P := ⟨_, rfl⟩
  have He4 := Lib.hid e4
  have b1 : ¬ 9223372036854775807 < P1.size + s.size := by omega
  have b2 : ¬ 9223372036854775807 < P3.size + P2.size := by omega
  obtain ⟨t, ht0, ht⟩ : ∃ t : Nat, a + s.size = t ∧ (a : Int) + (s.size : Int) = (t : Int) := ⟨_, rfl, by omega⟩
  rw [ht0] at e2
  have v1 : IntKind.i64.wrap (t : Int) = (t : Int) := by rw [IntKind.wrap_i64]; omega
  rw [← hs0] at e2
  have v3 : (a : Int) ≤ (S0.size : Int) := by omega
  have v4 : (t : Int) ≤ (S0.size : Int) := by omega
  have v5 : a ≤ S0.size := by omega
  have v6 : t ≤ S0.size := by omega
  have v7 : ¬ (S0.size : Int) < (a : Int) := by omega
  have v8 : ¬ (S0.size : Int) < (t : Int) := by omega
  clear ht0
  clear h hyes hNo hcat hol hS0 hat
  go_enter Tryz.func12, Tryz.ntmps12
  go_wp2_with fail
  refine HM.out.mono ?_
  rintro e w1 ⟨rfl, rfl⟩
  go_wp2_with fail
  refine HNo.out.mono ?_
  rintro e w2 ⟨rfl, lg', hlg', hR⟩
  obtain ⟨lv2, hM2, -⟩ := id hR
  have m0 := hM2.c0
  rw [Hx.out] at m0
  have m0 : w2.drew.cell? ⟨gm, 0, none⟩ = some (.string S0) := m0
  have lt1 : gm < w2.drew.heap.size := hM2.lt
  obtain ⟨ag, hbk⟩ := hM2.blk
  have fz : w2.drew.frozen? ⟨gm, 0, none⟩ = false := hbk.frozen 0
  have HRR := Lib.hid (hR.below (Below.refl w2.heap.size w2).drew)
  clear hM2 hR hbk p1 p2 p3 hx hs0 hok hlg
  go_wp2_with fail
  go_still_tail 21, (by kernel_rfl)
  repeat still_step
  change wpList _ _ _ _ _ w2.drew
  clear v1 v3 v4 v5 v6 v7 v8 b1 b2 e1 e2 e3 ht
  have hF := HRR.out.put (ys := over xs a s) Hol.out
  have hS9 : (⟨(over xs a s).toArray⟩ : ByteArray) = S9 := by rw [← He4.out, ← Hcat.out]
  rw [hS9] at hF
  have HF := Lib.hid hF
  clear hF hS9 e4
  go_wp2_with fail
  go_ret
  exact ⟨rfl, lg', hlg', HF.out⟩
theorem rwrite_any {B gm : Nat} {lv : Value} {xs : List UInt8} {lg : List Acc} {w : World} (h : Mr B gm lv xs lg w) (hlg : lg.length ≤ 4000) (a : Int) (s : ByteArray) :
    Calls Tryz.prog 12 #[.pointer (some ⟨gm, 0, none⟩), .int .i64 a, .string s] w (RwP B gm lv xs lg a s w) := by
  by_cases k : 0 ≤ a ∧ a + s.size ≤ xs.length
  · obtain ⟨n, rfl⟩ := Int.eq_ofNat_of_zero_le k.1
    exact rwrite_yes h hlg n s (by omega)
  · exact rwrite_no h a s k
theorem text_of {w : World} {g : Nat} (l : List UInt8) (h : Blk w g 5 (l.map byteV).toArray) :
    (convert 65 9 (.slice (some ⟨g, 0, none⟩) l.length l.length)).run Tryz.prog w = .ok (.string ⟨l.toArray⟩) w := by
  refine run_convert_bytes_back w 65 9 5 ⟨g, 0, none⟩ l.length _ Tryz.underlying65 Tryz.underlying5 Tryz.underlying9 ?_
  intro j hj
  have e : (⟨g, 0, none⟩ : Addr).add j = ⟨g, j, none⟩ := by unfold Addr.add; split <;> simp_all
  rw [e, h.cell j]
  simp [byteV, hj]
theorem made_zero {w : World} {g n : Nat} (h : Blk w g 5 ((List.replicate n (0 : UInt8)).map byteV).toArray) :
    ∃ Z : ByteArray, (convert 65 9 (.slice (some ⟨g, 0, none⟩) n n)).run Tryz.prog w = .ok (.string Z) w ∧ Z = ⟨(List.replicate n (0 : UInt8)).toArray⟩ := by
  have := text_of _ h
  rw [List.length_replicate] at this
  exact ⟨_, this, rfl⟩
set_option maxRecDepth 100000 in
set_option maxHeartbeats 400000 in
theorem rnew_ok (n : Nat) (w : World) (h1 : 64 ≤ n) (h2 : n ≤ 1048576) :
    Calls Tryz.prog 23 #[.int .i64 n] w fun e w' => ∃ g, e = .returned (.tuple #[.pointer (some ⟨g, 0, none⟩), .int .i64 0]) ∧ Mr w.heap.size g (.slice none 0 0) (List.replicate n 0) [] w' ∧ Below w.heap.size w w' := by
  obtain ⟨i0, hi, hz0, hz1, hz2⟩ := info_parts Tryz.info5
  have HI := Lib.hid hi
  have HZ0 := Lib.hid hz0
  have HZ1 := Lib.hid hz1
  have HZ2 := Lib.hid hz2
  clear hi hz0 hz1 hz2
  go_enter Tryz.func23, Tryz.ntmps23
  go_wp2_with (at_make; refine wpList_make_full _ rfl _ _ 65 rfl w.heap.size 5 i0 (.int .u8 0) 1 Tryz.underlying65 HI.out HZ0.out HZ1.out .i64 .i64 n n n rfl rfl rfl rfl (by rw [HZ2.out]; omega) (by unfold maxLen; omega) (Nat.le_refl _) ?_; intro w1 hrow hgrow; rw [← zeros_map] at hrow; have hblk := blk_of_own hrow; obtain ⟨Z, hconv, hZ⟩ := made_zero hblk; have HB := Lib.hid ((Below.refl _ _).grown hgrow (Nat.le_refl _) (by simp)); have HZZ := Lib.hid hZ; clear hrow hgrow hblk hZ)
  go_ret2
  have hZ := HZZ.out
  subst hZ
  have hz := HB.out.size
  refine ⟨w1.heap.size, rfl, ⟨hz, ⟨0, Blk.new _ _ _⟩, World.ownsRow_nil _ _ _ _, fun _ => rfl, by simpa using h2⟩, HB.out.alloc hz _⟩

section
variable {B gm : Nat} {lv : Value} {xs : List UInt8} {lg : List Acc} {w : World}
theorem rmay_is (h : Mr B gm lv xs lg w) (a n : Int) (v : Bool) (hv : mayB xs a n = v) :
    Calls Tryz.prog 31 #[.pointer (some ⟨gm, 0, none⟩), .int .i64 a, .int .i64 n] w fun e w' => e = .returned (.bool v) ∧ w = w' := by
  rw [← hv]; exact rmay_any h a n
set_option maxRecDepth 100000 in
set_option maxHeartbeats 1600000 in
theorem rcheck_low (ring size drv dev : Int) (k : size < 1) (w : World) (gm : Nat) :
    Calls Tryz.prog 61 #[.pointer (some ⟨gm, 0, none⟩), .agg #[.int .i64 ring, .int .i64 size, .int .i64 drv, .int .i64 dev]] w fun e w' => e = .returned (.int .i64 140) ∧ Below w.heap.size w w' := by
  go_enter Tryz.func61, Tryz.ntmps61
  go_wp2_with fail
  go_ret
  exact ⟨rfl, ba (Below.refl _ _) _⟩
set_option maxRecDepth 100000 in
set_option maxHeartbeats 1600000 in
theorem rcheck_high (ring size drv dev : Int) (k0 : ¬ size < 1) (k : 32768 < size) (w : World) (gm : Nat) :
    Calls Tryz.prog 61 #[.pointer (some ⟨gm, 0, none⟩), .agg #[.int .i64 ring, .int .i64 size, .int .i64 drv, .int .i64 dev]] w fun e w' => e = .returned (.int .i64 140) ∧ Below w.heap.size w w' := by
  go_enter Tryz.func61, Tryz.ntmps61
  go_wp2_with fail
  go_ret
  exact ⟨rfl, ba (Below.refl _ _) _⟩
set_option maxRecDepth 100000 in
set_option maxHeartbeats 1600000 in
theorem rcheck_r1 (ring size drv dev : Int) (s1 : 1 ≤ size) (s2 : size ≤ 32768) (r1 : (ring.tmod 16 != 0) = true)  (w : World) (gm : Nat) :
    Calls Tryz.prog 61 #[.pointer (some ⟨gm, 0, none⟩), .agg #[.int .i64 ring, .int .i64 size, .int .i64 drv, .int .i64 dev]] w fun e w' => e = .returned (.int .i64 140) ∧ Below w.heap.size w w' := by
  go_enter Tryz.func61, Tryz.ntmps61
  go_wp2_with fail
  go_ret
  exact ⟨rfl, ba (Below.refl _ _) _⟩
set_option maxRecDepth 100000 in
set_option maxHeartbeats 1600000 in
theorem rcheck_r2 (ring size drv dev : Int) (s1 : 1 ≤ size) (s2 : size ≤ 32768) (r1 : (ring.tmod 16 != 0) = false) (r2 : (drv.tmod 4 != 0) = true)  (w : World) (gm : Nat) :
    Calls Tryz.prog 61 #[.pointer (some ⟨gm, 0, none⟩), .agg #[.int .i64 ring, .int .i64 size, .int .i64 drv, .int .i64 dev]] w fun e w' => e = .returned (.int .i64 140) ∧ Below w.heap.size w w' := by
  go_enter Tryz.func61, Tryz.ntmps61
  go_wp2_with fail
  go_ret
  exact ⟨rfl, ba (Below.refl _ _) _⟩
set_option maxRecDepth 100000 in
set_option maxHeartbeats 1600000 in
theorem rcheck_r3 (ring size drv dev : Int) (s1 : 1 ≤ size) (s2 : size ≤ 32768) (r1 : (ring.tmod 16 != 0) = false) (r2 : (drv.tmod 4 != 0) = false) (r3 : (dev.tmod 4 != 0) = true)  (w : World) (gm : Nat) :
    Calls Tryz.prog 61 #[.pointer (some ⟨gm, 0, none⟩), .agg #[.int .i64 ring, .int .i64 size, .int .i64 drv, .int .i64 dev]] w fun e w' => e = .returned (.int .i64 140) ∧ Below w.heap.size w w' := by
  go_enter Tryz.func61, Tryz.ntmps61
  go_wp2_with fail
  go_ret
  exact ⟨rfl, ba (Below.refl _ _) _⟩
set_option maxRecDepth 100000 in
set_option maxHeartbeats 1600000 in
theorem rcheck_m1 (h : Mr B gm lv xs lg w) (ring size drv dev : Int) (s1 : 1 ≤ size) (s2 : size ≤ 32768) (r1 : (ring.tmod 16 != 0) = false) (r2 : (drv.tmod 4 != 0) = false) (r3 : (dev.tmod 4 != 0) = false) (m1 : mayB xs ring (size * 16) = false)  :
    Calls Tryz.prog 61 #[.pointer (some ⟨gm, 0, none⟩), .agg #[.int .i64 ring, .int .i64 size, .int .i64 drv, .int .i64 dev]] w fun e w' => e = .returned (.int .i64 140) ∧ Below w.heap.size w w' := by
  have hb1 := ba (Below.refl w.heap.size w) (.cells #[.int .i64 ring, .int .i64 size, .int .i64 drv, .int .i64 dev] 23)
  have v1 : IntKind.i64.wrap (16 * size) = size * 16 := by rw [IntKind.wrap_i64]; omega
  have H0 := Lib.hid (fun W (hb : Below w.heap.size w W) => rmay_is (h.below hb) ring (size * 16) _ m1)
  clear h m1
  go_enter Tryz.func61, Tryz.ntmps61
  go_wp2_with (first
    | (go_at_call 31; ((with_reducible refine (H0.out _ hb1).mono ?_); rintro e w1 ⟨rfl, rfl⟩)))
  go_ret
  exact ⟨rfl, ba (Below.refl _ _) _⟩
set_option maxRecDepth 100000 in
set_option maxHeartbeats 1600000 in
theorem rcheck_m2 (h : Mr B gm lv xs lg w) (ring size drv dev : Int) (s1 : 1 ≤ size) (s2 : size ≤ 32768) (r1 : (ring.tmod 16 != 0) = false) (r2 : (drv.tmod 4 != 0) = false) (r3 : (dev.tmod 4 != 0) = false) (m1 : mayB xs ring (size * 16) = true) (m2 : mayB xs drv 4 = false)  :
    Calls Tryz.prog 61 #[.pointer (some ⟨gm, 0, none⟩), .agg #[.int .i64 ring, .int .i64 size, .int .i64 drv, .int .i64 dev]] w fun e w' => e = .returned (.int .i64 140) ∧ Below w.heap.size w w' := by
  have hb1 := ba (Below.refl w.heap.size w) (.cells #[.int .i64 ring, .int .i64 size, .int .i64 drv, .int .i64 dev] 23)
  have v1 : IntKind.i64.wrap (16 * size) = size * 16 := by rw [IntKind.wrap_i64]; omega
  have H0 := Lib.hid (fun W (hb : Below w.heap.size w W) => rmay_is (h.below hb) ring (size * 16) _ m1)
  have H1 := Lib.hid (fun W (hb : Below w.heap.size w W) => rmay_is (h.below hb) drv 4 _ m2)
  clear h m1 m2
  go_enter Tryz.func61, Tryz.ntmps61
  go_wp2_with (first
    | (go_at_call 31; ((with_reducible refine (H0.out _ hb1).mono ?_); rintro e w1 ⟨rfl, rfl⟩))
    | (go_at_call 31; ((with_reducible refine (H1.out _ hb1).mono ?_); rintro e w1 ⟨rfl, rfl⟩)))
  go_ret
  exact ⟨rfl, ba (Below.refl _ _) _⟩
set_option maxRecDepth 100000 in
set_option maxHeartbeats 1600000 in
theorem rcheck_m3 (h : Mr B gm lv xs lg w) (ring size drv dev : Int) (s1 : 1 ≤ size) (s2 : size ≤ 32768) (r1 : (ring.tmod 16 != 0) = false) (r2 : (drv.tmod 4 != 0) = false) (r3 : (dev.tmod 4 != 0) = false) (m1 : mayB xs ring (size * 16) = true) (m2 : mayB xs drv 4 = true) (m3 : mayB xs dev 4 = false)  :
    Calls Tryz.prog 61 #[.pointer (some ⟨gm, 0, none⟩), .agg #[.int .i64 ring, .int .i64 size, .int .i64 drv, .int .i64 dev]] w fun e w' => e = .returned (.int .i64 140) ∧ Below w.heap.size w w' := by
  have hb1 := ba (Below.refl w.heap.size w) (.cells #[.int .i64 ring, .int .i64 size, .int .i64 drv, .int .i64 dev] 23)
  have v1 : IntKind.i64.wrap (16 * size) = size * 16 := by rw [IntKind.wrap_i64]; omega
  have H0 := Lib.hid (fun W (hb : Below w.heap.size w W) => rmay_is (h.below hb) ring (size * 16) _ m1)
  have H1 := Lib.hid (fun W (hb : Below w.heap.size w W) => rmay_is (h.below hb) drv 4 _ m2)
  have H2 := Lib.hid (fun W (hb : Below w.heap.size w W) => rmay_is (h.below hb) dev 4 _ m3)
  clear h m1 m2 m3
  go_enter Tryz.func61, Tryz.ntmps61
  go_wp2_with (first
    | (go_at_call 31; ((with_reducible refine (H0.out _ hb1).mono ?_); rintro e w1 ⟨rfl, rfl⟩))
    | (go_at_call 31; ((with_reducible refine (H1.out _ hb1).mono ?_); rintro e w1 ⟨rfl, rfl⟩))
    | (go_at_call 31; ((with_reducible refine (H2.out _ hb1).mono ?_); rintro e w1 ⟨rfl, rfl⟩)))
  go_ret
  exact ⟨rfl, ba (Below.refl _ _) _⟩
set_option maxRecDepth 100000 in
set_option maxHeartbeats 1600000 in
theorem rcheck_good (h : Mr B gm lv xs lg w) (ring size drv dev : Int) (s1 : 1 ≤ size) (s2 : size ≤ 32768) (r1 : (ring.tmod 16 != 0) = false) (r2 : (drv.tmod 4 != 0) = false) (r3 : (dev.tmod 4 != 0) = false) (m1 : mayB xs ring (size * 16) = true) (m2 : mayB xs drv 4 = true) (m3 : mayB xs dev 4 = true)  :
    Calls Tryz.prog 61 #[.pointer (some ⟨gm, 0, none⟩), .agg #[.int .i64 ring, .int .i64 size, .int .i64 drv, .int .i64 dev]] w fun e w' => e = .returned (.int .i64 0) ∧ Below w.heap.size w w' := by
  have hb1 := ba (Below.refl w.heap.size w) (.cells #[.int .i64 ring, .int .i64 size, .int .i64 drv, .int .i64 dev] 23)
  have v1 : IntKind.i64.wrap (16 * size) = size * 16 := by rw [IntKind.wrap_i64]; omega
  have H0 := Lib.hid (fun W (hb : Below w.heap.size w W) => rmay_is (h.below hb) ring (size * 16) _ m1)
  have H1 := Lib.hid (fun W (hb : Below w.heap.size w W) => rmay_is (h.below hb) drv 4 _ m2)
  have H2 := Lib.hid (fun W (hb : Below w.heap.size w W) => rmay_is (h.below hb) dev 4 _ m3)
  clear h m1 m2 m3
  go_enter Tryz.func61, Tryz.ntmps61
  go_wp2_with (first
    | (go_at_call 31; ((with_reducible refine (H0.out _ hb1).mono ?_); rintro e w1 ⟨rfl, rfl⟩))
    | (go_at_call 31; ((with_reducible refine (H1.out _ hb1).mono ?_); rintro e w1 ⟨rfl, rfl⟩))
    | (go_at_call 31; ((with_reducible refine (H2.out _ hb1).mono ?_); rintro e w1 ⟨rfl, rfl⟩)))
  go_ret
  exact ⟨rfl, ba (Below.refl _ _) _⟩
theorem tmod_ne (a u : Int) (v : Bool) (h : (a.tmod u == 0) = v) : (a.tmod u != 0) = !v := by rw [← h]; rfl
theorem rcheck_any (h : Mr B gm lv xs lg w) (ring size drv dev : Int) :
    Calls Tryz.prog 61 #[.pointer (some ⟨gm, 0, none⟩), .agg #[.int .i64 ring, .int .i64 size, .int .i64 drv, .int .i64 dev]] w fun e w' => e = .returned (.int .i64 (layE xs ring size drv dev)) ∧ Below w.heap.size w w' := by
  unfold layE layB fitsB
  by_cases k1 : size < 1
  · rw [if_neg (by simp; omega)]; exact rcheck_low ring size drv dev k1 w gm
  by_cases k2 : 32768 < size
  · rw [if_neg (by simp; omega)]; exact rcheck_high ring size drv dev k1 k2 w gm
  rw [decide_eq_true (p := 1 ≤ size ∧ size ≤ 32768) (by omega), Bool.true_and]
  have s1 : 1 ≤ size := by omega
  have s2 : size ≤ 32768 := by omega
  cases r1 : ring.tmod 16 == 0
  · exact rcheck_r1 ring size drv dev s1 s2 (tmod_ne _ _ _ r1) w gm
  cases r2 : drv.tmod 4 == 0
  · rw [if_neg (by simp)]; exact rcheck_r2 ring size drv dev s1 s2 (tmod_ne _ _ _ r1) (tmod_ne _ _ _ r2) w gm
  cases r3 : dev.tmod 4 == 0
  · rw [if_neg (by simp)]; exact rcheck_r3 ring size drv dev s1 s2 (tmod_ne _ _ _ r1) (tmod_ne _ _ _ r2) (tmod_ne _ _ _ r3) w gm
  cases m1 : mayB xs ring (size * 16)
  · exact rcheck_m1 h ring size drv dev s1 s2 (tmod_ne _ _ _ r1) (tmod_ne _ _ _ r2) (tmod_ne _ _ _ r3) m1
  cases m2 : mayB xs drv 4
  · exact rcheck_m2 h ring size drv dev s1 s2 (tmod_ne _ _ _ r1) (tmod_ne _ _ _ r2) (tmod_ne _ _ _ r3) m1 m2
  cases m3 : mayB xs dev 4
  · exact rcheck_m3 h ring size drv dev s1 s2 (tmod_ne _ _ _ r1) (tmod_ne _ _ _ r2) (tmod_ne _ _ _ r3) m1 m2 m3
  · exact rcheck_good h ring size drv dev s1 s2 (tmod_ne _ _ _ r1) (tmod_ne _ _ _ r2) (tmod_ne _ _ _ r3) m1 m2 m3
end
end Go.Proofs.YtbpgblmhacpjlaaGreat
