/-
  drvq: after, offset, zeros, Free, Back; no condition.
-/
import Derived.Test.YtbpgblmhacpjlaaGreatZi
import Derived.Test.YtbpgblmhacpjlaaGreatZf
import Derived.Test.YtbpgblmhacpjlaaGreatSDqa
import Derived.BigQuiet
import Derived.Deep.QuietTactic
import Derived.StillTailTactics
import Derived.Deep.RegionHeld3
namespace Go.Proofs.YtbpgblmhacpjlaaGreat
open Go.RowKit

section
variable {w w1 w' : World} {gq : Nat} {t : TypeId} {cs : Array Value} {n a v : Value}
theorem Below.put2 {n : Nat} (h : Below n w w') {k : Nat} (hk : n ≤ k) (p q : Value) : Below n w ((w'.setCell ⟨k, 0, none⟩ p).setCell ⟨k, 1, none⟩ q) := (h.setCell (p := ⟨k, 0, none⟩) hk p).setCell (p := ⟨k, 1, none⟩) hk q
theorem Blk.put2 {k : Nat} {x y : Value} (h : Blk w k t #[x, y]) (p q : Value) : Blk ((w.setCell ⟨k, 0, none⟩ p).setCell ⟨k, 1, none⟩ q) k t #[p, q] := by
  have := (h.put 0 p).put 1 q; simpa using this
/-- after's variables -/
def VF (w : World) (gq : Nat) (n a v : Value) (w' : World) : Prop :=
  (w'.cell? ⟨w.heap.size, 0, none⟩ = some a ∧ w'.cell? ⟨w.heap.size, 1, none⟩ = some v ∧ w'.cell? ⟨gq, 2, none⟩ = some n) ∧ Below w.heap.size w w' ∧ Blk w' w.heap.size 44 #[a, v] ∧ Blk w' (w.heap.size + 1) 44 #[.int .i64 0, .bool false]
theorem VF.of (h : Below w.heap.size w w') (hq : gq < w.heap.size ∧ w.cell? ⟨gq, 2, none⟩ = some n) (k : Blk w' w.heap.size 44 #[a, v]) (r : Blk w' (w.heap.size + 1) 44 #[.int .i64 0, .bool false]) : VF w gq n a v w' :=
  ⟨⟨k.cell 0, k.cell 1, ((bcell h).1 gq 2 hq.1).trans hq.2⟩, h, k, r⟩
theorem VF.next (hq : gq < w.heap.size ∧ w.cell? ⟨gq, 2, none⟩ = some n) (h : VF w gq n a v w1) (hb : Below w1.heap.size w1 w') : VF w gq n a v w' := VF.of (b0 h.2.1 hb) hq (h.2.2.1.same (hb.block _ h.2.2.1.lt)) (h.2.2.2.same (hb.block _ h.2.2.2.lt))
theorem VF.drew (hq : gq < w.heap.size ∧ w.cell? ⟨gq, 2, none⟩ = some n) (h : VF w gq n a v w1) : VF w gq n a v w1.drew := h.next hq (Below.refl _ _).drew
theorem VF.alloc (hq : gq < w.heap.size ∧ w.cell? ⟨gq, 2, none⟩ = some n) (h : VF w gq n a v w1) (o : Obj) : VF w gq n a v (w1.alloc o) := h.next hq (ba (Below.refl _ _) o)
theorem VF.store (hq : gq < w.heap.size ∧ w.cell? ⟨gq, 2, none⟩ = some n) (h : VF w gq n a v w1) {k : Nat} (hlt : w.heap.size + 1 < k) (p q : Value) : VF w gq n a v ((w1.setCell ⟨k, 0, none⟩ p).setCell ⟨k, 1, none⟩ q) :=
  VF.of (Below.put2 h.2.1 (by omega) p q) hq ((h.2.2.1.other (by omega) 0 p).other (by omega) 1 q) ((h.2.2.2.other (by omega) 0 p).other (by omega) 1 q)
theorem VF.stored (hq : gq < w.heap.size ∧ w.cell? ⟨gq, 2, none⟩ = some n) (h : VF w gq n a v w1) {k : Nat} {x y : Value} (hk : Blk w1 k t #[x, y]) (hlt : w.heap.size + 1 < k) (p q : Value) : VF w gq n a v ((w1.setCell ⟨k, 0, none⟩ p).setCell ⟨k, 1, none⟩ q) ∧ Blk ((w1.setCell ⟨k, 0, none⟩ p).setCell ⟨k, 1, none⟩ q) k t #[p, q] :=
  ⟨h.store hq hlt p q, hk.put2 p q⟩
end
set_option maxHeartbeats 1600000 in
theorem after_v {w : World} {gq n : Nat} (hq : gq < w.heap.size ∧ w.cell? ⟨gq, 2, none⟩ = some (.int .i64 (n : Int))) (a k : Nat) (v : Bool) (h1 : 1 ≤ n) (h2 : n ≤ 32768) (ha : a < n) (hk : k ≤ n) :
    Calls Tryz.prog 30 #[.pointer (some ⟨gq, 0, none⟩), .agg #[.int .i64 (a : Int), .bool v], .int .i64 (k : Int)] w fun e w' => e = .returned (.agg #[.int .i64 (stA n a k : Int), .bool (stW n a k v)]) ∧ Below w.heap.size w w' := by
  obtain ⟨e0, e1, e2⟩ := nx_st v h1 h2 ha hk
  have HN := fun W => Sp.next_any (a : Int) (n : Int) (k : Int) v W
  rw [e0, e1, e2] at HN
  unfold Sp.R2 at HN
  generalize (stA n a k : Int) = A at *
  generalize stW n a k v = V at *
  have HN := Lib.hid HN
  have HQ := Lib.hid hq
  have hlt := hq.1
  have hne := Nat.ne_of_lt hlt
  have p2 := hq.2
  clear e0 e1 e2 hq h1 h2 ha hk
  go_enter Tryz.func30, Tryz.ntmps30
  go_wp2_with fail
  have C0 := Lib.hid (VF.of (w := w) (ba (ba (Below.refl _ _) _) _) HQ.out ((Blk.new w 44 #[.int .i64 (a : Int), .bool v]).alloc _) (Sp.Blk.new2 w (.cells #[.int .i64 (a : Int), .bool v] 44) 44 #[.int .i64 0, .bool false]))
  go_region_held3 (fun w' => (w'.cell? ⟨w.heap.size, 0, none⟩ = some (.int .i64 (a : Int)) ∧ w'.cell? ⟨w.heap.size, 1, none⟩ = some (.bool v) ∧ w'.cell? ⟨gq, 2, none⟩ = some (.int .i64 (n : Int))) ∧ Below w.heap.size w w' ∧ Blk w' w.heap.size 44 #[.int .i64 (a : Int), .bool v] ∧ Blk w' (w.heap.size + 1) 44 #[.int .i64 0, .bool false])
    ((refine (id (α := VF w gq (.int .i64 (n : Int)) (.int .i64 (a : Int)) (.bool v) _) ?_); with_reducible (first | exact C0.out.drew HQ.out | exact (C0.out.alloc HQ.out _).drew HQ.out | exact VF.next HQ.out (C0.out.drew HQ.out) hq | exact VF.next HQ.out ((C0.out.alloc HQ.out _).drew HQ.out) hq | exact VF.alloc HQ.out (VF.next HQ.out (C0.out.drew HQ.out) hq) _ | exact VF.store HQ.out (VF.next HQ.out ((C0.out.alloc HQ.out _).drew HQ.out) hq) (by omega) _ _)))
    ((go_at_call 64; ((with_reducible refine (HN.out _).mono ?_); rintro e w' ⟨rfl, hq⟩; obtain ⟨hc1, hf1⟩ := bcell hq; have hz1 := hq.size; (try simp at hz1); (try (have hk1 := (blk_third w _ _ _ _).same (hq.block _ (by simp)))))))
  · have hA := VF.alloc HQ.out (VF.next HQ.out (C0.out.drew HQ.out) hq) (.cells #[.int .i64 A, .bool V] 44)
    have hk := Blk.new w' 44 #[.int .i64 A, .bool V]
    obtain ⟨W, hW⟩ : ∃ W, w'.alloc (.cells #[.int .i64 A, .bool V] 44) = W := ⟨_, rfl⟩
    obtain ⟨K, hK⟩ : ∃ K, w'.heap.size = K := ⟨_, rfl⟩
    rw [hW] at hA hk ⊢
    rw [hK] at hk ⊢
    have q0 := hk.cell 0
    have q1 := hk.cell 1
    have r := hA.2.2.2
    have x0 := r.cell 0
    have x1 := r.cell 1
    have z0 := r.frozen 0
    have z1 := r.frozen 1
    simp only [List.getElem?_toArray, List.getElem?_cons_zero, List.getElem?_cons_succ] at q0 q1 x0 x1
    have HB := Lib.hid (Below.put2 hA.2.1 (by omega : w.heap.size ≤ w.heap.size + 1) (.int .i64 A) (.bool V))
    have HF := Lib.hid (r.put2 (.int .i64 A) (.bool V))
    clear hA hk r hW hK hq hc1 hf1 hz1
    go_wp2_with fail
    exact bodyPost_ret (v := .agg #[.int .i64 A, .bool V]) (two_results _ _ _ 6 (w.heap.size + 1) rfl rfl _ _ HF.out) rfl ⟨rfl, HB.out⟩
  · obtain ⟨hA, hk⟩ := VF.stored HQ.out (VF.next HQ.out ((C0.out.alloc HQ.out _).drew HQ.out) hq) hk1 (by omega) (.int .i64 A) (.bool V)
    obtain ⟨W, hW⟩ : ∃ W, (w'.setCell ⟨w.heap.size + 1 + 1, 0, none⟩ (.int .i64 A)).setCell ⟨w.heap.size + 1 + 1, 1, none⟩ (.bool V) = W := ⟨_, rfl⟩
    obtain ⟨K, hK⟩ : ∃ K, w.heap.size + 1 + 1 = K := ⟨_, rfl⟩
    rw [hW] at hA hk ⊢
    rw [hK] at hk ⊢
    have q0 := hk.cell 0
    have q1 := hk.cell 1
    have r := hA.2.2.2
    have x0 := r.cell 0
    have x1 := r.cell 1
    have z0 := r.frozen 0
    have z1 := r.frozen 1
    simp only [List.getElem?_toArray, List.getElem?_cons_zero, List.getElem?_cons_succ] at q0 q1 x0 x1
    have HB := Lib.hid (Below.put2 hA.2.1 (by omega : w.heap.size ≤ w.heap.size + 1) (.int .i64 A) (.bool V))
    have HF := Lib.hid (r.put2 (.int .i64 A) (.bool V))
    clear hA hk r hW hK hq hc1 hf1 hz1
    go_wp2_with fail
    exact bodyPost_ret (v := .agg #[.int .i64 A, .bool V]) (two_results _ _ _ 6 (w.heap.size + 1) rfl rfl _ _ HF.out) rfl ⟨rfl, HB.out⟩
theorem offset_v {w : World} {gq ring : Nat} (hq : gq < w.heap.size ∧ w.cell? ⟨gq, 1, none⟩ = some (.int .i64 (ring : Int))) (a : Nat) (v : Bool) (hr : ring + 16 * a ≤ 1048576) :
    Calls Tryz.prog 63 #[.pointer (some ⟨gq, 0, none⟩), .agg #[.int .i64 (a : Int), .bool v]] w fun e w' => e = .returned (.int .i64 ((ring + 16 * a : Nat) : Int)) ∧ Below w.heap.size w w' := by
  obtain ⟨hlt, p1⟩ := hq
  have hne := Nat.ne_of_lt hlt
  have v1 : IntKind.i64.wrap ((a : Int) * 16) = (a : Int) * 16 := by rw [IntKind.wrap_i64]; omega
  have v2 : IntKind.i64.wrap ((ring : Int) + (a : Int) * 16) = ((ring + 16 * a : Nat) : Int) := by rw [IntKind.wrap_i64]; omega
  generalize ((ring + 16 * a : Nat) : Int) = R at *
  clear hr
  go_enter Tryz.func63, Tryz.ntmps63
  go_wp2_with fail
  go_quiet (fail)
  go_wp2_with fail
  go_ret
  exact ⟨rfl, below_drewN ((Below.refl _ _).alloc (Nat.le_refl _) _) _⟩
theorem free_v {w : World} {gq : Nat} {n : Int} (hq : w.cell? ⟨gq, 10, none⟩ = some (.int .i64 n)) :
    Calls Tryz.prog 53 #[.pointer (some ⟨gq, 0, none⟩)] w fun e w' => e = .returned (.int .i64 n) ∧ w = w' := by
  go_enter Tryz.func53, Tryz.ntmps53
  go_wp2_with fail
  go_ret
  exact ⟨rfl, rfl⟩
theorem back_v {w : World} {gq : Nat} {a v : Value} (hlt : gq < w.heap.size) (h7 : w.cell? ⟨gq, 7, none⟩ = some a) (h8 : w.cell? ⟨gq, 8, none⟩ = some v) (ha : ∃ n, a = .int .i64 n) (hv : ∃ b, v = .bool b) :
    Calls Tryz.prog 57 #[.pointer (some ⟨gq, 0, none⟩)] w fun e w' => e = .returned (.agg #[a, v]) ∧ Below w.heap.size w w' := by
  obtain ⟨n, rfl⟩ := ha
  obtain ⟨b, rfl⟩ := hv
  have hne := Nat.ne_of_lt hlt
  have HK := Lib.hid (Blk.new w 44 #[.int .i64 n, .bool b])
  have HB := Lib.hid (ba (Below.refl w.heap.size w) (.cells #[.int .i64 n, .bool b] 44))
  go_enter Tryz.func57, Tryz.ntmps57
  go_wp2_with fail
  exact bodyPost_ret (v := .agg #[.int .i64 n, .bool b]) (two_results _ _ _ 2 w.heap.size rfl rfl _ _ HK.out) rfl ⟨rfl, HB.out⟩
/-- so many noughts -/
def noughts (n : Nat) : ByteArray := ⟨(List.replicate n 0).toArray⟩
theorem noughts_size (n : Nat) : (noughts n).size = n := by show (List.replicate n (0 : UInt8)).toArray.size = n; simp
theorem zeros_text (n : Nat) {w : World} {g : Nat} (h : Blk w g 5 ((List.replicate n (0 : UInt8)).map byteV).toArray) :
    (convert 65 9 (.slice (some ⟨g, 0, none⟩) n n)).run Tryz.prog w = .ok (.string (noughts n)) w := by
  have hl : (List.replicate n (0 : UInt8)).length = n := by simp
  have := run_convert_bytes_back w 65 9 5 ⟨g, 0, none⟩ n (List.replicate n (0 : UInt8)) Tryz.underlying65 Tryz.underlying5 Tryz.underlying9 (fun j hj => by
    have e : (⟨g, 0, none⟩ : Addr).add j = ⟨g, j, none⟩ := by unfold Addr.add; split <;> simp_all
    rw [e, h.cell j]
    rw [hl] at hj
    simp [byteV, hj])
  rw [hl] at this
  exact this
set_option maxRecDepth 100000 in
theorem zeros_v (n : Nat) (w : World) (hn : n ≤ 1048576) :
    Calls Tryz.prog 60 #[.int .i64 (n : Int)] w fun e w' => e = .returned (.string (noughts n)) ∧ Below w.heap.size w w' := by
  obtain ⟨i0, hi, hz0, hz1, hz2⟩ := info_parts Tryz.info5
  have HI := Lib.hid hi
  have HZ0 := Lib.hid hz0
  have HZ1 := Lib.hid hz1
  have HZ2 := Lib.hid hz2
  clear hi hz0 hz1 hz2
  go_enter Tryz.func60, Tryz.ntmps60
  go_wp2_with (at_make; refine wpList_make_full _ rfl _ _ 65 rfl w.heap.size 5 i0 (.int .u8 0) 1 Tryz.underlying65 HI.out HZ0.out HZ1.out .i64 .i64 n n n rfl rfl rfl rfl (by rw [HZ2.out]; omega) (by unfold maxLen; omega) (Nat.le_refl _) ?_; intro w1 hrow hgrow; rw [← zeros_map] at hrow; have hblk := blk_of_own hrow; have htx := zeros_text n hblk; have HG := Lib.hid ((Below.refl w.heap.size w).grown hgrow (Nat.le_refl _) (by simp)); clear hrow hgrow hblk)
  go_ret
  exact ⟨rfl, HG.out⟩
end Go.Proofs.YtbpgblmhacpjlaaGreat
