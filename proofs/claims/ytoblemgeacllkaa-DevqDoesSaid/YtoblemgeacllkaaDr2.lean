/-
  The document's queue while a call reads: its block, its memory's bytes; at, bit, next; no condition beyond the numbers' sizes.
-/
import Derived.Test.YtoblemgeacllkaaDl2
namespace Go.Proofs.Ytoblemgeacllkaa
open Go.RowKit

structure Rq (gx gk : Nat) (q : Qs) (xs : List UInt8) (w : World) : Prop where
  blk : Blk w gx 48 (q.cellsR gk)
  mem : ∃ (B : Nat) (lv : Value) (lg : List Acc), Mr B gk lv xs lg w
section
variable {gx gk : Nat} {q : Qs} {xs : List UInt8} {w w' : World}
theorem Rq.below (h : Rq gx gk q xs w) (hb : Below w.heap.size w w') : Rq gx gk q xs w' := by
  obtain ⟨B, lv, lg, m⟩ := h.mem
  exact ⟨h.blk.same (hb.block _ h.blk.lt), ⟨B, lv, lg, m.below hb⟩⟩
theorem Rq.lt (h : Rq gx gk q xs w) : gx < w.heap.size := h.blk.lt
theorem Rq.ltk (h : Rq gx gk q xs w) : gk < w.heap.size := by obtain ⟨B, lv, lg, m⟩ := h.mem; exact m.lt
theorem Rq.c0 (h : Rq gx gk q xs w) : w.cell? ⟨gk, 0, none⟩ = some (.string ⟨xs.toArray⟩) := by obtain ⟨B, lv, lg, m⟩ := h.mem; exact m.c0
theorem Rq.len (h : Rq gx gk q xs w) : xs.length ≤ 1048576 := by obtain ⟨B, lv, lg, m⟩ := h.mem; exact m.len
theorem Rq.may (h : Rq gx gk q xs w) (a n : Int) : Calls Try.prog 40 #[.pointer (some ⟨gk, 0, none⟩), .int .i64 a, .int .i64 n] w fun e w' => e = .returned (.bool (mayB xs a n)) ∧ w' = w := by
  obtain ⟨B, lv, lg, m⟩ := h.mem
  exact (rmay_any m a n).mono fun e w' ⟨h1, h2⟩ => ⟨h1, h2.symm⟩
end
theorem cut_extract (xs : List UInt8) (n k : Nat) : (⟨xs.toArray⟩ : ByteArray).extract n (n + k) = ⟨((xs.drop n).take k).toArray⟩ := by
  apply ByteArray.ext
  rw [ByteArray.data_extract]
  apply Array.toList_inj.1
  simp [List.extract, Nat.add_sub_cancel_left]
/-- a variable of the call's own is laid anew -/
theorem put4B {w W : World} {k : Nat} {t : TypeId} {a0 a1 a2 a3 : Value} (hb : Below w.heap.size w W) (hk : Blk W k t #[a0, a1, a2, a3]) (hE : w.heap.size ≤ k) (b0 b1 b2 b3 : Value) :
    Below w.heap.size w ((((W.setCell ⟨k, 0, none⟩ b0).setCell ⟨k, 1, none⟩ b1).setCell ⟨k, 2, none⟩ b2).setCell ⟨k, 3, none⟩ b3) ∧ Blk ((((W.setCell ⟨k, 0, none⟩ b0).setCell ⟨k, 1, none⟩ b1).setCell ⟨k, 2, none⟩ b2).setCell ⟨k, 3, none⟩ b3) k t #[b0, b1, b2, b3] := by
  have k4 := (((hk.put 0 b0).put 1 b1).put 2 b2).put 3 b3
  exact ⟨(((hb.setCell hE _).setCell hE _).setCell hE _).setCell hE _, by simpa using k4⟩
theorem put3B {w W : World} {k : Nat} {t : TypeId} {a0 a1 a2 : Value} (hb : Below w.heap.size w W) (hk : Blk W k t #[a0, a1, a2]) (hE : w.heap.size ≤ k) (b0 b1 b2 : Value) :
    Below w.heap.size w (((W.setCell ⟨k, 0, none⟩ b0).setCell ⟨k, 1, none⟩ b1).setCell ⟨k, 2, none⟩ b2) ∧ Blk (((W.setCell ⟨k, 0, none⟩ b0).setCell ⟨k, 1, none⟩ b1).setCell ⟨k, 2, none⟩ b2) k t #[b0, b1, b2] := by
  have k4 := ((hk.put 0 b0).put 1 b1).put 2 b2
  exact ⟨((hb.setCell hE _).setCell hE _).setCell hE _, by simpa using k4⟩
theorem put2B {w W : World} {k : Nat} {t : TypeId} {a0 a1 : Value} (hb : Below w.heap.size w W) (hk : Blk W k t #[a0, a1]) (hE : w.heap.size ≤ k) (b0 b1 : Value) :
    Below w.heap.size w ((W.setCell ⟨k, 0, none⟩ b0).setCell ⟨k, 1, none⟩ b1) ∧ Blk ((W.setCell ⟨k, 0, none⟩ b0).setCell ⟨k, 1, none⟩ b1) k t #[b0, b1] := by
  have k4 := (hk.put 0 b0).put 1 b1
  exact ⟨(hb.setCell hE _).setCell hE _, by simpa using k4⟩
set_option maxRecDepth 100000 in
set_option maxHeartbeats 1600000 in
theorem rat_any {gx gk : Nat} {q : Qs} {xs : List UInt8} {w : World} (h : Rq gx gk q xs w) (n : Nat) (hn : n + 16 ≤ xs.length) :
    Calls Try.prog 44 #[.pointer (some ⟨gx, 0, none⟩), .int .i64 (n : Int)] w fun e w' => e = .returned (deAt xs n).v ∧ Below w.heap.size w w' := by
  have HP := fun W => rparse_ok (cut16 xs n) (cut16_size xs n hn) W
  have HP : ∀ W, Calls Try.prog 67 #[.string (cut16 xs n)] W fun e w' => e = .returned (.tuple #[(deAt xs n).v, .int .i64 0]) ∧ Below W.heap.size W w' := HP
  have p0 : w.cell? ⟨gx, 0, none⟩ = some (.pointer (some ⟨gk, 0, none⟩)) := h.blk.cell 0
  have m0 := h.c0
  have hl := h.len
  have lt1 := h.lt
  have lt2 := h.ltk
  have ne1 := Nat.ne_of_lt lt1
  have ne2 := Nat.ne_of_lt lt2
  have hE : (⟨xs.toArray⟩ : ByteArray).extract n (n + 16) = cut16 xs n := cut_extract xs n 16
  have hs : (⟨xs.toArray⟩ : ByteArray).size = xs.length := by show xs.toArray.size = _; simp
  obtain ⟨d, hd⟩ : ∃ d, deAt xs n = d := ⟨_, rfl⟩
  rw [hd] at HP ⊢
  obtain ⟨S, hS⟩ : ∃ S, cut16 xs n = S := ⟨_, rfl⟩
  rw [hS] at HP hE
  obtain ⟨S0, hS0⟩ : ∃ S0 : ByteArray, ⟨xs.toArray⟩ = S0 := ⟨_, rfl⟩
  rw [hS0] at hE hs m0
  unfold De.v at HP
  have HP := Lib.hid HP
  have v1 : IntKind.i64.wrap ((n : Int) + 16) = (n : Int) + 16 := by rw [IntKind.wrap_i64]; omega
  have v2 : (n : Int) + 16 ≤ (S0.size : Int) := by omega
  have v3 : n + 16 ≤ S0.size := by omega
  have v4 : ¬ (S0.size : Int) < (n : Int) + 16 := by omega
  have v5 : ((n : Int) + 16).toNat = n + 16 := by omega
  clear h hd hS hS0 hs hl hn
  go_enter Try.func44, Try.ntmps44
  go_wp2_with fail
  refine (HP.out _).mono ?_
  rintro e w1 ⟨rfl, hq⟩
  have hb := b0 (ba (Below.refl _ _) _) hq
  have k2 := (Blk.new w 35 #[.int .u64 0, .int .u32 0, .int .i64 0, .int .i64 0]).same (hq.block _ (Blk.new w 35 _).lt)
  clear hq p0 m0 lt1 lt2 ne1 ne2 HP hE v1 v2 v3 v4 v5
  have z0 := k2.frozen 0
  have z1 := k2.frozen 1
  have z2 := k2.frozen 2
  have z3 := k2.frozen 3
  have c0 := k2.cell 0
  have c1 := k2.cell 1
  have c2 := k2.cell 2
  have c3 := k2.cell 3
  simp only [List.getElem?_toArray, List.getElem?_cons_zero, List.getElem?_cons_succ] at c0 c1 c2 c3
  have hlt2 := k2.lt
  have hne2 := Nat.ne_of_lt hlt2
  have HF := Lib.hid (put4B hb k2 (Nat.le_refl _) (.int .u64 (d.a : Int)) (.int .u32 (d.n : Int)) (.int .i64 (d.id : Int)) (.int .i64 (d.f : Int)))
  go_wp2_with fail
  exact bodyPost_ret (v := d.v) (four_results _ _ _ 4 w.heap.size rfl rfl _ _ _ _ (HF.out.2.alloc _)) rfl ⟨rfl, ba HF.out.1 _⟩
theorem rbit_any (d : De) (h : d.Ok) (b : Int) (hb : b = 2 ∨ b = 4) (r : Bool) (hr : d.bit b.toNat = r) (w : World) :
    Calls Try.prog 69 #[d.v, .int .i64 b] w fun e w' => e = .returned (.bool r) ∧ Below w.heap.size w w' := by
  have hf := h.f
  unfold De.bit at hr
  unfold De.v
  obtain ⟨f, hf0⟩ : ∃ f, d.f = f := ⟨_, rfl⟩
  rw [hf0] at hr hf ⊢
  generalize (d.a : Int) = a
  generalize (d.n : Int) = n
  generalize (d.id : Int) = id
  rcases hb with rfl | rfl
  · have hr : (f / 2 % 2 == 1) = r := hr
    obtain ⟨X, hX, e1⟩ : ∃ X : Nat, f / 2 = X ∧ (f : Int) / 2 = (X : Int) := ⟨_, rfl, by omega⟩
    have e2 : (f : Int).tdiv 2 = (X : Int) := by rw [Int.tdiv_eq_ediv_of_nonneg (by omega)]; exact e1
    obtain ⟨Y, hY, e3⟩ : ∃ Y : Nat, X % 2 = Y ∧ (X : Int) % 2 = (Y : Int) := ⟨_, rfl, by omega⟩
    have e4 : (X : Int).tmod 2 = (Y : Int) := by rw [Int.tmod_eq_emod_of_nonneg (by omega)]; exact e3
    have e5 : ((Y : Int) == 1) = r := by rw [← hr, hX, hY, Bool.eq_iff_iff]; simp; omega
    have hf1 : (f : Int) < 65536 := by omega
    clear hX hY hr hf h hf0
    go_enter Try.func69, Try.ntmps69
    go_wp2_with fail
    go_ret
    exact ⟨rfl, ba (Below.refl _ _) _⟩
  · have hr : (f / 4 % 2 == 1) = r := hr
    obtain ⟨X, hX, e1⟩ : ∃ X : Nat, f / 4 = X ∧ (f : Int) / 4 = (X : Int) := ⟨_, rfl, by omega⟩
    have e2 : (f : Int).tdiv 4 = (X : Int) := by rw [Int.tdiv_eq_ediv_of_nonneg (by omega)]; exact e1
    obtain ⟨Y, hY, e3⟩ : ∃ Y : Nat, X % 2 = Y ∧ (X : Int) % 2 = (Y : Int) := ⟨_, rfl, by omega⟩
    have e4 : (X : Int).tmod 2 = (Y : Int) := by rw [Int.tmod_eq_emod_of_nonneg (by omega)]; exact e3
    have e5 : ((Y : Int) == 1) = r := by rw [← hr, hX, hY, Bool.eq_iff_iff]; simp; omega
    have hf1 : (f : Int) < 65536 := by omega
    clear hX hY hr hf h hf0
    go_enter Try.func69, Try.ntmps69
    go_wp2_with fail
    go_ret
    exact ⟨rfl, ba (Below.refl _ _) _⟩
/-- next under way -/
def NF (gx gk : Nat) (q : Qs) (xs : List UInt8) (w : World) (a v : Value) (w' : World) : Prop :=
  (w'.cell? ⟨w.heap.size, 0, none⟩ = some a ∧ w'.cell? ⟨w.heap.size, 1, none⟩ = some v ∧ w'.cell? ⟨gx, 2, none⟩ = some (.int .i64 (q.size : Int))) ∧ Rq gx gk q xs w ∧ Below w.heap.size w w' ∧ Blk w' w.heap.size 46 #[a, v] ∧ Blk w' (w.heap.size + 1) 46 #[.int .i64 0, .bool false]
section
variable {gx gk : Nat} {q : Qs} {xs : List UInt8} {w w1 w' : World} {a v : Value}
theorem NF.of (h : Rq gx gk q xs w) (hb : Below w.heap.size w w') (k : Blk w' w.heap.size 46 #[a, v]) (r : Blk w' (w.heap.size + 1) 46 #[.int .i64 0, .bool false]) : NF gx gk q xs w a v w' := ⟨⟨k.cell 0, k.cell 1, (h.below hb).blk.cell 2⟩, h, hb, k, r⟩
theorem NF.next (h : NF gx gk q xs w a v w1) (hq : Below w1.heap.size w1 w') : NF gx gk q xs w a v w' := NF.of h.2.1 (b0 h.2.2.1 hq) (h.2.2.2.1.same (hq.block _ h.2.2.2.1.lt)) (h.2.2.2.2.same (hq.block _ h.2.2.2.2.lt))
theorem NF.drew (h : NF gx gk q xs w a v w1) : NF gx gk q xs w a v w1.drew := h.next (Below.refl _ _).drew
theorem NF.alloc (h : NF gx gk q xs w a v w1) (o : Obj) : NF gx gk q xs w a v (w1.alloc o) := h.next (ba (Below.refl _ _) _)
theorem NF.stored (h : NF gx gk q xs w a v w1) {k : Nat} {x y : Value} (hk : Blk w1 k 46 #[x, y]) (hlt : w.heap.size + 1 < k) (p r : Value) : NF gx gk q xs w a v ((w1.setCell ⟨k, 0, none⟩ p).setCell ⟨k, 1, none⟩ r) ∧ Blk ((w1.setCell ⟨k, 0, none⟩ p).setCell ⟨k, 1, none⟩ r) k 46 #[p, r] := by
  obtain ⟨b, n⟩ := put2B h.2.2.1 hk (by omega) p r
  exact ⟨NF.of h.2.1 b ((h.2.2.2.1.other (by omega) 0 p).other (by omega) 1 r) ((h.2.2.2.2.other (by omega) 0 p).other (by omega) 1 r), n⟩
theorem NF.store (h : NF gx gk q xs w a v w1) {k : Nat} {x y : Value} (hk : Blk w1 k 46 #[x, y]) (hlt : w.heap.size + 1 < k) (p r : Value) : NF gx gk q xs w a v ((w1.setCell ⟨k, 0, none⟩ p).setCell ⟨k, 1, none⟩ r) := (h.stored hk hlt p r).1
end
set_option maxHeartbeats 1600000 in
theorem rafter_any {gx gk : Nat} {q : Qs} {xs : List UInt8} {w : World} (h : Rq gx gk q xs w) (a k : Nat) (v : Bool) (h1 : 1 ≤ q.size) (h2 : q.size ≤ 32768) (ha : a < q.size) (hk : k ≤ q.size) :
    Calls Try.prog 46 #[.pointer (some ⟨gx, 0, none⟩), .agg #[.int .i64 (a : Int), .bool v], .int .i64 (k : Int)] w fun e w' => e = .returned (.agg #[.int .i64 (stA q.size a k : Int), .bool (stW q.size a k v)]) ∧ Below w.heap.size w w' := by
  obtain ⟨e0, e1, e2⟩ := nx_st v h1 h2 ha hk
  have HN := fun W => Sp.rnext_any (a : Int) (q.size : Int) (k : Int) v W
  rw [e0, e1, e2] at HN
  unfold Sp.R2 at HN
  generalize (stA q.size a k : Int) = A at *
  generalize stW q.size a k v = V at *
  have HN := Lib.hid HN
  have p2 : w.cell? ⟨gx, 2, none⟩ = some (.int .i64 (q.size : Int)) := h.blk.cell 2
  have hlt := h.lt
  have hne := Nat.ne_of_lt hlt
  have H := Lib.hid h
  clear e0 e1 e2 h1 h2 ha hk h
  go_enter Try.func46, Try.ntmps46
  go_wp2_with fail
  have C0 := Lib.hid (NF.of (w := w) H.out (ba (ba (Below.refl _ _) _) _) ((Blk.new w 46 #[.int .i64 (a : Int), .bool v]).alloc _) (Sp.Blk.new2 w (.cells #[.int .i64 (a : Int), .bool v] 46) 46 #[.int .i64 0, .bool false]))
  go_region_held3 (fun w' => (w'.cell? ⟨w.heap.size, 0, none⟩ = some (.int .i64 (a : Int)) ∧ w'.cell? ⟨w.heap.size, 1, none⟩ = some (.bool v) ∧ w'.cell? ⟨gx, 2, none⟩ = some (.int .i64 (q.size : Int))) ∧ Rq gx gk q xs w ∧ Below w.heap.size w w' ∧ Blk w' w.heap.size 46 #[.int .i64 (a : Int), .bool v] ∧ Blk w' (w.heap.size + 1) 46 #[.int .i64 0, .bool false])
    ((refine (id (α := NF gx gk q xs w (.int .i64 (a : Int)) (.bool v) _) ?_); with_reducible (first | exact C0.out.drew | exact (C0.out.alloc _).drew | exact NF.next C0.out.drew hq | exact NF.next (C0.out.alloc _).drew hq | exact NF.alloc (NF.next C0.out.drew hq) _ | exact NF.store (NF.next (C0.out.alloc _).drew hq) hk1 (by omega) _ _)))
    ((go_at_call 71; ((with_reducible refine (HN.out _).mono ?_); rintro e w' ⟨rfl, hq⟩; obtain ⟨hc1, hf1⟩ := bcell hq; have hz1 := hq.size; (try simp at hz1); (try (have hk1 := (blk_third w _ _ _ _).same (hq.block _ (by simp)))))))
  · have hA := NF.alloc (NF.next C0.out.drew hq) (.cells #[.int .i64 A, .bool V] 46)
    have hk := Blk.new w' 46 #[.int .i64 A, .bool V]
    obtain ⟨W, hW⟩ : ∃ W, w'.alloc (.cells #[.int .i64 A, .bool V] 46) = W := ⟨_, rfl⟩
    obtain ⟨K, hK⟩ : ∃ K, w'.heap.size = K := ⟨_, rfl⟩
    rw [hW] at hA hk ⊢
    rw [hK] at hk ⊢
    have q0 := hk.cell 0
    have q1 := hk.cell 1
    have r := hA.2.2.2.2
    have x0 := r.cell 0
    have x1 := r.cell 1
    have z0 := r.frozen 0
    have z1 := r.frozen 1
    simp only [List.getElem?_toArray, List.getElem?_cons_zero, List.getElem?_cons_succ] at q0 q1 x0 x1
    have HF := Lib.hid (put2B hA.2.2.1 r (by omega) (.int .i64 A) (.bool V))
    clear hA hk r hW hK hq hc1 hf1 hz1
    go_wp2_with fail
    exact bodyPost_ret (v := .agg #[.int .i64 A, .bool V]) (two_results _ _ _ 6 (w.heap.size + 1) rfl rfl _ _ HF.out.2) rfl ⟨rfl, HF.out.1⟩
  · obtain ⟨hA, hk⟩ := NF.stored (NF.next (C0.out.alloc _).drew hq) hk1 (by omega) (.int .i64 A) (.bool V)
    obtain ⟨W, hW⟩ : ∃ W, (w'.setCell ⟨w.heap.size + 1 + 1, 0, none⟩ (.int .i64 A)).setCell ⟨w.heap.size + 1 + 1, 1, none⟩ (.bool V) = W := ⟨_, rfl⟩
    obtain ⟨K, hK⟩ : ∃ K, w.heap.size + 1 + 1 = K := ⟨_, rfl⟩
    rw [hW] at hA hk ⊢
    rw [hK] at hk ⊢
    have q0 := hk.cell 0
    have q1 := hk.cell 1
    have r := hA.2.2.2.2
    have x0 := r.cell 0
    have x1 := r.cell 1
    have z0 := r.frozen 0
    have z1 := r.frozen 1
    simp only [List.getElem?_toArray, List.getElem?_cons_zero, List.getElem?_cons_succ] at q0 q1 x0 x1
    have HF := Lib.hid (put2B hA.2.2.1 r (by omega) (.int .i64 A) (.bool V))
    clear hA hk r hW hK hq hc1 hf1 hz1
    go_wp2_with fail
    exact bodyPost_ret (v := .agg #[.int .i64 A, .bool V]) (two_results _ _ _ 6 (w.heap.size + 1) rfl rfl _ _ HF.out.2) rfl ⟨rfl, HF.out.1⟩
end Go.Proofs.Ytoblemgeacllkaa
