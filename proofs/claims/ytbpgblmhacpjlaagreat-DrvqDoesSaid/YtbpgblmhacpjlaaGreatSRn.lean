/-
  The document's memory and its driver's queue: New; no condition.
-/
import Derived.Test.YtbpgblmhacpjlaaGreatSDrw
import Derived.Test.YtbpgblmhacpjlaaGreatZm
import Derived.Test.YtbpgblmhacpjlaaGreatZi
namespace Go.Proofs.YtbpgblmhacpjlaaGreat
open Go.RowKit

/-- the document's memory: its block, its bytes, at most so many accesses -/
def rmemA (gk : Nat) (xs : List UInt8) (n : Nat) : As where
  P F w := ∃ lv lg, lg.length ≤ n ∧ Mr 0 gk lv xs lg w ∧ ∀ k, F k ↔ k = gk ∨ lv.ownBlock = some k
  lt := by
    rintro F w ⟨lv, lg, -, h, hF⟩ k hk
    rcases (hF k).1 hk with rfl | e
    · exact h.lt
    · exact (h.log.lt k e).2
  keep := by
    rintro F w w' ⟨lv, lg, hl, h, hF⟩ hk
    exact ⟨lv, lg, hl, h.kept (hk _ ((hF _).2 (.inl rfl))) (fun k e => hk _ ((hF _).2 (.inr e))), hF⟩
section
variable {F : Nat → Prop} {w : World} {gk n : Nat} {xs : List UInt8}
theorem rmemA_c0 (h : (rmemA gk xs n).P F w) : w.cell? ⟨gk, 0, none⟩ = some (.string ⟨xs.toArray⟩) := by obtain ⟨lv, lg, -, h, -⟩ := h; exact h.c0
theorem rmemA_lt (h : (rmemA gk xs n).P F w) : gk < w.heap.size := by obtain ⟨lv, lg, -, h, -⟩ := h; exact h.lt
theorem rmemA_len (h : (rmemA gk xs n).P F w) : xs.length ≤ 1048576 := by obtain ⟨lv, lg, -, h, -⟩ := h; exact h.len
theorem rmemA_write (h : (rmemA gk xs n).P F w) (hn : n ≤ 4000) (a : Int) (s : ByteArray) :
    Calls Tryz.prog 12 #[.pointer (some ⟨gk, 0, none⟩), .int .i64 a, .string s] w fun e w' => e = .returned (.int .i64 (wrE xs a s)) ∧ St F w (rmemA gk (wrX xs a s) (n + 1)) w' := by
  obtain ⟨lv, lg, hl, h, hF⟩ := h
  refine (rwrite_any h (by omega) a s).mono fun e w' ⟨he, lg', hl', lv', hM, ⟨b1, b2, b3, b4, b5⟩, hL⟩ => ⟨he, fun k => k = gk ∨ lv'.ownBlock = some k, ⟨lv', lg', by omega, hM, fun _ => Iff.rfl⟩, ⟨b1, b2, b3, b4, fun k hk hno => b5 k hk (fun e => hno ((hF k).2 (.inl e)))⟩, fun k hk => ?_⟩
  rcases hk with e | e
  · exact .inl ((hF k).2 (.inl e))
  · rcases hL k e with e | e
    · exact .inl ((hF k).2 (.inr e))
    · exact .inr e
theorem rmemA_put (h : (rmemA gk xs n).P F w) (hn : n ≤ 4000) (a : Nat) (s : ByteArray) (hs : a + s.size ≤ xs.length) :
    Calls Tryz.prog 12 #[.pointer (some ⟨gk, 0, none⟩), .int .i64 (a : Int), .string s] w fun e w' => e = .returned (.int .i64 0) ∧ St F w (rmemA gk (over xs a s) (n + 1)) w' := by
  have := rmemA_write h hn (a : Int) s
  rw [wrE, wrX, if_pos (by omega), if_pos (by omega)] at this
  exact this
end
def MadeR (n : Nat) (w : World) (e : Ending) (w' : World) : Prop := ∃ g F, e = .returned (.tuple #[.pointer (some ⟨g, 0, none⟩), .int .i64 0]) ∧ (rmemA g (List.replicate n 0) 0).P F w' ∧ (∀ k, F k → w.heap.size ≤ k) ∧ Below w.heap.size w w'
theorem rmemA_new (n : Nat) (w : World) (h1 : 64 ≤ n) (h2 : n ≤ 1048576) : Calls Tryz.prog 23 #[.int .i64 n] w (MadeR n w) := by
  refine (rnew_ok n w h1 h2).mono fun e w' ⟨g, he, hM, hb⟩ => ⟨g, fun k => k = g, he, ⟨.slice none 0 0, [], Nat.le_refl _, ⟨Nat.zero_le _, hM.blk, own_base hM.log (Nat.zero_le _), hM.nil, hM.len⟩, fun k => by simp [Value.ownBlock]⟩, fun k hk => by have := hM.hB; omega, hb⟩

theorem rchk_m {F : Nat → Prop} {w : World} {gk n : Nat} {xs : List UInt8} (h : (rmemA gk xs n).P F w) (ring size drv dev : Int) :
    Calls Tryz.prog 61 #[.pointer (some ⟨gk, 0, none⟩), .agg #[.int .i64 ring, .int .i64 size, .int .i64 drv, .int .i64 dev]] w fun e w' => e = .returned (.int .i64 (layE xs ring size drv dev)) ∧ Below w.heap.size w w' := by
  obtain ⟨lv, lg, -, hM, -⟩ := h
  exact rcheck_any hM ring size drv dev
def NewR (F : Nat → Prop) (w : World) (g : Nat) (xs : List UInt8) (n : Nat) (ring size drv dev : Int) (e : Ending) (w' : World) : Prop :=
  if layB xs ring size drv dev then ∃ k, e = .returned (.tuple #[.pointer (some ⟨k, 0, none⟩), .int .i64 0]) ∧ St F w (stars [rmemA g (newX xs ring.toNat size.toNat drv.toNat dev.toNat) (n + 3), refA k g (newV ring size drv dev)]) w'
  else e = .returned (.tuple #[.pointer none, .int .i64 140]) ∧ St F w (rmemA g xs n) w'
set_option maxRecDepth 100000 in
set_option maxHeartbeats 1600000 in
theorem rnew_bad {F : Nat → Prop} {w : World} {g n : Nat} {xs : List UInt8} (h : (rmemA g xs n).P F w) (ring size drv dev : Int) (k : layB xs ring size drv dev = false) :
    Calls Tryz.prog 25 #[.pointer (some ⟨g, 0, none⟩), .agg #[.int .i64 ring, .int .i64 size, .int .i64 drv, .int .i64 dev]] w fun e w' => e = .returned (.tuple #[.pointer none, .int .i64 140]) ∧ St F w (rmemA g xs n) w' := by
  have hb1 := ba (Below.refl w.heap.size w) (.cells #[.int .i64 ring, .int .i64 size, .int .i64 drv, .int .i64 dev] 23)
  have S1 := (St.start h).below hb1
  have HC := rchk_m ((rmemA g xs n).keep h (fun k hk => hb1.block k ((rmemA g xs n).lt h k hk))) ring size drv dev
  rw [show layE xs ring size drv dev = 140 by unfold layE; rw [k]; rfl] at HC
  have HC := Lib.hid HC
  have S1 := Lib.hid S1
  clear h hb1 k
  go_enter Tryz.func25, Tryz.ntmps25
  go_wp2_with fail
  refine HC.out.mono ?_
  rintro e w1 ⟨rfl, hq⟩
  have S2 := Lib.hid (S1.out.below hq)
  clear hq
  go_wp2_with fail
  go_ret2
  exact ⟨rfl, S2.out⟩
/-- New under way -/
def RS (F : Nat → Prop) (w : World) (K : Nat) (a b c d : Value) (l : List As) (W : World) : Prop :=
  (W.cell? ⟨K, 0, none⟩ = some a ∧ W.cell? ⟨K, 1, none⟩ = some b ∧ W.cell? ⟨K, 2, none⟩ = some c ∧ W.cell? ⟨K, 3, none⟩ = some d) ∧ ∃ X g n, l = [box K 23 #[a, b, c, d], rmemA g X n] ∧ St F w (stars l) W
section
variable {F : Nat → Prop} {w W W' : World} {K g n : Nat} {a b c d : Value} {X : List UInt8} {l : List As}
theorem RS.of (h : St F w (stars [box K 23 #[a, b, c, d], rmemA g X n]) W) : RS F w K a b c d [box K 23 #[a, b, c, d], rmemA g X n] W := by
  have b := h.blk 0 (by simp) rfl
  exact ⟨⟨b.cell 0, b.cell 1, b.cell 2, b.cell 3⟩, X, g, n, rfl, h⟩
theorem RS.st (h : RS F w K a b c d l W) : St F w (stars l) W := by obtain ⟨-, -, -, -, -, h⟩ := h; exact h
theorem RS.next (h : RS F w K a b c d l W) (hb : Below W.heap.size W W') : RS F w K a b c d l W' := by
  obtain ⟨-, X, g, n, rfl, h⟩ := h
  exact RS.of (h.below hb)
theorem RS.drew (h : RS F w K a b c d l W) : RS F w K a b c d l W.drew := h.next (Below.refl _ _).drew
theorem RS.alloc (h : RS F w K a b c d l W) (o : Obj) : RS F w K a b c d l (W.alloc o) := h.next (ba (Below.refl _ _) o)
theorem RS.ex (h : RS F w K a b c d l W) : (W.cell? ⟨K, 0, none⟩ = some a ∧ W.cell? ⟨K, 1, none⟩ = some b ∧ W.cell? ⟨K, 2, none⟩ = some c ∧ W.cell? ⟨K, 3, none⟩ = some d) ∧ ∃ l, RS F w K a b c d l W := ⟨h.1, l, h⟩
theorem RS.put (h : RS F w K a b c d [box K 23 #[a, b, c, d], rmemA g X n] W) (hn' : n ≤ 4000) (p : Nat) (s : ByteArray) (hn : p + s.size ≤ X.length) :
    Calls Tryz.prog 12 #[.pointer (some ⟨g, 0, none⟩), .int .i64 (p : Int), .string s] W fun e w' => e = .returned (.int .i64 0) ∧ RS F w K a b c d [box K 23 #[a, b, c, d], rmemA g (over X p s) (n + 1)] w' := by
  obtain ⟨F1, hA, hb⟩ := h.st.at 1 (by simp)
  exact (rmemA_put hA hn' p s hn).mono fun _ _ ⟨he, hs⟩ => ⟨he, RS.of (hb _ _ hs)⟩
end
theorem made_noughts (n : Nat) : ∃ Zc : Array Value, (n ≤ 1048576 → ∀ W : World, (Instr.makeSlice 65 (.int .i64 n) (.int .i64 n)).run Tryz.prog W = .ok (.slice (some ⟨W.heap.size, 0, none⟩) n n) (W.alloc (.cells Zc 5))) ∧
    (∀ W : World, (convert 65 9 (.slice (some ⟨W.heap.size, 0, none⟩) n n)).run Tryz.prog (W.alloc (.cells Zc 5)) = .ok (.string (noughts n)) (W.alloc (.cells Zc 5))) ∧
    (∀ W : World, (convert 65 9 (.slice (some ⟨W.heap.size, 0, none⟩) n n)).run Tryz.prog (W.alloc (.cells Zc 5)).drew = .ok (.string (noughts n)) (W.alloc (.cells Zc 5)).drew) := by
  suffices h : ∀ W W' : World, W'.heap = (W.alloc (.cells (List.replicate n (Value.int .u8 0)).toArray 5)).heap → (convert 65 9 (.slice (some ⟨W.heap.size, 0, none⟩) n n)).run Tryz.prog W' = .ok (.string (noughts n)) W' from
    ⟨(List.replicate n (Value.int .u8 0)).toArray, bytes_made n, fun W => h W _ rfl, fun W => h W _ rfl⟩
  intro W W' hW
  have e : ((List.replicate n (0 : UInt8)).map byteV) = List.replicate n (Value.int .u8 0) := by rw [List.map_replicate]; rfl
  exact zeros_text n (w := W') (g := W.heap.size) (by rw [e]; unfold Blk; rw [hW]; exact Blk.new W 5 _)
theorem ints_made (n : Nat) (hn : n ≤ 32768) : ∀ W : World, (Instr.makeSlice 46 (.int .i64 n) (.int .i64 n)).run Tryz.prog W = .ok (.slice (some ⟨W.heap.size, 0, none⟩) n n) (W.alloc (.cells (intsV (List.replicate n 0)).toArray 3)) := by
  obtain ⟨i0, hi, hz0, hz1, hz2⟩ := info_parts Tryz.info3
  have hm := fun W : World => run_make W 46 3 i0 (.int .i64 0) Tryz.underlying46 hi hz0 .i64 .i64 (n : Int) (n : Int) (by omega) (by omega) (by rw [hz2]; omega) (by omega)
  rw [hz1, Nat.mul_one] at hm
  have ez : madeCells (Value.cells (.int .i64 0)) ((n : Int).toNat) = (intsV (List.replicate n 0)).toArray := by
    apply Array.ext'
    rw [Int.toNat_natCast]
    exact (toList_madeCells_one (.int .i64 0) n).trans (by simp [intsV])
  rw [ez] at hm
  intro W
  have := hm W
  simpa using this
theorem ints_row (n : Nat) (hn : n ≤ 32768) (W : World) : (W.alloc (.cells (intsV (List.replicate n 0)).toArray 3)).ownsRow 0 3 1 (.slice (some ⟨W.heap.size, 0, none⟩) n n) (List.replicate n 0).length (intsV (List.replicate n 0)) := by
  have hl : (intsV (List.replicate n 0)).length = n := by simp [intsV]
  refine ⟨by simp [intsV], .inr ⟨W.heap.size, n, (intsV (List.replicate n 0)).toArray, by simp, Nat.zero_le _, Blk.new W _ _, by simp, by unfold maxLen; omega, by simp [intsV], ?_⟩⟩
  simp only [List.length_replicate, Nat.mul_one]
  exact List.take_of_length_le (by simp [intsV])
theorem ref_new {F : Nat → Prop} {w W : World} {g n : Nat} {Y : List UInt8} (h : St F w (stars [rmemA g Y n]) W) (ring size drv dev : Nat)
    (hR : ∀ W : World, (W.alloc (.cells (intsV (List.replicate size 0)).toArray 3)).ownsRow 0 3 1 (.slice (some ⟨W.heap.size, 0, none⟩) size size) (List.replicate size 0).length (intsV (List.replicate size 0))) (t : TypeId) (cs : Array Value) :
    St F w (stars [rmemA g Y n, refA (W.heap.size + 1 + 1) g (newV ring size drv dev)]) (((W.alloc (.cells cs t)).alloc (.cells (intsV (List.replicate size 0)).toArray 3)).alloc (.cells #[.pointer (some ⟨g, 0, none⟩), .int .i64 (ring : Int), .int .i64 (size : Int), .int .i64 (drv : Int), .int .i64 (dev : Int), .int .i64 0, .bool true, .int .i64 0, .bool true, .int .i64 0, .bool true, .int .i64 0, .slice (some ⟨W.heap.size + 1, 0, none⟩) size size] 48)).drew := by
  have z1 : (W.alloc (.cells cs t)).heap.size = W.heap.size + 1 := by simp
  have z2 : ((W.alloc (.cells cs t)).alloc (.cells (intsV (List.replicate size 0)).toArray 3)).heap.size = W.heap.size + 1 + 1 := by simp
  have hr := hR (W.alloc (.cells cs t))
  rw [z1] at hr
  have h1 := (h.alloc (.cells cs t)).alloc (.cells (intsV (List.replicate size 0)).toArray 3)
  have hbl := ba (ba (Below.refl W.heap.size W) (.cells cs t)) (.cells (intsV (List.replicate size 0)).toArray 3)
  have hk := Blk.new ((W.alloc (.cells cs t)).alloc (.cells (intsV (List.replicate size 0)).toArray 3)) 48 ((newV ring size drv dev).cellsR g (.slice (some ⟨W.heap.size + 1, 0, none⟩) size size))
  rw [z2] at hk
  have hA : (refA (W.heap.size + 1 + 1) g (newV ring size drv dev)).P (fun k => k = W.heap.size + 1 + 1 ∨ (Value.slice (some ⟨W.heap.size + 1, 0, none⟩) size size).ownBlock = some k) _ := ⟨_, hk, hr.alloc _, fun _ => Iff.rfl⟩
  have h2 := h.add (ba hbl _) hA (fun k hk => by
    rcases hk with e | e
    · omega
    · have : W.heap.size + 1 = k := by simpa [Value.ownBlock] using e
      omega)
  have h3 := h2.drew
  exact h3.mono fun F e => sep_swap (A := refA (W.heap.size + 1 + 1) g (newV ring size drv dev)) (B := rmemA g Y n) e
set_option maxRecDepth 100000 in
set_option maxHeartbeats 3200000 in
theorem rnew_good {F : Nat → Prop} {w : World} {g n : Nat} {xs : List UInt8} (h : (rmemA g xs n).P F w) (hn : n ≤ 100) (ring size drv dev : Nat) (k : layB xs ring size drv dev = true) :
    Calls Tryz.prog 25 #[.pointer (some ⟨g, 0, none⟩), .agg #[.int .i64 (ring : Int), .int .i64 (size : Int), .int .i64 (drv : Int), .int .i64 (dev : Int)]] w fun e w' => ∃ k, e = .returned (.tuple #[.pointer (some ⟨k, 0, none⟩), .int .i64 0]) ∧ St F w (stars [rmemA g (newX xs ring size drv dev) (n + 3), refA k g (newV ring size drv dev)]) w' := by
  have hx := rmemA_len h
  obtain ⟨⟨a1, a2⟩, ⟨b1, b2⟩, ⟨c1, c2⟩, d1, d2⟩ := lay_facts k
  have hb1 := ba (Below.refl w.heap.size w) (.cells #[.int .i64 (ring : Int), .int .i64 (size : Int), .int .i64 (drv : Int), .int .i64 (dev : Int)] 23)
  have HC := rchk_m ((rmemA g xs n).keep h (fun k hk => hb1.block k ((rmemA g xs n).lt h k hk))) ring size drv dev
  rw [show layE xs ring size drv dev = 0 by unfold layE; rw [k]; rfl] at HC
  have S1 : St F w (stars [box w.heap.size 23 #[.int .i64 (ring : Int), .int .i64 (size : Int), .int .i64 (drv : Int), .int .i64 (dev : Int)], rmemA g xs n]) (w.alloc (.cells #[.int .i64 (ring : Int), .int .i64 (size : Int), .int .i64 (drv : Int), .int .i64 (dev : Int)] 23)) :=
    ((St.start h).new 23 #[.int .i64 (ring : Int), .int .i64 (size : Int), .int .i64 (drv : Int), .int .i64 (dev : Int)]).mono fun F e => stars_pair e
  have v1 : IntKind.i64.wrap (16 * (size : Int)) = 16 * (size : Int) := by rw [IntKind.wrap_i64]; omega
  obtain ⟨Z1, hZ1, hP1, hC1⟩ := made_noughts (size * 16)
  have hZ1 := hZ1 (by omega)
  have en : ((size * 16 : Nat) : Int) = 16 * (size : Int) := by omega
  rw [en] at hZ1
  obtain ⟨Z4, hZ4, hP4, hC4⟩ := made_noughts 4
  have hZ4 : ∀ W : World, (Instr.makeSlice 65 (.int .i64 4) (.int .i64 4)).run Tryz.prog W = .ok (.slice (some ⟨W.heap.size, 0, none⟩) 4 4) (W.alloc (.cells Z4 5)) := hZ4 (by omega)
  have hI := ints_made size (by omega)
  have hR := fun W => ints_row size (by omega) W
  obtain ⟨K, hK⟩ : ∃ K, w.heap.size = K := ⟨_, rfl⟩
  have HW1 : ∀ W, RS F w K (.int .i64 (ring : Int)) (.int .i64 (size : Int)) (.int .i64 (drv : Int)) (.int .i64 (dev : Int)) [box K 23 #[.int .i64 (ring : Int), .int .i64 (size : Int), .int .i64 (drv : Int), .int .i64 (dev : Int)], rmemA g xs n] W →
      Calls Tryz.prog 12 #[.pointer (some ⟨g, 0, none⟩), .int .i64 (ring : Int), .string (noughts (size * 16))] W fun e w' => e = .returned (.int .i64 0) ∧ RS F w K (.int .i64 (ring : Int)) (.int .i64 (size : Int)) (.int .i64 (drv : Int)) (.int .i64 (dev : Int)) [box K 23 #[.int .i64 (ring : Int), .int .i64 (size : Int), .int .i64 (drv : Int), .int .i64 (dev : Int)], rmemA g (over xs ring (noughts (size * 16))) (n + 1)] w' :=
    fun W hS => hS.put (by omega) ring _ (by rw [noughts_size]; omega)
  obtain ⟨X1, hX1⟩ : ∃ X, over xs ring (noughts (size * 16)) = X := ⟨_, rfl⟩
  have l1 : X1.length = xs.length := by rw [← hX1, over_length]; rw [noughts_size]; omega
  rw [hX1] at HW1
  have HW2 : ∀ W, RS F w K (.int .i64 (ring : Int)) (.int .i64 (size : Int)) (.int .i64 (drv : Int)) (.int .i64 (dev : Int)) [box K 23 #[.int .i64 (ring : Int), .int .i64 (size : Int), .int .i64 (drv : Int), .int .i64 (dev : Int)], rmemA g X1 (n + 1)] W →
      Calls Tryz.prog 12 #[.pointer (some ⟨g, 0, none⟩), .int .i64 (drv : Int), .string (noughts 4)] W fun e w' => e = .returned (.int .i64 0) ∧ RS F w K (.int .i64 (ring : Int)) (.int .i64 (size : Int)) (.int .i64 (drv : Int)) (.int .i64 (dev : Int)) [box K 23 #[.int .i64 (ring : Int), .int .i64 (size : Int), .int .i64 (drv : Int), .int .i64 (dev : Int)], rmemA g (over X1 drv (noughts 4)) (n + 2)] w' :=
    fun W hS => hS.put (by omega) drv _ (by rw [noughts_size]; omega)
  obtain ⟨X2, hX2⟩ : ∃ X, over X1 drv (noughts 4) = X := ⟨_, rfl⟩
  have l2 : X2.length = xs.length := by rw [← hX2, over_length]; exact l1; rw [noughts_size]; omega
  rw [hX2] at HW2
  have HW3 : ∀ W, RS F w K (.int .i64 (ring : Int)) (.int .i64 (size : Int)) (.int .i64 (drv : Int)) (.int .i64 (dev : Int)) [box K 23 #[.int .i64 (ring : Int), .int .i64 (size : Int), .int .i64 (drv : Int), .int .i64 (dev : Int)], rmemA g X2 (n + 2)] W →
      Calls Tryz.prog 12 #[.pointer (some ⟨g, 0, none⟩), .int .i64 (dev : Int), .string (noughts 4)] W fun e w' => e = .returned (.int .i64 0) ∧ RS F w K (.int .i64 (ring : Int)) (.int .i64 (size : Int)) (.int .i64 (drv : Int)) (.int .i64 (dev : Int)) [box K 23 #[.int .i64 (ring : Int), .int .i64 (size : Int), .int .i64 (drv : Int), .int .i64 (dev : Int)], rmemA g (over X2 dev (noughts 4)) (n + 3)] w' :=
    fun W hS => hS.put (by omega) dev _ (by rw [noughts_size]; omega)
  have hX3 : over X2 dev (noughts 4) = newX xs ring size drv dev := by rw [← hX2, ← hX1]; rfl
  rw [hX3] at HW3
  rw [hK] at S1
  have HK := Lib.hid hK
  have HC := Lib.hid HC
  have S1 := Lib.hid S1
  have HW1 := Lib.hid HW1
  have HW2 := Lib.hid HW2
  have HW3 := Lib.hid HW3
  have HZ1 := Lib.hid hZ1
  have HZ4 := Lib.hid hZ4
  have HC1 := Lib.hid hC1
  have HP1 := Lib.hid hP1
  have HP4 := Lib.hid hP4
  have HC4 := Lib.hid hC4
  have HI := Lib.hid hI
  have HR := Lib.hid hR
  have hsz : (size : Int) ≤ 32768 := a2
  generalize newX xs ring size drv dev = Y at *
  clear h hb1 k hx a1 a2 b1 b2 c1 c2 d1 d2 hX1 hX2 hX3 l1 l2 hZ1 hZ4 hC1 hC4 hP1 hP4 hI hR en hn
  go_enter Tryz.func25, Tryz.ntmps25
  go_wp2_with fail
  refine HC.out.mono ?_
  rintro e w1 ⟨rfl, hq⟩
  have Q1 := Lib.hid (RS.of (S1.out.below hq))
  clear hq
  go_wp2_with fail
  have hz := HZ1.out
  have hc := HC1.out
  have hp := HP1.out
  go_region_held (fun W => (W.cell? ⟨K, 0, none⟩ = some (.int .i64 (ring : Int)) ∧ W.cell? ⟨K, 1, none⟩ = some (.int .i64 (size : Int)) ∧ W.cell? ⟨K, 2, none⟩ = some (.int .i64 (drv : Int)) ∧ W.cell? ⟨K, 3, none⟩ = some (.int .i64 (dev : Int))) ∧ ∃ l, RS F w K (.int .i64 (ring : Int)) (.int .i64 (size : Int)) (.int .i64 (drv : Int)) (.int .i64 (dev : Int)) l W)
    ((with_reducible (first | exact Q1.out.drew.ex | exact (Q1.out.alloc _).drew.ex | exact D2.ex)))
    ((go_at_call 12; ((with_reducible refine (HW1.out _ (Q1.out.alloc _).drew).mono ?_); rintro e w2 ⟨rfl, D2⟩)))
  clear hz hc hp
  have Q2 := Lib.hid D2
  clear D2 Q1
  go_wp2_with fail
  have hz := HZ4.out
  have hc := HC4.out
  have hp := HP4.out
  go_region_held (fun W => (W.cell? ⟨K, 0, none⟩ = some (.int .i64 (ring : Int)) ∧ W.cell? ⟨K, 1, none⟩ = some (.int .i64 (size : Int)) ∧ W.cell? ⟨K, 2, none⟩ = some (.int .i64 (drv : Int)) ∧ W.cell? ⟨K, 3, none⟩ = some (.int .i64 (dev : Int))) ∧ ∃ l, RS F w K (.int .i64 (ring : Int)) (.int .i64 (size : Int)) (.int .i64 (drv : Int)) (.int .i64 (dev : Int)) l W)
    ((with_reducible (first | exact Q2.out.drew.ex | exact (Q2.out.alloc _).drew.ex | exact D2.ex)))
    ((go_at_call 12; ((with_reducible refine (HW2.out _ (Q2.out.alloc _).drew).mono ?_); rintro e w3 ⟨rfl, D2⟩)))
  clear hz hc hp
  have Q3 := Lib.hid D2
  clear D2 Q2
  go_wp2_with fail
  have hz := HZ4.out
  have hc := HC4.out
  have hp := HP4.out
  go_region_held (fun W => (W.cell? ⟨K, 0, none⟩ = some (.int .i64 (ring : Int)) ∧ W.cell? ⟨K, 1, none⟩ = some (.int .i64 (size : Int)) ∧ W.cell? ⟨K, 2, none⟩ = some (.int .i64 (drv : Int)) ∧ W.cell? ⟨K, 3, none⟩ = some (.int .i64 (dev : Int))) ∧ ∃ l, RS F w K (.int .i64 (ring : Int)) (.int .i64 (size : Int)) (.int .i64 (drv : Int)) (.int .i64 (dev : Int)) l W)
    ((with_reducible (first | exact Q3.out.drew.ex | exact (Q3.out.alloc _).drew.ex | exact D2.ex)))
    ((go_at_call 12; ((with_reducible refine (HW3.out _ (Q3.out.alloc _).drew).mono ?_); rintro e w4 ⟨rfl, D2⟩)))
  clear hz hc hp
  have b4 := D2.st.blk 0 (by simp) rfl
  obtain ⟨e0, e1, e2, e3, -, -, -, -⟩ := blk4 b4
  have hlt := b4.lt
  have hne := Nat.ne_of_lt hlt
  have Q4 := Lib.hid D2.st.pop
  clear D2 Q3 b4 HW1 HW2 HW3 HZ1 HZ4 HC1 HC4 HC S1 HK hK
  have hi := HI.out
  go_wp2_with fail
  go_region
  go_wp2_with fail
  go_ret2
  exact ⟨_, rfl, ref_new Q4.out ring size drv dev HR.out _ _⟩
theorem rnew_v {F : Nat → Prop} {w : World} {g n : Nat} {xs : List UInt8} (h : (rmemA g xs n).P F w) (hn : n ≤ 100) (ring size drv dev : Int) :
    Calls Tryz.prog 25 #[.pointer (some ⟨g, 0, none⟩), .agg #[.int .i64 ring, .int .i64 size, .int .i64 drv, .int .i64 dev]] w (NewR F w g xs n ring size drv dev) := by
  unfold NewR
  cases k : layB xs ring size drv dev
  · exact rnew_bad h ring size drv dev k
  · obtain ⟨⟨a1, a2⟩, ⟨b1, b2⟩, ⟨c1, c2⟩, d1, d2⟩ := lay_facts k
    obtain ⟨r, rfl⟩ := Int.eq_ofNat_of_zero_le b1
    obtain ⟨z, rfl⟩ := Int.eq_ofNat_of_zero_le (by omega : 0 ≤ size)
    obtain ⟨x, rfl⟩ := Int.eq_ofNat_of_zero_le c1
    obtain ⟨y, rfl⟩ := Int.eq_ofNat_of_zero_le d1
    exact (rnew_good h hn r z x y k).mono fun _ _ hh => by rw [if_pos rfl]; exact hh
end Go.Proofs.YtbpgblmhacpjlaaGreat
