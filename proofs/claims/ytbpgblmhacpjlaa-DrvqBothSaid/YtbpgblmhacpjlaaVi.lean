/-
  drvq: New; no condition.
-/
import Derived.Test.YtbpgblmhacpjlaaChk
import Derived.Test.YtbpgblmhacpjlaaVh
import Derived.Test.YtbpgblmhacpjlaaVf
namespace Go.Proofs.Ytbpgblmhacpjlaa
open Go.RowKit

/-- a queue's numbers at its beginning -/
def newV (ring size drv dev : Int) : Vs := ⟨ring.toNat, size.toNat, drv.toNat, dev.toNat, 0, true, 0, true, 0, true, 0, List.replicate size.toNat 0⟩
/-- the bytes that New leaves -/
def newX (xs : List UInt8) (ring size drv dev : Nat) : List UInt8 := over (over (over xs ring (noughts (size * 16))) drv (noughts 4)) dev (noughts 4)
theorem newX_length {xs : List UInt8} {ring size drv dev : Nat} (h1 : ring + size * 16 ≤ xs.length) (h2 : drv + 4 ≤ xs.length) (h3 : dev + 4 ≤ xs.length) : (newX xs ring size drv dev).length = xs.length := by
  unfold newX
  rw [over_length, over_length, over_length] <;> (try rw [over_length]) <;> (try rw [over_length]) <;> (repeat rw [noughts_size]) <;> omega
theorem sum_zeros : ∀ n, (List.replicate n 0).sum = 0
  | 0 => rfl
  | n + 1 => by rw [List.replicate_succ, List.sum_cons, sum_zeros n]
theorem newV_ok {xs : List UInt8} {ring size drv dev : Int} (h : layB xs ring size drv dev = true) : (newV ring size drv dev).Ok xs.length := by
  obtain ⟨⟨a1, a2⟩, ⟨b1, b2⟩, ⟨c1, c2⟩, d1, d2⟩ := lay_facts h
  unfold newV
  constructor <;> simp only [List.length_replicate, sum_zeros] <;> omega
def NewD (F : Nat → Prop) (w : World) (g : Nat) (xs : List UInt8) (ring size drv dev : Int) (e : Ending) (w' : World) : Prop :=
  if layB xs ring size drv dev then ∃ k, e = .returned (.tuple #[.pointer (some ⟨k, 0, none⟩), .int .i64 0]) ∧ St F w (stars [memA g (newX xs ring.toNat size.toNat drv.toNat dev.toNat), drvA k g (newV ring size drv dev)]) w'
  else e = .returned (.tuple #[.pointer none, .int .i64 140]) ∧ St F w (memA g xs) w'
theorem chk_m {F : Nat → Prop} {w : World} {g : Nat} {xs : List UInt8} (h : (memA g xs).P F w) (ring size drv dev : Int) :
    Calls Try.prog 32 #[.pointer (some ⟨g, 0, none⟩), .agg #[.int .i64 ring, .int .i64 size, .int .i64 drv, .int .i64 dev]] w fun e w' => e = .returned (.int .i64 (layE xs ring size drv dev)) ∧ Below w.heap.size w w' := by
  obtain ⟨gb, lv, hM, -⟩ := h
  exact check_any hM ring size drv dev
set_option maxRecDepth 100000 in
set_option maxHeartbeats 1600000 in
theorem dnew_bad {F : Nat → Prop} {w : World} {g : Nat} {xs : List UInt8} (h : (memA g xs).P F w) (ring size drv dev : Int) (k : layB xs ring size drv dev = false) :
    Calls Try.prog 8 #[.pointer (some ⟨g, 0, none⟩), .agg #[.int .i64 ring, .int .i64 size, .int .i64 drv, .int .i64 dev]] w fun e w' => e = .returned (.tuple #[.pointer none, .int .i64 140]) ∧ St F w (memA g xs) w' := by
  have hb1 := ba (Below.refl w.heap.size w) (.cells #[.int .i64 ring, .int .i64 size, .int .i64 drv, .int .i64 dev] 24)
  have S1 := (St.start h).below hb1
  have HC := chk_m ((memA g xs).keep h (fun k hk => hb1.block k ((memA g xs).lt h k hk))) ring size drv dev
  rw [show layE xs ring size drv dev = 140 by unfold layE; rw [k]; rfl] at HC
  have HC := Lib.hid HC
  have S1 := Lib.hid S1
  clear h hb1 k
  go_enter Try.func8, Try.ntmps8
  go_wp2_with fail
  refine HC.out.mono ?_
  rintro e w1 ⟨rfl, hq⟩
  have S2 := Lib.hid (S1.out.below hq)
  clear hq
  go_wp2_with fail
  go_ret2
  exact ⟨rfl, S2.out⟩
/-- New under way -/
def NwS (F : Nat → Prop) (w : World) (K : Nat) (a b c d : Value) (l : List As) (W : World) : Prop :=
  (W.cell? ⟨K, 0, none⟩ = some a ∧ W.cell? ⟨K, 1, none⟩ = some b ∧ W.cell? ⟨K, 2, none⟩ = some c ∧ W.cell? ⟨K, 3, none⟩ = some d) ∧ ∃ X g, l = [box K 24 #[a, b, c, d], memA g X] ∧ St F w (stars l) W
section
variable {F : Nat → Prop} {w W W' : World} {K g : Nat} {a b c d : Value} {X : List UInt8} {l : List As}
theorem NwS.of (h : St F w (stars [box K 24 #[a, b, c, d], memA g X]) W) : NwS F w K a b c d [box K 24 #[a, b, c, d], memA g X] W := by
  have b := h.blk 0 (by simp) rfl
  exact ⟨⟨b.cell 0, b.cell 1, b.cell 2, b.cell 3⟩, X, g, rfl, h⟩
theorem NwS.st (h : NwS F w K a b c d l W) : St F w (stars l) W := by obtain ⟨-, -, -, -, h⟩ := h; exact h
theorem NwS.next (h : NwS F w K a b c d l W) (hb : Below W.heap.size W W') : NwS F w K a b c d l W' := by
  obtain ⟨-, X, g, rfl, h⟩ := h
  exact NwS.of (h.below hb)
theorem NwS.drew (h : NwS F w K a b c d l W) : NwS F w K a b c d l W.drew := h.next (Below.refl _ _).drew
theorem NwS.ex (h : NwS F w K a b c d l W) : (W.cell? ⟨K, 0, none⟩ = some a ∧ W.cell? ⟨K, 1, none⟩ = some b ∧ W.cell? ⟨K, 2, none⟩ = some c ∧ W.cell? ⟨K, 3, none⟩ = some d) ∧ ∃ l, NwS F w K a b c d l W := ⟨h.1, l, h⟩
theorem NwS.put (h : NwS F w K a b c d [box K 24 #[a, b, c, d], memA g X] W) (p : Nat) (s : ByteArray) (hn : p + s.size ≤ X.length) :
    Calls Try.prog 27 #[.pointer (some ⟨g, 0, none⟩), .int .i64 (p : Int), .string s] W fun e w' => e = .returned (.int .i64 0) ∧ NwS F w K a b c d [box K 24 #[a, b, c, d], memA g (over X p s)] w' := by
  obtain ⟨F1, hA, hb⟩ := h.st.at 1 (by simp)
  exact (memA_put hA p s hn).mono fun _ _ ⟨he, hs⟩ => ⟨he, NwS.of (hb _ _ hs)⟩
end
theorem drv_new {F : Nat → Prop} {w W : World} {g : Nat} {Y : List UInt8} (h : St F w (stars [memA g Y]) W) (ring size drv dev : Nat) (t : TypeId) (cs : Array Value) :
    St F w (stars [memA g Y, drvA (W.heap.size + 1 + 1) g (newV ring size drv dev)]) (((W.alloc (.cells cs t)).alloc (.map #[] 0)).alloc (.cells #[.pointer (some ⟨g, 0, none⟩), .int .i64 (ring : Int), .int .i64 (size : Int), .int .i64 (drv : Int), .int .i64 (dev : Int), .int .i64 0, .bool true, .int .i64 0, .bool true, .map (some (W.heap.size + 1)), .int .i64 (size : Int), .int .i64 0, .int .i64 0, .bool true, .int .i64 0] 90)) := by
  have e : (newV ring size drv dev).cells g (W.heap.size + 1) 0 = #[.pointer (some ⟨g, 0, none⟩), .int .i64 (ring : Int), .int .i64 (size : Int), .int .i64 (drv : Int), .int .i64 (dev : Int), .int .i64 0, .bool true, .int .i64 0, .bool true, .map (some (W.heap.size + 1)), .int .i64 (size : Int), .int .i64 0, .int .i64 0, .bool true, .int .i64 0] := by
    simp [Vs.cells, newV, Vs.free]
  rw [← e]
  have z1 : (W.alloc (.cells cs t)).heap.size = W.heap.size + 1 := by simp
  have z2 : ((W.alloc (.cells cs t)).alloc (.map #[] 0)).heap.size = W.heap.size + 1 + 1 := by simp
  have hM := mapA_made size (W.alloc (.cells cs t))
  rw [z1] at hM
  have h1 := (h.alloc (.cells cs t)).add (ba (Below.refl _ _) (.map #[] 0)) hM (fun k hk => by rw [z1]; omega)
  have h2 := h1.new 90 ((newV ring size drv dev).cells g (W.heap.size + 1) 0)
  rw [z2] at h2
  refine h2.mono fun F e => ?_
  have e1 := sep_right e
  have e2 : (sep (drvA (W.heap.size + 1 + 1) g (newV ring size drv dev)) (stars [memA g Y])).P F _ := sep_mono e1 (fun _ e => ⟨W.heap.size + 1, 0, ⟨Nat.zero_le _, fun i hi => by omega⟩, e⟩) (fun _ e => e)
  exact sep_swap (A := drvA (W.heap.size + 1 + 1) g (newV ring size drv dev)) (B := memA g Y) e2
set_option maxRecDepth 100000 in
set_option maxHeartbeats 3200000 in
theorem dnew_good {F : Nat → Prop} {w : World} {g : Nat} {xs : List UInt8} (h : (memA g xs).P F w) (ring size drv dev : Nat) (k : layB xs ring size drv dev = true) :
    Calls Try.prog 8 #[.pointer (some ⟨g, 0, none⟩), .agg #[.int .i64 (ring : Int), .int .i64 (size : Int), .int .i64 (drv : Int), .int .i64 (dev : Int)]] w fun e w' => ∃ k, e = .returned (.tuple #[.pointer (some ⟨k, 0, none⟩), .int .i64 0]) ∧ St F w (stars [memA g (newX xs ring size drv dev), drvA k g (newV ring size drv dev)]) w' := by
  have hx := memA_len h
  obtain ⟨⟨a1, a2⟩, ⟨b1, b2⟩, ⟨c1, c2⟩, d1, d2⟩ := lay_facts k
  have hb1 := ba (Below.refl w.heap.size w) (.cells #[.int .i64 (ring : Int), .int .i64 (size : Int), .int .i64 (drv : Int), .int .i64 (dev : Int)] 24)
  have HC := chk_m ((memA g xs).keep h (fun k hk => hb1.block k ((memA g xs).lt h k hk))) ring size drv dev
  rw [show layE xs ring size drv dev = 0 by unfold layE; rw [k]; rfl] at HC
  have S1 : St F w (stars [box w.heap.size 24 #[.int .i64 (ring : Int), .int .i64 (size : Int), .int .i64 (drv : Int), .int .i64 (dev : Int)], memA g xs]) (w.alloc (.cells #[.int .i64 (ring : Int), .int .i64 (size : Int), .int .i64 (drv : Int), .int .i64 (dev : Int)] 24)) :=
    ((St.start h).new 24 #[.int .i64 (ring : Int), .int .i64 (size : Int), .int .i64 (drv : Int), .int .i64 (dev : Int)]).mono fun F e => stars_pair e
  have HZ := fun W => zeros_v (size * 16) W (by omega)
  rw [show ((size * 16 : Nat) : Int) = (size : Int) * 16 by omega] at HZ
  have HZ4 := fun W => zeros_v 4 W (by omega)
  rw [show ((4 : Nat) : Int) = 4 from rfl] at HZ4
  have v1 : IntKind.i64.wrap ((size : Int) * 16) = (size : Int) * 16 := by rw [IntKind.wrap_i64]; omega
  obtain ⟨K, hK⟩ : ∃ K, w.heap.size = K := ⟨_, rfl⟩
  have HW1 : ∀ W, NwS F w K (.int .i64 (ring : Int)) (.int .i64 (size : Int)) (.int .i64 (drv : Int)) (.int .i64 (dev : Int)) [box K 24 #[.int .i64 (ring : Int), .int .i64 (size : Int), .int .i64 (drv : Int), .int .i64 (dev : Int)], memA g xs] W →
      Calls Try.prog 27 #[.pointer (some ⟨g, 0, none⟩), .int .i64 (ring : Int), .string (noughts (size * 16))] W fun e w' => e = .returned (.int .i64 0) ∧ NwS F w K (.int .i64 (ring : Int)) (.int .i64 (size : Int)) (.int .i64 (drv : Int)) (.int .i64 (dev : Int)) [box K 24 #[.int .i64 (ring : Int), .int .i64 (size : Int), .int .i64 (drv : Int), .int .i64 (dev : Int)], memA g (over xs ring (noughts (size * 16)))] w' :=
    fun W hS => hS.put ring _ (by rw [noughts_size]; omega)
  obtain ⟨X1, hX1⟩ : ∃ X, over xs ring (noughts (size * 16)) = X := ⟨_, rfl⟩
  have l1 : X1.length = xs.length := by rw [← hX1, over_length]; rw [noughts_size]; omega
  rw [hX1] at HW1
  have HW2 : ∀ W, NwS F w K (.int .i64 (ring : Int)) (.int .i64 (size : Int)) (.int .i64 (drv : Int)) (.int .i64 (dev : Int)) [box K 24 #[.int .i64 (ring : Int), .int .i64 (size : Int), .int .i64 (drv : Int), .int .i64 (dev : Int)], memA g X1] W →
      Calls Try.prog 27 #[.pointer (some ⟨g, 0, none⟩), .int .i64 (drv : Int), .string (noughts 4)] W fun e w' => e = .returned (.int .i64 0) ∧ NwS F w K (.int .i64 (ring : Int)) (.int .i64 (size : Int)) (.int .i64 (drv : Int)) (.int .i64 (dev : Int)) [box K 24 #[.int .i64 (ring : Int), .int .i64 (size : Int), .int .i64 (drv : Int), .int .i64 (dev : Int)], memA g (over X1 drv (noughts 4))] w' :=
    fun W hS => hS.put drv _ (by rw [noughts_size]; omega)
  obtain ⟨X2, hX2⟩ : ∃ X, over X1 drv (noughts 4) = X := ⟨_, rfl⟩
  have l2 : X2.length = xs.length := by rw [← hX2, over_length]; exact l1; rw [noughts_size]; omega
  rw [hX2] at HW2
  have HW3 : ∀ W, NwS F w K (.int .i64 (ring : Int)) (.int .i64 (size : Int)) (.int .i64 (drv : Int)) (.int .i64 (dev : Int)) [box K 24 #[.int .i64 (ring : Int), .int .i64 (size : Int), .int .i64 (drv : Int), .int .i64 (dev : Int)], memA g X2] W →
      Calls Try.prog 27 #[.pointer (some ⟨g, 0, none⟩), .int .i64 (dev : Int), .string (noughts 4)] W fun e w' => e = .returned (.int .i64 0) ∧ NwS F w K (.int .i64 (ring : Int)) (.int .i64 (size : Int)) (.int .i64 (drv : Int)) (.int .i64 (dev : Int)) [box K 24 #[.int .i64 (ring : Int), .int .i64 (size : Int), .int .i64 (drv : Int), .int .i64 (dev : Int)], memA g (over X2 dev (noughts 4))] w' :=
    fun W hS => hS.put dev _ (by rw [noughts_size]; omega)
  have hX3 : over X2 dev (noughts 4) = newX xs ring size drv dev := by rw [← hX2, ← hX1]; rfl
  rw [hX3] at HW3
  rw [hK] at S1
  have HK := Lib.hid hK
  have HC := Lib.hid HC
  have S1 := Lib.hid S1
  have HZ := Lib.hid HZ
  have HZ4 := Lib.hid HZ4
  have HW1 := Lib.hid HW1
  have HW2 := Lib.hid HW2
  have HW3 := Lib.hid HW3
  generalize newX xs ring size drv dev = Y at *
  have hmm := @run_makeMap Try.prog
  clear h hb1 k hx a1 a2 b1 b2 c1 c2 d1 d2 hX1 hX2 hX3 l1 l2
  go_enter Try.func8, Try.ntmps8
  go_wp2_with fail
  refine HC.out.mono ?_
  rintro e w1 ⟨rfl, hq⟩
  have Q1 := Lib.hid (NwS.of (S1.out.below hq)).drew
  go_wp2_with fail
  go_region_held3 (fun W => (W.cell? ⟨K, 0, none⟩ = some (.int .i64 (ring : Int)) ∧ W.cell? ⟨K, 1, none⟩ = some (.int .i64 (size : Int)) ∧ W.cell? ⟨K, 2, none⟩ = some (.int .i64 (drv : Int)) ∧ W.cell? ⟨K, 3, none⟩ = some (.int .i64 (dev : Int))) ∧ ∃ l, NwS F w K (.int .i64 (ring : Int)) (.int .i64 (size : Int)) (.int .i64 (drv : Int)) (.int .i64 (dev : Int)) l W)
    ((with_reducible (first | exact Q1.out.ex | exact D1.ex | exact D2.ex)))
    (first
      | (go_at_call 33; ((with_reducible refine (HZ.out _).mono ?_); rintro e wa ⟨rfl, hqa⟩; have D1 := NwS.next Q1.out hqa))
      | (go_at_call 27; ((with_reducible refine (HW1.out _ D1).mono ?_); rintro e w2 ⟨rfl, D2⟩)))
  have Q2 := Lib.hid D2.drew
  clear D1 D2 hqa Q1
  go_wp2_with fail
  go_region_held3 (fun W => (W.cell? ⟨K, 0, none⟩ = some (.int .i64 (ring : Int)) ∧ W.cell? ⟨K, 1, none⟩ = some (.int .i64 (size : Int)) ∧ W.cell? ⟨K, 2, none⟩ = some (.int .i64 (drv : Int)) ∧ W.cell? ⟨K, 3, none⟩ = some (.int .i64 (dev : Int))) ∧ ∃ l, NwS F w K (.int .i64 (ring : Int)) (.int .i64 (size : Int)) (.int .i64 (drv : Int)) (.int .i64 (dev : Int)) l W)
    ((with_reducible (first | exact Q2.out.ex | exact D1.ex | exact D2.ex)))
    (first
      | (go_at_call 33; ((with_reducible refine (HZ4.out _).mono ?_); rintro e wa ⟨rfl, hqa⟩; have D1 := NwS.next Q2.out hqa))
      | (go_at_call 27; ((with_reducible refine (HW2.out _ D1).mono ?_); rintro e w3 ⟨rfl, D2⟩)))
  have Q3 := Lib.hid D2.drew
  clear D1 D2 hqa Q2
  go_wp2_with fail
  go_region_held3 (fun W => (W.cell? ⟨K, 0, none⟩ = some (.int .i64 (ring : Int)) ∧ W.cell? ⟨K, 1, none⟩ = some (.int .i64 (size : Int)) ∧ W.cell? ⟨K, 2, none⟩ = some (.int .i64 (drv : Int)) ∧ W.cell? ⟨K, 3, none⟩ = some (.int .i64 (dev : Int))) ∧ ∃ l, NwS F w K (.int .i64 (ring : Int)) (.int .i64 (size : Int)) (.int .i64 (drv : Int)) (.int .i64 (dev : Int)) l W)
    ((with_reducible (first | exact Q3.out.ex | exact D1.ex | exact D2.ex)))
    (first
      | (go_at_call 33; ((with_reducible refine (HZ4.out _).mono ?_); rintro e wa ⟨rfl, hqa⟩; have D1 := NwS.next Q3.out hqa))
      | (go_at_call 27; ((with_reducible refine (HW3.out _ D1).mono ?_); rintro e w4 ⟨rfl, D2⟩)))
  have b4 := D2.st.blk 0 (by simp) rfl
  obtain ⟨e0, e1, e2, e3, -, -, -, -⟩ := blk4 b4
  have hlt := b4.lt
  have hne := Nat.ne_of_lt hlt
  have Q4 := Lib.hid D2.st.pop
  clear D1 D2 hqa Q3 b4 HW1 HW2 HW3 HZ HZ4 HC S1 HK hK hq
  go_wp2_with fail
  go_ret2
  exact ⟨_, rfl, drv_new Q4.out ring size drv dev _ _⟩
theorem dnew_v {F : Nat → Prop} {w : World} {g : Nat} {xs : List UInt8} (h : (memA g xs).P F w) (ring size drv dev : Int) :
    Calls Try.prog 8 #[.pointer (some ⟨g, 0, none⟩), .agg #[.int .i64 ring, .int .i64 size, .int .i64 drv, .int .i64 dev]] w (NewD F w g xs ring size drv dev) := by
  unfold NewD
  cases k : layB xs ring size drv dev
  · exact dnew_bad h ring size drv dev k
  · obtain ⟨⟨a1, a2⟩, ⟨b1, b2⟩, ⟨c1, c2⟩, d1, d2⟩ := lay_facts k
    obtain ⟨r, rfl⟩ := Int.eq_ofNat_of_zero_le b1
    obtain ⟨z, rfl⟩ := Int.eq_ofNat_of_zero_le (by omega : 0 ≤ size)
    obtain ⟨x, rfl⟩ := Int.eq_ofNat_of_zero_le c1
    obtain ⟨y, rfl⟩ := Int.eq_ofNat_of_zero_le d1
    exact (dnew_good h r z x y k).mono fun _ _ hh => by rw [if_pos rfl]; exact hh
end Go.Proofs.Ytbpgblmhacpjlaa
