/-
  New, Clone.
-/
import Derived.Test.YtbpgblmhacpjlaaGreatZj
import Derived.Test.YtbpgblmhacpjlaaGreatSVh
import Derived.Test.YtbpgblmhacpjlaaGreatSVf
import Derived.Test.YtbpgblmhacpjlaaGreatSVg
namespace Go.Proofs.YtbpgblmhacpjlaaGreat
open Go.RowKit

/-- a queue's numbers at its beginning -/
def newV (ring size drv dev : Int) : Vs := ⟨ring.toNat, size.toNat, drv.toNat, dev.toNat, 0, true, 0, true, 0, true, 0, List.replicate size.toNat 0⟩
/-- the bytes that New leaves -/
def newX (xs : List UInt8) (ring size drv dev : Nat) : List UInt8 := over (over (over xs ring (noughts (size * 16))) drv (noughts 4)) dev (noughts 4)
theorem newX_length {xs : List UInt8} {ring size drv dev : Nat} (h1 : ring + size * 16 ≤ xs.length) (h2 : drv + 4 ≤ xs.length) (h3 : dev + 4 ≤ xs.length) : (newX xs ring size drv dev).length = xs.length := by
  unfold newX
  rw [over_length, over_length, over_length] <;> (try rw [over_length]) <;> (try rw [over_length]) <;> (repeat rw [noughts_size]) <;> omega
theorem sum_zeros : ∀ n, (List.replicate n 0).sum = 0
  | 0 => rfl
  | n + 1 => by rw [List.replicate_succ, List.sum_cons, sum_zeros n]
theorem newV_ok {xs : List UInt8} {ring size drv dev : Int} (h : layB xs ring size drv dev = true) : (newV ring size drv dev).Ok xs.length := by
  obtain ⟨⟨a1, a2⟩, ⟨b1, b2⟩, ⟨c1, c2⟩, d1, d2⟩ := lay_facts h
  unfold newV
  constructor <;> simp only [List.length_replicate, sum_zeros] <;> omega
def NewD (F : Nat → Prop) (w : World) (g : Nat) (xs : List UInt8) (ring size drv dev : Int) (e : Ending) (w' : World) : Prop :=
  if layB xs ring size drv dev then ∃ k, e = .returned (.tuple #[.pointer (some ⟨k, 0, none⟩), .int .i64 0]) ∧ St F w (stars [memA g (newX xs ring.toNat size.toNat drv.toNat dev.toNat), drvA k g (newV ring size drv dev)]) w'
  else e = .returned (.tuple #[.pointer none, .int .i64 140]) ∧ St F w (memA g xs) w'
theorem chk_m {F : Nat → Prop} {w : World} {g : Nat} {xs : List UInt8} (h : (memA g xs).P F w) (ring size drv dev : Int) :
    Calls Tryz.prog 59 #[.pointer (some ⟨g, 0, none⟩), .agg #[.int .i64 ring, .int .i64 size, .int .i64 drv, .int .i64 dev]] w fun e w' => e = .returned (.int .i64 (layE xs ring size drv dev)) ∧ Below w.heap.size w w' := by
  obtain ⟨gb, lv, hM, -⟩ := h
  exact check_any hM ring size drv dev
set_option maxRecDepth 100000 in
set_option maxHeartbeats 1600000 in
theorem dnew_bad {F : Nat → Prop} {w : World} {g : Nat} {xs : List UInt8} (h : (memA g xs).P F w) (ring size drv dev : Int) (k : layB xs ring size drv dev = false) :
    Calls Tryz.prog 24 #[.pointer (some ⟨g, 0, none⟩), .agg #[.int .i64 ring, .int .i64 size, .int .i64 drv, .int .i64 dev]] w fun e w' => e = .returned (.tuple #[.pointer none, .int .i64 140]) ∧ St F w (memA g xs) w' := by
  have hb1 := ba (Below.refl w.heap.size w) (.cells #[.int .i64 ring, .int .i64 size, .int .i64 drv, .int .i64 dev] 23)
  have S1 := (St.start h).below hb1
  have HC := chk_m ((memA g xs).keep h (fun k hk => hb1.block k ((memA g xs).lt h k hk))) ring size drv dev
  rw [show layE xs ring size drv dev = 140 by unfold layE; rw [k]; rfl] at HC
  have HC := Lib.hid HC
  have S1 := Lib.hid S1
  clear h hb1 k
  go_enter Tryz.func24, Tryz.ntmps24
  go_wp2_with fail
  refine HC.out.mono ?_
  rintro e w1 ⟨rfl, hq⟩
  have S2 := Lib.hid (S1.out.below hq)
  clear hq
  go_wp2_with fail
  go_ret2
  exact ⟨rfl, S2.out⟩
/-- New under way -/
def NwS (F : Nat → Prop) (w : World) (K : Nat) (a b c d : Value) (l : List As) (W : World) : Prop :=
  (W.cell? ⟨K, 0, none⟩ = some a ∧ W.cell? ⟨K, 1, none⟩ = some b ∧ W.cell? ⟨K, 2, none⟩ = some c ∧ W.cell? ⟨K, 3, none⟩ = some d) ∧ ∃ X g, l = [box K 23 #[a, b, c, d], memA g X] ∧ St F w (stars l) W
section
variable {F : Nat → Prop} {w W W' : World} {K g : Nat} {a b c d : Value} {X : List UInt8} {l : List As}
theorem NwS.of (h : St F w (stars [box K 23 #[a, b, c, d], memA g X]) W) : NwS F w K a b c d [box K 23 #[a, b, c, d], memA g X] W := by
  have b := h.blk 0 (by simp) rfl
  exact ⟨⟨b.cell 0, b.cell 1, b.cell 2, b.cell 3⟩, X, g, rfl, h⟩
theorem NwS.st (h : NwS F w K a b c d l W) : St F w (stars l) W := by obtain ⟨-, -, -, -, h⟩ := h; exact h
theorem NwS.next (h : NwS F w K a b c d l W) (hb : Below W.heap.size W W') : NwS F w K a b c d l W' := by
  obtain ⟨-, X, g, rfl, h⟩ := h
  exact NwS.of (h.below hb)
theorem NwS.drew (h : NwS F w K a b c d l W) : NwS F w K a b c d l W.drew := h.next (Below.refl _ _).drew
theorem NwS.ex (h : NwS F w K a b c d l W) : (W.cell? ⟨K, 0, none⟩ = some a ∧ W.cell? ⟨K, 1, none⟩ = some b ∧ W.cell? ⟨K, 2, none⟩ = some c ∧ W.cell? ⟨K, 3, none⟩ = some d) ∧ ∃ l, NwS F w K a b c d l W := ⟨h.1, l, h⟩
theorem NwS.put (h : NwS F w K a b c d [box K 23 #[a, b, c, d], memA g X] W) (p : Nat) (s : ByteArray) (hn : p + s.size ≤ X.length) :
    Calls Tryz.prog 10 #[.pointer (some ⟨g, 0, none⟩), .int .i64 (p : Int), .string s] W fun e w' => e = .returned (.int .i64 0) ∧ NwS F w K a b c d [box K 23 #[a, b, c, d], memA g (over X p s)] w' := by
  obtain ⟨F1, hA, hb⟩ := h.st.at 1 (by simp)
  exact (memA_put hA p s hn).mono fun _ _ ⟨he, hs⟩ => ⟨he, NwS.of (hb _ _ hs)⟩
end
theorem drv_new {F : Nat → Prop} {w W : World} {g : Nat} {Y : List UInt8} (h : St F w (stars [memA g Y]) W) (ring size drv dev : Nat) (t : TypeId) (cs : Array Value) :
    St F w (stars [memA g Y, drvA (W.heap.size + 1 + 1) g (newV ring size drv dev)]) (((W.alloc (.cells cs t)).alloc (.map #[] 0)).alloc (.cells #[.pointer (some ⟨g, 0, none⟩), .int .i64 (ring : Int), .int .i64 (size : Int), .int .i64 (drv : Int), .int .i64 (dev : Int), .int .i64 0, .bool true, .int .i64 0, .bool true, .map (some (W.heap.size + 1)), .int .i64 (size : Int), .int .i64 0, .int .i64 0, .bool true, .int .i64 0] 77)) := by
  have e : (newV ring size drv dev).cells g (W.heap.size + 1) 0 = #[.pointer (some ⟨g, 0, none⟩), .int .i64 (ring : Int), .int .i64 (size : Int), .int .i64 (drv : Int), .int .i64 (dev : Int), .int .i64 0, .bool true, .int .i64 0, .bool true, .map (some (W.heap.size + 1)), .int .i64 (size : Int), .int .i64 0, .int .i64 0, .bool true, .int .i64 0] := by
    simp [Vs.cells, newV, Vs.free]
  rw [← e]
  have z1 : (W.alloc (.cells cs t)).heap.size = W.heap.size + 1 := by simp
  have z2 : ((W.alloc (.cells cs t)).alloc (.map #[] 0)).heap.size = W.heap.size + 1 + 1 := by simp
  have hM := mapA_made size (W.alloc (.cells cs t))
  rw [z1] at hM
  have h1 := (h.alloc (.cells cs t)).add (ba (Below.refl _ _) (.map #[] 0)) hM (fun k hk => by rw [z1]; omega)
  have h2 := h1.new 77 ((newV ring size drv dev).cells g (W.heap.size + 1) 0)
  rw [z2] at h2
  refine h2.mono fun F e => ?_
  have e1 := sep_right e
  have e2 : (sep (drvA (W.heap.size + 1 + 1) g (newV ring size drv dev)) (stars [memA g Y])).P F _ := sep_mono e1 (fun _ e => ⟨W.heap.size + 1, 0, ⟨Nat.zero_le _, fun i hi => by omega⟩, e⟩) (fun _ e => e)
  exact sep_swap (A := drvA (W.heap.size + 1 + 1) g (newV ring size drv dev)) (B := memA g Y) e2
set_option maxRecDepth 100000 in
set_option maxHeartbeats 3200000 in
theorem dnew_good {F : Nat → Prop} {w : World} {g : Nat} {xs : List UInt8} (h : (memA g xs).P F w) (ring size drv dev : Nat) (k : layB xs ring size drv dev = true) :
    Calls Tryz.prog 24 #[.pointer (some ⟨g, 0, none⟩), .agg #[.int .i64 (ring : Int), .int .i64 (size : Int), .int .i64 (drv : Int), .int .i64 (dev : Int)]] w fun e w' => ∃ k, e = .returned (.tuple #[.pointer (some ⟨k, 0, none⟩), .int .i64 0]) ∧ St F w (stars [memA g (newX xs ring size drv dev), drvA k g (newV ring size drv dev)]) w' := by
  have hx := memA_len h
  obtain ⟨⟨a1, a2⟩, ⟨b1, b2⟩, ⟨c1, c2⟩, d1, d2⟩ := lay_facts k
  have hb1 := ba (Below.refl w.heap.size w) (.cells #[.int .i64 (ring : Int), .int .i64 (size : Int), .int .i64 (drv : Int), .int .i64 (dev : Int)] 23)
  have HC := chk_m ((memA g xs).keep h (fun k hk => hb1.block k ((memA g xs).lt h k hk))) ring size drv dev
  rw [show layE xs ring size drv dev = 0 by unfold layE; rw [k]; rfl] at HC
  have S1 : St F w (stars [box w.heap.size 23 #[.int .i64 (ring : Int), .int .i64 (size : Int), .int .i64 (drv : Int), .int .i64 (dev : Int)], memA g xs]) (w.alloc (.cells #[.int .i64 (ring : Int), .int .i64 (size : Int), .int .i64 (drv : Int), .int .i64 (dev : Int)] 23)) :=
    ((St.start h).new 23 #[.int .i64 (ring : Int), .int .i64 (size : Int), .int .i64 (drv : Int), .int .i64 (dev : Int)]).mono fun F e => stars_pair e
  have HZ := fun W => zeros_v (size * 16) W (by omega)
  rw [show ((size * 16 : Nat) : Int) = (size : Int) * 16 by omega] at HZ
  have HZ4 := fun W => zeros_v 4 W (by omega)
  rw [show ((4 : Nat) : Int) = 4 from rfl] at HZ4
  have v1 : IntKind.i64.wrap ((size : Int) * 16) = (size : Int) * 16 := by rw [IntKind.wrap_i64]; omega
  obtain ⟨K, hK⟩ : ∃ K, w.heap.size = K := ⟨_, rfl⟩
  have HW1 : ∀ W, NwS F w K (.int .i64 (ring : Int)) (.int .i64 (size : Int)) (.int .i64 (drv : Int)) (.int .i64 (dev : Int)) [box K 23 #[.int .i64 (ring : Int), .int .i64 (size : Int), .int .i64 (drv : Int), .int .i64 (dev : Int)], memA g xs] W →
      Calls Tryz.prog 10 #[.pointer (some ⟨g, 0, none⟩), .int .i64 (ring : Int), .string (noughts (size * 16))] W fun e w' => e = .returned (.int .i64 0) ∧ NwS F w K (.int .i64 (ring : Int)) (.int .i64 (size : Int)) (.int .i64 (drv : Int)) (.int .i64 (dev : Int)) [box K 23 #[.int .i64 (ring : Int), .int .i64 (size : Int), .int .i64 (drv : Int), .int .i64 (dev : Int)], memA g (over xs ring (noughts (size * 16)))] w' :=
    fun W hS => hS.put ring _ (by rw [noughts_size]; omega)
  obtain ⟨X1, hX1⟩ : ∃ X, over xs ring (noughts (size * 16)) = X := ⟨_, rfl⟩
  have l1 : X1.length = xs.length := by rw [← hX1, over_length]; rw [noughts_size]; omega
  rw [hX1] at HW1
  have HW2 : ∀ W, NwS F w K (.int .i64 (ring : Int)) (.int .i64 (size : Int)) (.int .i64 (drv : Int)) (.int .i64 (dev : Int)) [box K 23 #[.int .i64 (ring : Int), .int .i64 (size : Int), .int .i64 (drv : Int), .int .i64 (dev : Int)], memA g X1] W →
      Calls Tryz.prog 10 #[.pointer (some ⟨g, 0, none⟩), .int .i64 (drv : Int), .string (noughts 4)] W fun e w' => e = .returned (.int .i64 0) ∧ NwS F w K (.int .i64 (ring : Int)) (.int .i64 (size : Int)) (.int .i64 (drv : Int)) (.int .i64 (dev : Int)) [box K 23 #[.int .i64 (ring : Int), .int .i64 (size : Int), .int .i64 (drv : Int), .int .i64 (dev : Int)], memA g (over X1 drv (noughts 4))] w' :=
    fun W hS => hS.put drv _ (by rw [noughts_size]; omega)
  obtain ⟨X2, hX2⟩ : ∃ X, over X1 drv (noughts 4) = X := ⟨_, rfl⟩
  have l2 : X2.length = xs.length := by rw [← hX2, over_length]; exact l1; rw [noughts_size]; omega
  rw [hX2] at HW2
  have HW3 : ∀ W, NwS F w K (.int .i64 (ring : Int)) (.int .i64 (size : Int)) (.int .i64 (drv : Int)) (.int .i64 (dev : Int)) [box K 23 #[.int .i64 (ring : Int), .int .i64 (size : Int), .int .i64 (drv : Int), .int .i64 (dev : Int)], memA g X2] W →
      Calls Tryz.prog 10 #[.pointer (some ⟨g, 0, none⟩), .int .i64 (dev : Int), .string (noughts 4)] W fun e w' => e = .returned (.int .i64 0) ∧ NwS F w K (.int .i64 (ring : Int)) (.int .i64 (size : Int)) (.int .i64 (drv : Int)) (.int .i64 (dev : Int)) [box K 23 #[.int .i64 (ring : Int), .int .i64 (size : Int), .int .i64 (drv : Int), .int .i64 (dev : Int)], memA g (over X2 dev (noughts 4))] w' :=
    fun W hS => hS.put dev _ (by rw [noughts_size]; omega)
  have hX3 : over X2 dev (noughts 4) = newX xs ring size drv dev := by rw [← hX2, ← hX1]; rfl
  rw [hX3] at HW3
  rw [hK] at S1
  have HK := Lib.hid hK
  have HC := Lib.hid HC
  have S1 := Lib.hid S1
  have HZ := Lib.hid HZ
  have HZ4 := Lib.hid HZ4
  have HW1 := Lib.hid HW1
  have HW2 := Lib.hid HW2
  have HW3 := Lib.hid HW3
  generalize newX xs ring size drv dev = Y at *
  have hmm := @run_makeMap Tryz.prog
  clear h hb1 k hx a1 a2 b1 b2 c1 c2 d1 d2 hX1 hX2 hX3 l1 l2
  go_enter Tryz.func24, Tryz.ntmps24
  go_wp2_with fail
  refine HC.out.mono ?_
  rintro e w1 ⟨rfl, hq⟩
  have Q1 := Lib.hid (NwS.of (S1.out.below hq)).drew
  go_wp2_with fail
  go_region_held3 (fun W => (W.cell? ⟨K, 0, none⟩ = some (.int .i64 (ring : Int)) ∧ W.cell? ⟨K, 1, none⟩ = some (.int .i64 (size : Int)) ∧ W.cell? ⟨K, 2, none⟩ = some (.int .i64 (drv : Int)) ∧ W.cell? ⟨K, 3, none⟩ = some (.int .i64 (dev : Int))) ∧ ∃ l, NwS F w K (.int .i64 (ring : Int)) (.int .i64 (size : Int)) (.int .i64 (drv : Int)) (.int .i64 (dev : Int)) l W)
    ((with_reducible (first | exact Q1.out.ex | exact D1.ex | exact D2.ex)))
    (first
      | (go_at_call 60; ((with_reducible refine (HZ.out _).mono ?_); rintro e wa ⟨rfl, hqa⟩; have D1 := NwS.next Q1.out hqa))
      | (go_at_call 10; ((with_reducible refine (HW1.out _ D1).mono ?_); rintro e w2 ⟨rfl, D2⟩)))
  have Q2 := Lib.hid D2.drew
  clear D1 D2 hqa Q1
  go_wp2_with fail
  go_region_held3 (fun W => (W.cell? ⟨K, 0, none⟩ = some (.int .i64 (ring : Int)) ∧ W.cell? ⟨K, 1, none⟩ = some (.int .i64 (size : Int)) ∧ W.cell? ⟨K, 2, none⟩ = some (.int .i64 (drv : Int)) ∧ W.cell? ⟨K, 3, none⟩ = some (.int .i64 (dev : Int))) ∧ ∃ l, NwS F w K (.int .i64 (ring : Int)) (.int .i64 (size : Int)) (.int .i64 (drv : Int)) (.int .i64 (dev : Int)) l W)
    ((with_reducible (first | exact Q2.out.ex | exact D1.ex | exact D2.ex)))
    (first
      | (go_at_call 60; ((with_reducible refine (HZ4.out _).mono ?_); rintro e wa ⟨rfl, hqa⟩; have D1 := NwS.next Q2.out hqa))
      | (go_at_call 10; ((with_reducible refine (HW2.out _ D1).mono ?_); rintro e w3 ⟨rfl, D2⟩)))
  have Q3 := Lib.hid D2.drew
  clear D1 D2 hqa Q2
  go_wp2_with fail
  go_region_held3 (fun W => (W.cell? ⟨K, 0, none⟩ = some (.int .i64 (ring : Int)) ∧ W.cell? ⟨K, 1, none⟩ = some (.int .i64 (size : Int)) ∧ W.cell? ⟨K, 2, none⟩ = some (.int .i64 (drv : Int)) ∧ W.cell? ⟨K, 3, none⟩ = some (.int .i64 (dev : Int))) ∧ ∃ l, NwS F w K (.int .i64 (ring : Int)) (.int .i64 (size : Int)) (.int .i64 (drv : Int)) (.int .i64 (dev : Int)) l W)
    ((with_reducible (first | exact Q3.out.ex | exact D1.ex | exact D2.ex)))
    (first
      | (go_at_call 60; ((with_reducible refine (HZ4.out _).mono ?_); rintro e wa ⟨rfl, hqa⟩; have D1 := NwS.next Q3.out hqa))
      | (go_at_call 10; ((with_reducible refine (HW3.out _ D1).mono ?_); rintro e w4 ⟨rfl, D2⟩)))
  have b4 := D2.st.blk 0 (by simp) rfl
  obtain ⟨e0, e1, e2, e3, -, -, -, -⟩ := blk4 b4
  have hlt := b4.lt
  have hne := Nat.ne_of_lt hlt
  have Q4 := Lib.hid D2.st.pop
  clear D1 D2 hqa Q3 b4 HW1 HW2 HW3 HZ HZ4 HC S1 HK hK hq
  go_wp2_with fail
  go_ret2
  exact ⟨_, rfl, drv_new Q4.out ring size drv dev _ _⟩
theorem dnew_v {F : Nat → Prop} {w : World} {g : Nat} {xs : List UInt8} (h : (memA g xs).P F w) (ring size drv dev : Int) :
    Calls Tryz.prog 24 #[.pointer (some ⟨g, 0, none⟩), .agg #[.int .i64 ring, .int .i64 size, .int .i64 drv, .int .i64 dev]] w (NewD F w g xs ring size drv dev) := by
  unfold NewD
  cases k : layB xs ring size drv dev
  · exact dnew_bad h ring size drv dev k
  · obtain ⟨⟨a1, a2⟩, ⟨b1, b2⟩, ⟨c1, c2⟩, d1, d2⟩ := lay_facts k
    obtain ⟨r, rfl⟩ := Int.eq_ofNat_of_zero_le b1
    obtain ⟨z, rfl⟩ := Int.eq_ofNat_of_zero_le (by omega : 0 ≤ size)
    obtain ⟨x, rfl⟩ := Int.eq_ofNat_of_zero_le c1
    obtain ⟨y, rfl⟩ := Int.eq_ofNat_of_zero_le d1
    exact (dnew_good h r z x y k).mono fun _ _ hh => by rw [if_pos rfl]; exact hh
end Go.Proofs.YtbpgblmhacpjlaaGreat
namespace Go.Proofs.YtbpgblmhacpjlaaGreat
open Go.RowKit

theorem drv_cells {F : Nat → Prop} {w : World} {gq g : Nat} {q : Vs} (h : (drvA gq g q).P F w) : ∃ bm low, LowOk low q.hs ∧ Blk w gq 77 (q.cells g bm low) ∧ MapAt bm q.hs w := by
  obtain ⟨bm, low, hl, F1, F2, -, -, a, b⟩ := h
  exact ⟨bm, low, hl, a.1, b.1⟩
theorem dfree_v {F : Nat → Prop} {w : World} {gq g : Nat} {q : Vs} (h : (drvA gq g q).P F w) :
    Calls Tryz.prog 53 #[.pointer (some ⟨gq, 0, none⟩)] w fun e w' => e = .returned (.int .i64 (q.free : Int)) ∧ w = w' := by
  obtain ⟨bm, low, -, hb, -⟩ := drv_cells h
  exact free_v (hb.cell 10)
theorem dback_v {F : Nat → Prop} {w : World} {gq g : Nat} {q : Vs} (h : (drvA gq g q).P F w) :
    Calls Tryz.prog 57 #[.pointer (some ⟨gq, 0, none⟩)] w fun e w' => e = .returned (.agg #[.int .i64 (q.ba : Int), .bool q.bw]) ∧ Below w.heap.size w w' := by
  obtain ⟨bm, low, -, hb, -⟩ := drv_cells h
  exact back_v hb.lt (hb.cell 7) (hb.cell 8) ⟨_, rfl⟩ ⟨_, rfl⟩
theorem dheld_v {F : Nat → Prop} {w : World} {gq g : Nat} {q : Vs} (h : (drvA gq g q).P F w) (hl : q.hs.length ≤ 32768) : Calls Tryz.prog 55 #[.pointer (some ⟨gq, 0, none⟩)] w (HeldP q.hs w) := by
  obtain ⟨bm, low, -, hb, hm⟩ := drv_cells h
  exact held_v (hb.cell 9) hm hl
def CloneD (g2 : Nat) (q : Vs) (w : World) (e : Ending) (w' : World) : Prop :=
  ∃ k F', e = .returned (.pointer (some ⟨k, 0, none⟩)) ∧ (drvA k g2 q).P F' w' ∧ (∀ x, F' x → w.heap.size ≤ x) ∧ Below w.heap.size w w'
set_option maxRecDepth 100000 in
set_option maxHeartbeats 1600000 in
theorem dclone_v {F : Nat → Prop} {w : World} {gq g g2 : Nat} {q : Vs} (h : (drvA gq g q).P F w) :
    Calls Tryz.prog 18 #[.pointer (some ⟨gq, 0, none⟩), .pointer (some ⟨g2, 0, none⟩)] w (CloneD g2 q w) := by
  obtain ⟨bm, low, hl, hb, hm⟩ := drv_cells h
  have c0 : w.cell? ⟨gq, 0, none⟩ = some (.pointer (some ⟨g, 0, none⟩)) := hb.cell 0
  have c1 : w.cell? ⟨gq, 1, none⟩ = some (.int .i64 (q.ring : Int)) := hb.cell 1
  have c2 : w.cell? ⟨gq, 2, none⟩ = some (.int .i64 (q.size : Int)) := hb.cell 2
  have c3 : w.cell? ⟨gq, 3, none⟩ = some (.int .i64 (q.drv : Int)) := hb.cell 3
  have c4 : w.cell? ⟨gq, 4, none⟩ = some (.int .i64 (q.dev : Int)) := hb.cell 4
  have c5 : w.cell? ⟨gq, 5, none⟩ = some (.int .i64 (q.na : Int)) := hb.cell 5
  have c6 : w.cell? ⟨gq, 6, none⟩ = some (.bool q.nw) := hb.cell 6
  have c7 : w.cell? ⟨gq, 7, none⟩ = some (.int .i64 (q.ba : Int)) := hb.cell 7
  have c8 : w.cell? ⟨gq, 8, none⟩ = some (.bool q.bw) := hb.cell 8
  have c9 : w.cell? ⟨gq, 9, none⟩ = some (.map (some bm)) := hb.cell 9
  have c10 : w.cell? ⟨gq, 10, none⟩ = some (.int .i64 (q.free : Int)) := hb.cell 10
  have c11 : w.cell? ⟨gq, 11, none⟩ = some (.int .i64 (low : Int)) := hb.cell 11
  have c12 : w.cell? ⟨gq, 12, none⟩ = some (.int .i64 (q.ta : Int)) := hb.cell 12
  have c13 : w.cell? ⟨gq, 13, none⟩ = some (.bool q.tw) := hb.cell 13
  have c14 : w.cell? ⟨gq, 14, none⟩ = some (.int .i64 (q.since : Int)) := hb.cell 14
  have hlt := hb.lt
  have hne := Nat.ne_of_lt hlt
  have kb := Blk.new w 77 (q.cells g2 bm low)
  have hb1 := ba (Below.refl w.heap.size w) (.cells (q.cells g2 bm low) 77)
  have HC := clone_map (hm.same (hb1.block bm hm.lt))
  have HC := Lib.hid HC
  have HK := Lib.hid kb
  have HB := Lib.hid hb1
  have HL := Lib.hid hl
  clear h hl hb hm kb hb1
  unfold Vs.cells at HC
  go_enter Tryz.func18, Tryz.ntmps18
  go_wp2_with fail
  refine HC.out.mono ?_
  rintro e w2 ⟨rfl, hm2, -, hq⟩
  have e1 : (w.alloc (.cells (q.cells g2 bm low) 77)).heap.size = w.heap.size + 1 := by simp
  have k2 := HK.out.same (hq.block _ HK.out.lt)
  have d9 : w2.cell? ⟨w.heap.size, 9, none⟩ = some (.map (some bm)) := k2.cell 9
  have f9 := k2.frozen 9
  have hlt2 := k2.lt
  have hne2 := Nat.ne_of_lt hlt2
  have hm2 : MapAt (w.heap.size + 1) q.hs w2 := by rw [← e1]; exact hm2
  have hM : Hid (CloneD g2 q w (.returned (.pointer (some ⟨w.heap.size, 0, none⟩))) (w2.setCell ⟨w.heap.size, 9, none⟩ (.map (some (w.heap.size + 1))))) := by
    refine Lib.hid ⟨w.heap.size, fun k => k = w.heap.size ∨ k = w.heap.size + 1, rfl, ⟨w.heap.size + 1, low, HL.out, fun k => k = w.heap.size, fun k => k = w.heap.size + 1, fun _ => Iff.rfl, fun k e e' => by omega, ⟨k2.put 9 _, fun _ => Iff.rfl⟩, ⟨hm2.same (Below.heap_setCell _ _ _ _ (by simp)), fun _ => Iff.rfl⟩⟩, fun x hx => by omega, (b0 HB.out hq).setCell (p := ⟨w.heap.size, 9, none⟩) (Nat.le_refl _) _⟩
  clear HC hm2 hq k2 HK HB
  go_wp2_with fail
  go_ret
  exact hM.out
end Go.Proofs.YtbpgblmhacpjlaaGreat
namespace Go.Proofs.YtbpgblmhacpjlaaGreat
open Go.RowKit

/-! how many are held -/
def cnt (hs : List Nat) : Nat := hs.countP fun x => decide (0 < x)
theorem map_getD (hs : List Nat) : (List.range hs.length).map (fun i => hs.getD i 0) = hs := by
  refine List.ext_getElem (by simp) fun i h1 h2 => ?_
  simp [h2]
theorem heldL_cnt (hs : List Nat) : (heldL hs).length = cnt hs := by
  unfold heldL cnt
  rw [← List.countP_eq_length_filter]
  have := List.countP_map (p := fun x => decide (0 < x)) (f := fun i => hs.getD i 0) (l := List.range hs.length)
  rw [map_getD] at this
  rw [this]; rfl
theorem cnt_set : ∀ (l : List Nat) (i n : Nat), i < l.length → cnt (l.set i n) + (if 0 < l.getD i 0 then 1 else 0) = cnt l + (if 0 < n then 1 else 0)
  | [], i, n, h => by simp at h
  | a :: l, 0, n, _ => by
    simp only [cnt, List.set_cons_zero, List.countP_cons, List.getD_cons_zero, decide_eq_true_eq]
    omega
  | a :: l, i + 1, n, h => by
    have := cnt_set l i n (by simpa using h)
    simp only [cnt] at this
    simp only [cnt, List.set_cons_succ, List.countP_cons, List.getD_cons_succ]
    omega
theorem cnt_zero (n : Nat) : cnt (List.replicate n 0) = 0 := by
  unfold cnt
  rw [List.countP_replicate]; simp
theorem held_posted {q : Vs} {n k : Nat} (hq : q.Ok n) (hk : 1 ≤ k) (hf : ¬ q.free < k) : (heldL (q.posted k).hs).length = (heldL q.hs).length + 1 := by
  have hr := post_room hq hk hf
  have := cnt_set q.hs (leastId q.hs) k hr
  rw [least_zero hr] at this
  rw [heldL_cnt, heldL_cnt]
  simp only [Vs.posted]
  simp at this
  rw [if_pos (by omega)] at this
  omega
theorem held_reaped {q : Vs} {id : Nat} (h : 0 < q.hs.getD id 0) : (heldL (q.reaped id).hs).length + 1 = (heldL q.hs).length := by
  have := cnt_set q.hs id 0 (held_lt h)
  rw [if_pos h] at this
  rw [heldL_cnt, heldL_cnt]
  simp only [Vs.reaped]
  simp at this
  omega

/-! noughts -/
theorem deAt_zero {xs : List UInt8} {n : Nat} (h : ∀ j, j < 16 → xs[n + j]? = some 0) : deAt xs n = ⟨0, 0, 0, 0⟩ := by
  have e : cut16 xs n = ⟨(List.replicate 16 (0 : UInt8)).toArray⟩ := by
    unfold cut16
    congr 2
    refine List.ext_getElem? fun j => ?_
    rw [cut_get, List.getElem?_replicate]
    split
    · rename_i hj; exact h j hj
    · rfl
  unfold deAt
  rw [e]
  rfl
theorem noughts_at (n j : Nat) (h : j < n) : (noughts n).data.toList[j]? = some 0 := by
  simp [noughts, h]
/-- the first places of a ring just laid -/
theorem new_zero {xs : List UInt8} {ring size drv dev : Nat} (h1 : ring + size * 16 ≤ xs.length) (h2 : drv + 4 ≤ xs.length) (h3 : dev + 4 ≤ xs.length) (d1 : ring + size * 16 ≤ drv) (d2 : ring + size * 16 ≤ dev) (s : Nat) (hs : s < size) : deAt (newX xs ring size drv dev) (ring + 16 * s) = ⟨0, 0, 0, 0⟩ := by
  have l1 : (over xs ring (noughts (size * 16))).length = xs.length := over_length _ _ _ (by rw [noughts_size]; exact h1)
  have l2 : (over (over xs ring (noughts (size * 16))) drv (noughts 4)).length = xs.length := by rw [over_length _ _ _ (by rw [noughts_size, l1]; exact h2), l1]
  unfold newX
  rw [deAt_off _ _ _ (by rw [noughts_size, l2]; exact h3) _ (by left; omega), deAt_off _ _ _ (by rw [noughts_size, l1]; exact h2) _ (by left; omega)]
  refine deAt_zero fun j hj => ?_
  rw [over_in _ _ _ (by rw [noughts_size]; exact h1), noughts_size, if_pos (by omega)]
  exact noughts_at _ _ (by omega)

/-! one part posted -/
theorem chain_one {xs : List UInt8} {a n : Int} {v : Bool} (h1 : 0 < n) (h2 : 0 ≤ a) (h3 : a + n ≤ xs.length) : chainB xs [⟨a, n, v⟩] = true := by
  unfold chainB chainGo chainGo mayB
  have : (0 ≤ n ∧ 0 ≤ a ∧ a + n ≤ (xs.length : Int)) := ⟨by omega, h2, h3⟩
  simp [h1, this]
theorem flF_top (more wr : Bool) : usedB (flF more wr true) true = false := by
  unfold flF
  rw [usedB_of (flN_rest more wr)]
  rfl
/-- a queue from which nothing came back -/
structure NI (n : Nat) (xs : List UInt8) (q : Vs) : Prop where
  ok : q.Ok xs.length
  len : xs.length = 1024
  ring : q.ring = 0
  size : q.size = n
  ba : q.ba = 0
  bw : q.bw = true
  nw : q.hs.sum < n → q.nw = true
  na : q.na = if q.hs.sum < n then q.hs.sum else 0
  idle : usedB (deAt xs 0).f true = false
theorem NI.reap {n : Nat} {xs : List UInt8} {q : Vs} (h : NI n xs q) : reapC xs q = (0, 0, false, 0, q) := by
  unfold reapC
  rw [h.ring, h.ba, h.bw, h.idle]
  rfl
theorem NI.post {n : Nat} {xs : List UInt8} {q : Vs} (h : NI n xs q) (hn : n ≤ 8) {m : Int} {v : Bool} (h1 : 0 < m) (h2 : m ≤ 64) :
    NI n (postC xs q [⟨600, m, v⟩]).2.2.1 (postC xs q [⟨600, m, v⟩]).2.2.2 ∧ (postC xs q [⟨600, m, v⟩]).2.2.2.since ≤ q.since + 1 := by
  have hc : chainB xs [⟨600, m, v⟩] = true := chain_one h1 (by omega) (by rw [h.len]; omega)
  unfold postC
  rw [if_pos hc]
  have hok := h.ok
  have hfl := free_le hok
  have hs := h.size
  split
  · exact ⟨h, Nat.le_succ _⟩
  · rename_i hf
    have hf : ¬ q.free < 1 := hf
    have hr := post_room hok (Nat.le_refl 1) hf
    have hsum : (q.hs.set (leastId q.hs) 1).sum = q.hs.sum + 1 := by
      have := sum_set q.hs (leastId q.hs) 1 hr
      rw [least_zero hr] at this
      omega
    have hlt : q.hs.sum < n := by omega
    have hna := h.na
    rw [if_pos hlt] at hna
    have hnw := h.nw hlt
    have hl := h.len
    have hp := pAt_le hok (i := 0) (by omega)
    have hpe : pAt q 0 = 16 * q.hs.sum := by unfold pAt; rw [h.ring, stA_zero hok.na, hna]; omega
    refine ⟨⟨?_, ?_, h.ring, h.size, h.ba, h.bw, ?_, ?_, ?_⟩, Nat.le_refl _⟩
    · show (q.posted 1).Ok (putN q _ _ xs 1).length
      rw [putN_length hok 1 (by omega)]
      exact posted_ok hok (Nat.le_refl 1) hf
    · show (putN q _ _ xs 1).length = 1024
      rw [putN_length hok 1 (by omega)]; exact hl
    · intro hl2
      have hl2 : (q.hs.set (leastId q.hs) 1).sum < n := hl2
      show stW q.size q.na 1 q.nw = true
      unfold stW
      rw [hs, hna, if_pos (by omega)]; exact hnw
    · show stA q.size q.na 1 = if (q.hs.set (leastId q.hs) 1).sum < n then (q.hs.set (leastId q.hs) 1).sum else 0
      unfold stA
      rw [hs, hna, hsum]
      split <;> omega
    · show usedB (deAt (over xs (pAt q 0) (encAt q ([⟨600, m, v⟩].map IPt.pt) (leastId q.hs) 0)) 0).f true = false
      by_cases h0 : q.hs.sum = 0
      · rw [hpe, h0]
        have hid : leastId q.hs < q.hs.length := hr
        have hhl := hok.hl
        unfold encAt encB
        have e : (([⟨600, m, v⟩] : List IPt).map IPt.pt).getD 0 noPt = ⟨600, m.toNat, v⟩ := rfl
        rw [e, deAt_on _ _ _ _ _ _ (by omega) (by show 600 < _; omega) (by show m.toNat < _; omega) (by omega) (flF_lt _ _ _), stW_zero _ hok.na, hnw]
        exact flF_top _ _
      · rw [deAt_off _ _ _ (by rw [encAt_size]; exact hp) _ (by left; omega)]
        exact h.idle
theorem ni_new {xs : List UInt8} (hx : xs.length = 1024) {n : Nat} (h1 : 1 ≤ n) (h2 : n ≤ 8) (hok : (newV 0 (n : Int) 512 516).Ok xs.length) : NI n (newX xs 0 n 512 516) (newV 0 (n : Int) 512 516) := by
  have hlen : (newX xs 0 n 512 516).length = xs.length := newX_length (by omega) (by omega) (by omega)
  refine ⟨by rw [hlen]; exact hok, by rw [hlen]; exact hx, rfl, rfl, rfl, rfl, fun _ => rfl, ?_, ?_⟩
  · show 0 = if (List.replicate n 0).sum < n then (List.replicate n 0).sum else 0
    rw [sum_zeros]; split <;> rfl
  · have := new_zero (xs := xs) (ring := 0) (size := n) (drv := 512) (dev := 516) (by omega) (by omega) (by omega) (by omega) (by omega) 0 (by omega)
    rw [show 0 + 16 * 0 = 0 from rfl] at this
    rw [this]; rfl

/-! a queue that fills up -/
structure FI (n ids : Nat) (xs : List UInt8) (q : Vs) : Prop where
  ok : q.Ok xs.length
  len : xs.length = 1024
  size : q.size = n
  pos : ∀ i, i < ids → 0 < q.hs.getD i 0
  rest : ∀ i, ids ≤ i → q.hs.getD i 0 = 0
theorem FI.le {n ids : Nat} {xs : List UInt8} {q : Vs} (h : FI n ids xs q) : ids ≤ n := by
  rcases Nat.lt_or_ge n ids with h1 | h1
  · have := held_lt (h.pos n h1)
    have := h.ok.hl; have := h.size
    omega
  · exact h1
theorem FI.least {n ids : Nat} {xs : List UInt8} {q : Vs} (h : FI n ids xs q) (hr : leastId q.hs < q.hs.length) : leastId q.hs = ids := by
  have hz := least_zero hr
  rcases Nat.lt_trichotomy (leastId q.hs) ids with h1 | h1 | h1
  · have := h.pos _ h1; omega
  · exact h1
  · have := least_pos h1
    rw [h.rest ids (Nat.le_refl _)] at this; omega
theorem FI.held {n ids : Nat} {xs : List UInt8} {q : Vs} (h : FI n ids xs q) : (heldL q.hs).length = ids := by
  have hp : (heldL q.hs).Perm (List.range ids) := (List.perm_ext_iff_of_nodup (heldL_nodup _) List.nodup_range).2 fun i => by
    rw [mem_heldL, List.mem_range]
    rcases Nat.lt_or_ge i ids with h1 | h1
    · exact ⟨fun _ => h1, fun _ => h.pos i h1⟩
    · rw [h.rest i h1]; omega
  have := hp.length_eq
  simpa using this
/-- so many parts of one byte each -/
def ones6 (k : Nat) : List IPt := (List.range k).map fun j : Nat => ⟨600 + (j : Int), 1, false⟩
theorem ones6_length (k : Nat) : (ones6 k).length = k := by simp [ones6]
theorem ones6_go {xs : List UInt8} (hx : xs.length = 1024) : ∀ (k j : Nat), j + k ≤ 10 → chainGo xs ((List.range' j k).map fun j : Nat => (⟨600 + (j : Int), 1, false⟩ : IPt)) false = true
  | 0, j, _ => rfl
  | k + 1, j, h => by
    rw [List.range'_succ, List.map_cons]
    unfold chainGo mayB
    have e : (0 : Int) ≤ 1 ∧ (0 : Int) ≤ 600 + (j : Int) ∧ 600 + (j : Int) + 1 ≤ (xs.length : Int) := by rw [hx]; omega
    rw [decide_eq_true e]
    simp only [decide_true, Bool.not_false, Bool.true_or, Bool.true_and, Int.zero_lt_one]
    exact ones6_go hx k (j + 1) (by omega)
theorem ones6_chain {xs : List UInt8} (hx : xs.length = 1024) {k : Nat} (h1 : 1 ≤ k) (h2 : k ≤ 4) : chainB xs (ones6 k) = true := by
  unfold chainB
  rw [ones6_length, decide_eq_true ⟨h1, by omega⟩]
  unfold ones6
  rw [List.range_eq_range']
  exact ones6_go hx k 0 (by omega)
theorem FI.post {n ids : Nat} {xs : List UInt8} {q : Vs} (h : FI n ids xs q) {k : Nat} (h1 : 1 ≤ k) (h2 : k ≤ 4) :
    (k ≤ q.free → (postC xs q (ones6 k)).1 = (ids : Int) ∧ (postC xs q (ones6 k)).2.1 = 0 ∧ FI n (ids + 1) (postC xs q (ones6 k)).2.2.1 (postC xs q (ones6 k)).2.2.2 ∧ (postC xs q (ones6 k)).2.2.2.free = q.free - k ∧ (postC xs q (ones6 k)).2.2.2.since ≤ q.since + 4) ∧
    (¬ k ≤ q.free → postC xs q (ones6 k) = (0, 151, xs, q)) := by
  have hc := ones6_chain h.len h1 h2
  have hl := ones6_length k
  have hfl := free_le h.ok
  refine ⟨fun hk => ?_, fun hk => ?_⟩
  · have hf : ¬ q.free < k := by omega
    have hr := post_room h.ok h1 hf
    have hle := h.least hr
    have e : postC xs q (ones6 k) = ((leastId q.hs : Int), 0, putN q ((ones6 k).map IPt.pt) (leastId q.hs) xs (ones6 k).length, q.posted (ones6 k).length) := by
      unfold postC
      rw [if_pos hc, hl, if_neg hf]
    rw [e, hl]
    refine ⟨by rw [hle], rfl, ⟨?_, ?_, h.size, fun i hi => ?_, fun i hi => ?_⟩, posted_free h.ok h1 hf, by show q.since + k ≤ _; omega⟩
    · show (q.posted k).Ok (putN q _ _ xs k).length
      rw [putN_length h.ok k (by omega)]
      exact posted_ok h.ok h1 hf
    · show (putN q _ _ xs k).length = 1024
      rw [putN_length h.ok k (by omega)]; exact h.len
    · show 0 < (q.hs.set (leastId q.hs) k).getD i 0
      rw [getD_set hr]
      split
      · omega
      · exact h.pos i (by omega)
    · show (q.hs.set (leastId q.hs) k).getD i 0 = 0
      rw [getD_set hr, if_neg (by omega)]
      exact h.rest i (by omega)
  · unfold postC
    rw [if_pos hc, hl, if_pos (by omega)]
theorem fi_new {xs : List UInt8} (hx : xs.length = 1024) {n : Nat} (h2 : n ≤ 8) (hok : (newV 0 (n : Int) 512 516).Ok xs.length) : FI n 0 (newX xs 0 n 512 516) (newV 0 (n : Int) 512 516) ∧ (newV 0 (n : Int) 512 516).free = n := by
  have hlen : (newX xs 0 n 512 516).length = xs.length := newX_length (by omega) (by omega) (by omega)
  refine ⟨⟨by rw [hlen]; exact hok, by rw [hlen]; exact hx, rfl, fun i hi => by omega, fun i _ => ?_⟩, ?_⟩
  · show (List.replicate n 0).getD i 0 = 0
    rw [List.getD_eq_getElem?_getD, List.getElem?_replicate]
    split <;> rfl
  · show n - (List.replicate n 0).sum = n
    rw [sum_zeros]; omega
end Go.Proofs.YtbpgblmhacpjlaaGreat
