/-
  control.change: what a command's bytes make of settings that stand in a variable; no condition.
-/
import Derived.Test.YtongkfimgohhbaaCj
import Derived.Deep.RegionHeld3
namespace Go.Proofs.Ytongkfimgohhbaa
open Go.RowKit

/-- behind the class and the number -/
def c2 (s : ByteArray) : ByteArray := tkR (tkR s 1) 1
def b2 (s : ByteArray) (b : Bool) : Bool := tkB (tkR s 1) 1 (tkB s 1 b)
def cN (s : ByteArray) : Nat := nm (tkR s 1) 1
def numV (K : Cg) (n v : Nat) : List Int := if n = 0 then addL K.f.vs v else delL K.f.vs v
/-- what a command makes of settings: could it be done, the settings then, what is left, was more asked for than there was? -/
def chgC (K : Cg) (s : ByteArray) (b : Bool) : Bool × Cg × ByteArray × Bool :=
  if nm s 1 = 0 then (decide (cN s ≤ 5) && decide (nm (c2 s) 1 ≤ 1), { K with f := K.f.flag (cN s) (nm (c2 s) 1 == 1) }, tkR (c2 s) 1, tkB (c2 s) 1 (b2 s b))
  else if nm s 1 = 1 then
    if cN s = 0 then (true, { K with f := { K.f with us := mcL (c2 s), ms := mcL (mcS (c2 s)) } }, mcS (mcS (c2 s)), mcB (mcS (c2 s)) (mcB (c2 s) (b2 s b)))
    else if cN s = 1 then (true, { K with f := { K.f with mac := tkS (c2 s) 6 } }, tkR (c2 s) 6, tkB (c2 s) 6 (b2 s b))
    else (false, K, s, b)
  else if nm s 1 = 2 then (decide (cN s ≤ 1) && isV (nm (c2 s) 2) && ascB K.f.vs, { K with f := { K.f with vs := numV K (cN s) (nm (c2 s) 2) } }, tkR (c2 s) 2, tkB (c2 s) 2 (b2 s b))
  else if nm s 1 = 4 then
    if cN s = 0 then (prB (nm (c2 s) 2) K.mx, { K with pairs := (nm (c2 s) 2 : Nat), on := false }, tkR (c2 s) 2, tkB (c2 s) 2 (b2 s b))
    else if cN s = 1 then (areB (rlK (c2 s)) (rlT (c2 s)) (rlX (c2 s)) (rlD (c2 s)) K.mx && prB (rlP (c2 s)) K.mx, { K with pairs := (rlP (c2 s) : Nat), on := true, kinds := (rlK (c2 s) : Nat), tb := rlT (c2 s), key := rlX (c2 s), df := (rlD (c2 s) : Nat) }, rl7 (c2 s), rlB (c2 s) (b2 s b))
    else (false, K, s, b)
  else (false, K, s, b)
def ChP (g h : Nat) (K : Cg) (s : ByteArray) (b : Bool) (w : World) (e : Ending) (w' : World) : Prop :=
  e = .returned (.bool (chgC K s b).1) ∧ Tch [g, h] w w' ∧ ((chgC K s b).1 = true → ∃ K', (chgC K s b).2.1.Same K' ∧ Pc g h K' (chgC K s b).2.2.1 (chgC K s b).2.2.2 w w')
theorem Pc.trans {g h : Nat} {K : Cg} {s : ByteArray} {b : Bool} {w w1 w' : World} (c : Pc g h K s b w1 w') (ht : Tch [g, h] w w1) : Pc g h K s b w w' := ⟨c.cv, c.rd, ht.trans c.tch⟩
theorem Pc.of {g h : Nat} {K : Cg} {s : ByteArray} {b : Bool} {w w' : World} (hc : Cv g h K w') (hk : Blk w' h 64 (rdC s b)) (ht : Tch [g, h] w w') : Pc g h K s b w w' := ⟨hc, hk, ht⟩
theorem Tch.l {g h : Nat} {w w' : World} (t : Tch [h] w w') : Tch [g, h] w w' := t.mono (by simp)
theorem Tch.r {g h : Nat} {w w' : World} (t : Tch [g] w w') : Tch [g, h] w w' := t.mono (by simp)
set_option maxHeartbeats 1000000 in
theorem ch0 (g h : Nat) (K : Cg) (s s1 s2 : ByteArray) (b b1 b2 : Bool) (n : Nat) (s3 : ByteArray) (b3 : Bool) (v : Nat) (w : World) (hc : Cv g h K w) (hb : Blk w h 64 (rdC s b)) (P : Ending → World → Prop)
    (A1 : ∀ W, Blk W h 64 (rdC s b) → Calls Try.prog 51 #[.pointer (some ⟨h, 0, none⟩), .int .i64 1] W fun e w' => e = .returned (.int .i64 0) ∧ Blk w' h 64 (rdC s1 b1) ∧ Tch [h] W w')
    (A2 : ∀ W, Blk W h 64 (rdC s1 b1) → Calls Try.prog 51 #[.pointer (some ⟨h, 0, none⟩), .int .i64 1] W fun e w' => e = .returned (.int .i64 (n : Nat)) ∧ Blk w' h 64 (rdC s2 b2) ∧ Tch [h] W w')
    (A3 : ∀ W, Blk W h 64 (rdC s2 b2) → Calls Try.prog 51 #[.pointer (some ⟨h, 0, none⟩), .int .i64 1] W fun e w' => e = .returned (.int .i64 (v : Nat)) ∧ Blk w' h 64 (rdC s3 b3) ∧ Tch [h] W w')
    (A4 : ∀ W, Cv g h K W → Blk W h 64 (rdC s3 b3) → Tch [g, h] w W → Calls Try.prog 52 #[.pointer (some ⟨g, 0, none⟩), .int .i64 (n : Nat), .int .i64 (v : Nat)] W fun e w' => ∃ a, e = .returned (.bool a) ∧ P e w') :
    Calls Try.prog 35 #[.pointer (some ⟨g, 0, none⟩), .pointer (some ⟨h, 0, none⟩)] w P := by
  have H1 := Lib.hid (A1 w hb)
  have H2 := Lib.hid A2
  have H3 := Lib.hid A3
  have HC := Lib.hid hc
  clear A1 A2 A3 hc hb
  have H4 := Lib.hid A4
  clear A4
  go_enter Try.func35, Try.ntmps35
  go_wp2_with fail
  refine (H1.out).mono ?_
  rintro e w1 ⟨rfl, hk, ht⟩
  have hc1 := HC.out.next ht
  have HK := Lib.hid hk
  have HT := Lib.hid ht
  have HD := Lib.hid hc1
  clear hk ht hc1 HC H1
  go_wp2_with fail
  refine (H2.out _ HK.out).mono ?_
  rintro e w2 ⟨rfl, hk, ht⟩
  have hc1 := HD.out.next ht
  replace HK := Lib.hid hk
  replace HT := Lib.hid (HT.out.trans ht)
  replace HD := Lib.hid hc1
  clear hk ht hc1 H2
  go_wp2
  go_region_held3 (fun _ => True) (trivial)
    (first
     | (go_at_call 51; (refine (H3.out w2.drew HK.out).mono ?_); rintro e w3 ⟨rfl, hk, ht⟩; have HK3 := Lib.hid hk; have HT3 := Lib.hid ht; clear hk ht)
     | (go_at_call 52; (refine (H4.out _ (HD.out.next (Tch.drew (Tch.refl _ _) |>.trans HT3.out)) HK3.out ((HT.out.drew.trans HT3.out).l)).mono ?_); rintro e w4 ⟨a, rfl, hp⟩; have HP := Lib.hid hp; clear hp))
  go_wp2
  try go_ret
  exact HP.out
set_option maxHeartbeats 1000000 in
theorem ch2 (g h : Nat) (K : Cg) (s s1 s2 : ByteArray) (b b1 b2 : Bool) (n : Nat) (s3 : ByteArray) (b3 : Bool) (v : Nat) (w : World) (hc : Cv g h K w) (hb : Blk w h 64 (rdC s b)) (P : Ending → World → Prop)
    (A1 : ∀ W, Blk W h 64 (rdC s b) → Calls Try.prog 51 #[.pointer (some ⟨h, 0, none⟩), .int .i64 1] W fun e w' => e = .returned (.int .i64 2) ∧ Blk w' h 64 (rdC s1 b1) ∧ Tch [h] W w')
    (A2 : ∀ W, Blk W h 64 (rdC s1 b1) → Calls Try.prog 51 #[.pointer (some ⟨h, 0, none⟩), .int .i64 1] W fun e w' => e = .returned (.int .i64 (n : Nat)) ∧ Blk w' h 64 (rdC s2 b2) ∧ Tch [h] W w')
    (A3 : ∀ W, Blk W h 64 (rdC s2 b2) → Calls Try.prog 51 #[.pointer (some ⟨h, 0, none⟩), .int .i64 2] W fun e w' => e = .returned (.int .i64 (v : Nat)) ∧ Blk w' h 64 (rdC s3 b3) ∧ Tch [h] W w')
    (A4 : ∀ W, Cv g h K W → Blk W h 64 (rdC s3 b3) → Tch [g, h] w W → Calls Try.prog 54 #[.pointer (some ⟨g, 0, none⟩), .int .i64 (n : Nat), .int .i64 (v : Nat)] W fun e w' => ∃ a, e = .returned (.bool a) ∧ P e w') :
    Calls Try.prog 35 #[.pointer (some ⟨g, 0, none⟩), .pointer (some ⟨h, 0, none⟩)] w P := by
  have H1 := Lib.hid (A1 w hb)
  have H2 := Lib.hid A2
  have H3 := Lib.hid A3
  have HC := Lib.hid hc
  clear A1 A2 A3 hc hb
  have H4 := Lib.hid A4
  clear A4
  go_enter Try.func35, Try.ntmps35
  go_wp2_with fail
  refine (H1.out).mono ?_
  rintro e w1 ⟨rfl, hk, ht⟩
  have hc1 := HC.out.next ht
  have HK := Lib.hid hk
  have HT := Lib.hid ht
  have HD := Lib.hid hc1
  clear hk ht hc1 HC H1
  go_wp2_with fail
  refine (H2.out _ HK.out).mono ?_
  rintro e w2 ⟨rfl, hk, ht⟩
  have hc1 := HD.out.next ht
  replace HK := Lib.hid hk
  replace HT := Lib.hid (HT.out.trans ht)
  replace HD := Lib.hid hc1
  clear hk ht hc1 H2
  go_wp2
  go_region_held3 (fun _ => True) (trivial)
    (first
     | (go_at_call 51; (refine (H3.out w2.drew HK.out).mono ?_); rintro e w3 ⟨rfl, hk, ht⟩; have HK3 := Lib.hid hk; have HT3 := Lib.hid ht; clear hk ht)
     | (go_at_call 54; (refine (H4.out _ (HD.out.next (Tch.drew (Tch.refl _ _) |>.trans HT3.out)) HK3.out ((HT.out.drew.trans HT3.out).l)).mono ?_); rintro e w4 ⟨a, rfl, hp⟩; have HP := Lib.hid hp; clear hp))
  go_wp2
  try go_ret
  exact HP.out
set_option maxHeartbeats 1000000 in
theorem ch1 (g h : Nat) (K : Cg) (s s1 s2 : ByteArray) (b b1 b2 : Bool) (n : Nat) (w : World) (hc : Cv g h K w) (hb : Blk w h 64 (rdC s b)) (P : Ending → World → Prop)
    (A1 : ∀ W, Blk W h 64 (rdC s b) → Calls Try.prog 51 #[.pointer (some ⟨h, 0, none⟩), .int .i64 1] W fun e w' => e = .returned (.int .i64 1) ∧ Blk w' h 64 (rdC s1 b1) ∧ Tch [h] W w')
    (A2 : ∀ W, Blk W h 64 (rdC s1 b1) → Calls Try.prog 51 #[.pointer (some ⟨h, 0, none⟩), .int .i64 1] W fun e w' => e = .returned (.int .i64 (n : Nat)) ∧ Blk w' h 64 (rdC s2 b2) ∧ Tch [h] W w')
    (A3 : ∀ W, Cv g h K W → Blk W h 64 (rdC s2 b2) → Tch [g, h] w W → Calls Try.prog 53 #[.pointer (some ⟨g, 0, none⟩), .int .i64 (n : Nat), .pointer (some ⟨h, 0, none⟩)] W fun e w' => ∃ a, e = .returned (.bool a) ∧ P e w') :
    Calls Try.prog 35 #[.pointer (some ⟨g, 0, none⟩), .pointer (some ⟨h, 0, none⟩)] w P := by
  have H1 := Lib.hid (A1 w hb)
  have H2 := Lib.hid A2
  have H3 := Lib.hid A3
  have HC := Lib.hid hc
  clear A1 A2 A3 hc hb
  go_enter Try.func35, Try.ntmps35
  go_wp2_with fail
  refine (H1.out).mono ?_
  rintro e w1 ⟨rfl, hk, ht⟩
  have hc1 := HC.out.next ht
  have HK := Lib.hid hk
  have HT := Lib.hid ht
  have HD := Lib.hid hc1
  clear hk ht hc1 HC H1
  go_wp2_with fail
  refine (H2.out _ HK.out).mono ?_
  rintro e w2 ⟨rfl, hk, ht⟩
  have hc1 := HD.out.next ht
  replace HK := Lib.hid hk
  replace HT := Lib.hid (HT.out.trans ht)
  replace HD := Lib.hid hc1
  clear hk ht hc1 H2
  go_wp2_with fail
  refine (H3.out _ HD.out HK.out HT.out.l).mono ?_
  rintro e w3 ⟨a, rfl, hp⟩
  have HP := Lib.hid hp
  clear hp
  go_wp2
  try go_ret
  exact HP.out
set_option maxHeartbeats 1000000 in
theorem ch4 (g h : Nat) (K : Cg) (s s1 s2 : ByteArray) (b b1 b2 : Bool) (n : Nat) (w : World) (hc : Cv g h K w) (hb : Blk w h 64 (rdC s b)) (P : Ending → World → Prop)
    (A1 : ∀ W, Blk W h 64 (rdC s b) → Calls Try.prog 51 #[.pointer (some ⟨h, 0, none⟩), .int .i64 1] W fun e w' => e = .returned (.int .i64 4) ∧ Blk w' h 64 (rdC s1 b1) ∧ Tch [h] W w')
    (A2 : ∀ W, Blk W h 64 (rdC s1 b1) → Calls Try.prog 51 #[.pointer (some ⟨h, 0, none⟩), .int .i64 1] W fun e w' => e = .returned (.int .i64 (n : Nat)) ∧ Blk w' h 64 (rdC s2 b2) ∧ Tch [h] W w')
    (A3 : ∀ W, Cv g h K W → Blk W h 64 (rdC s2 b2) → Tch [g, h] w W → Calls Try.prog 55 #[.pointer (some ⟨g, 0, none⟩), .int .i64 (n : Nat), .pointer (some ⟨h, 0, none⟩)] W fun e w' => ∃ a, e = .returned (.bool a) ∧ P e w') :
    Calls Try.prog 35 #[.pointer (some ⟨g, 0, none⟩), .pointer (some ⟨h, 0, none⟩)] w P := by
  have H1 := Lib.hid (A1 w hb)
  have H2 := Lib.hid A2
  have H3 := Lib.hid A3
  have HC := Lib.hid hc
  clear A1 A2 A3 hc hb
  go_enter Try.func35, Try.ntmps35
  go_wp2_with fail
  refine (H1.out).mono ?_
  rintro e w1 ⟨rfl, hk, ht⟩
  have hc1 := HC.out.next ht
  have HK := Lib.hid hk
  have HT := Lib.hid ht
  have HD := Lib.hid hc1
  clear hk ht hc1 HC H1
  go_wp2_with fail
  refine (H2.out _ HK.out).mono ?_
  rintro e w2 ⟨rfl, hk, ht⟩
  have hc1 := HD.out.next ht
  replace HK := Lib.hid hk
  replace HT := Lib.hid (HT.out.trans ht)
  replace HD := Lib.hid hc1
  clear hk ht hc1 H2
  go_wp2_with fail
  refine (H3.out _ HD.out HK.out HT.out.l).mono ?_
  rintro e w3 ⟨a, rfl, hp⟩
  have HP := Lib.hid hp
  clear hp
  go_wp2
  try go_ret
  exact HP.out
set_option maxHeartbeats 1000000 in
theorem chx (g h : Nat) (K : Cg) (s s1 s2 : ByteArray) (b b1 b2 : Bool) (n : Nat) (c : Nat) (e0 : ((c : Int) == 0) = false) (e1 : ((c : Int) == 1) = false) (e2 : ((c : Int) == 2) = false) (e4 : ((c : Int) == 4) = false) (w : World) (hc : Cv g h K w) (hb : Blk w h 64 (rdC s b)) (P : Ending → World → Prop)
    (A1 : ∀ W, Blk W h 64 (rdC s b) → Calls Try.prog 51 #[.pointer (some ⟨h, 0, none⟩), .int .i64 1] W fun e w' => e = .returned (.int .i64 (c : Nat)) ∧ Blk w' h 64 (rdC s1 b1) ∧ Tch [h] W w')
    (A2 : ∀ W, Blk W h 64 (rdC s1 b1) → Calls Try.prog 51 #[.pointer (some ⟨h, 0, none⟩), .int .i64 1] W fun e w' => e = .returned (.int .i64 (n : Nat)) ∧ Blk w' h 64 (rdC s2 b2) ∧ Tch [h] W w')
    (A3 : ∀ w', Tch [g, h] w w' → P (.returned (.bool false)) w') :
    Calls Try.prog 35 #[.pointer (some ⟨g, 0, none⟩), .pointer (some ⟨h, 0, none⟩)] w P := by
  have H1 := Lib.hid (A1 w hb)
  have H2 := Lib.hid A2
  have H3 := Lib.hid A3
  have HC := Lib.hid hc
  clear A1 A2 A3 hc hb
  go_enter Try.func35, Try.ntmps35
  go_wp2_with fail
  refine (H1.out).mono ?_
  rintro e w1 ⟨rfl, hk, ht⟩
  have hc1 := HC.out.next ht
  have HK := Lib.hid hk
  have HT := Lib.hid ht
  have HD := Lib.hid hc1
  clear hk ht hc1 HC H1
  go_wp2_with fail
  refine (H2.out _ HK.out).mono ?_
  rintro e w2 ⟨rfl, hk, ht⟩
  have hc1 := HD.out.next ht
  replace HK := Lib.hid hk
  replace HT := Lib.hid (HT.out.trans ht)
  replace HD := Lib.hid hc1
  clear hk ht hc1 H2
  go_wp2
  try go_ret
  exact H3.out _ HT.out.l
end Go.Proofs.Ytongkfimgohhbaa
