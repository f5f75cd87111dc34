/-
  What the document's Admits answers: the same as filter.Admits, for every filter and every string; no condition.
-/
import Derived.Test.YtboinnejkghfiaaAd
import Derived.Test.YtboinnejkghfiaaNt
namespace Go.Proofs.Ytboinnejkghfiaa
open Go.RowKit

theorem ra_e (mac : ByteArray) (pr au am nu nm na vo : Bool) (U M V : Option Addr) (us ms : List ByteArray) (vs : List Int) (uc mc vc : Nat) (s d r : ByteArray) (v p t : Int) (b : ByteArray) (E : Int) (w : World) (AP : ∀ W, Calls Try.prog 30 #[.string s] W fun e w' => e = .returned (.tuple #[.agg #[.string d, .string r, .int .i64 v, .int .i64 p, .int .i64 t, .string b], .int .i64 E]) ∧ Below W.heap.size W w') (h0 : (E != 0) = true) :
    Calls Try.prog 14 #[.agg #[.string mac, .bool pr, .bool au, .bool am, .bool nu, .bool nm, .bool na, .slice U us.length uc, .slice M ms.length mc, .bool vo, .slice V vs.length vc], .string s] w fun e w' => e = .returned (.bool false) ∧ Below w.heap.size w w' := by
  have HP := Lib.hid AP
  clear AP
  go_enter Try.func14, Try.ntmps14
  go_wp2_with fail
  have h1 := Held.new w 25 #[.string mac, .bool pr, .bool au, .bool am, .bool nu, .bool nm, .bool na, .slice U us.length uc, .slice M ms.length mc, .bool vo, .slice V vs.length vc]
  refine (HP.out _).mono ?_
  rintro e w1 ⟨rfl, hq⟩
  have h2 := h1.next hq
  clear hq h1
  have c0 := h2.blk.cell 0
  have c1 := h2.blk.cell 1
  have c2 := h2.blk.cell 2
  have c3 := h2.blk.cell 3
  have c4 := h2.blk.cell 4
  have c5 := h2.blk.cell 5
  have c6 := h2.blk.cell 6
  have c7 := h2.blk.cell 7
  have c8 := h2.blk.cell 8
  have c9 := h2.blk.cell 9
  have c10 := h2.blk.cell 10
  simp only [List.getElem?_toArray, List.getElem?_cons_zero, List.getElem?_cons_succ] at c0 c1 c2 c3 c4 c5 c6 c7 c8 c9 c10
  have hlt := h2.blk.lt
  go_wp2_with (first | (go_at_call 24; ((with_reducible refine (HK.out _).mono ?_); rintro e w' ⟨rfl, rfl⟩)) | (go_at_call 19; ((with_reducible refine (HV.out _ (ba h2.below _)).mono ?_); rintro e w' ⟨rfl, rfl⟩)) | (go_at_call 31; ((with_reducible refine (HL.out _ (ba h2.below _)).mono ?_); rintro e w' ⟨rfl, rfl⟩)))
  go_ret
  exact ⟨by first | rfl | simp, ba h2.below _⟩
theorem ra_x (mac : ByteArray) (pr au am nu nm na : Bool) (U M V : Option Addr) (us ms : List ByteArray) (vs : List Int) (uc mc vc : Nat) (s d r : ByteArray) (v p t : Int) (b : ByteArray) (E : Int) (w : World) (AP : ∀ W, Calls Try.prog 30 #[.string s] W fun e w' => e = .returned (.tuple #[.agg #[.string d, .string r, .int .i64 v, .int .i64 p, .int .i64 t, .string b], .int .i64 0]) ∧ Below W.heap.size W w') (hv : 0 ≤ v) (AV : ∀ W, Below w.heap.size w W → Calls Try.prog 19 #[.slice V vs.length vc, .int .i64 v] W fun e w' => e = .returned (.bool false) ∧ W = w') :
    Calls Try.prog 14 #[.agg #[.string mac, .bool pr, .bool au, .bool am, .bool nu, .bool nm, .bool na, .slice U us.length uc, .slice M ms.length mc, .bool true, .slice V vs.length vc], .string s] w fun e w' => e = .returned (.bool false) ∧ Below w.heap.size w w' := by
  have _ := E
  have HP := Lib.hid AP
  clear AP
  have HV := Lib.hid AV
  clear AV
  go_enter Try.func14, Try.ntmps14
  go_wp2_with fail
  have h1 := Held.new w 25 #[.string mac, .bool pr, .bool au, .bool am, .bool nu, .bool nm, .bool na, .slice U us.length uc, .slice M ms.length mc, .bool true, .slice V vs.length vc]
  refine (HP.out _).mono ?_
  rintro e w1 ⟨rfl, hq⟩
  have h2 := h1.next hq
  clear hq h1
  have c0 := h2.blk.cell 0
  have c1 := h2.blk.cell 1
  have c2 := h2.blk.cell 2
  have c3 := h2.blk.cell 3
  have c4 := h2.blk.cell 4
  have c5 := h2.blk.cell 5
  have c6 := h2.blk.cell 6
  have c7 := h2.blk.cell 7
  have c8 := h2.blk.cell 8
  have c9 := h2.blk.cell 9
  have c10 := h2.blk.cell 10
  simp only [List.getElem?_toArray, List.getElem?_cons_zero, List.getElem?_cons_succ] at c0 c1 c2 c3 c4 c5 c6 c7 c8 c9 c10
  have hlt := h2.blk.lt
  go_wp2_with (first | (go_at_call 24; ((with_reducible refine (HK.out _).mono ?_); rintro e w' ⟨rfl, rfl⟩)) | (go_at_call 19; ((with_reducible refine (HV.out _ (ba h2.below _)).mono ?_); rintro e w' ⟨rfl, rfl⟩)) | (go_at_call 31; ((with_reducible refine (HL.out _ (ba h2.below _)).mono ?_); rintro e w' ⟨rfl, rfl⟩)))
  go_ret
  exact ⟨by first | rfl | simp, ba h2.below _⟩
theorem ra_o3a (mac : ByteArray) (au am nu nm na : Bool) (U M V : Option Addr) (us ms : List ByteArray) (vs : List Int) (uc mc vc : Nat) (s d r : ByteArray) (v p t : Int) (b : ByteArray) (E : Int) (w : World) (AP : ∀ W, Calls Try.prog 30 #[.string s] W fun e w' => e = .returned (.tuple #[.agg #[.string d, .string r, .int .i64 v, .int .i64 p, .int .i64 t, .string b], .int .i64 0]) ∧ Below W.heap.size W w')  (AK : ∀ W, Calls Try.prog 24 #[.string d] W fun e w' => e = .returned (.int .i64 3) ∧ W = w') :
    Calls Try.prog 14 #[.agg #[.string mac, .bool true, .bool au, .bool am, .bool nu, .bool nm, .bool na, .slice U us.length uc, .slice M ms.length mc, .bool false, .slice V vs.length vc], .string s] w fun e w' => e = .returned (.bool true) ∧ Below w.heap.size w w' := by
  have _ := E
  have HP := Lib.hid AP
  clear AP
  have HK := Lib.hid AK
  clear AK
  go_enter Try.func14, Try.ntmps14
  go_wp2_with fail
  have h1 := Held.new w 25 #[.string mac, .bool true, .bool au, .bool am, .bool nu, .bool nm, .bool na, .slice U us.length uc, .slice M ms.length mc, .bool false, .slice V vs.length vc]
  refine (HP.out _).mono ?_
  rintro e w1 ⟨rfl, hq⟩
  have h2 := h1.next hq
  clear hq h1
  have c0 := h2.blk.cell 0
  have c1 := h2.blk.cell 1
  have c2 := h2.blk.cell 2
  have c3 := h2.blk.cell 3
  have c4 := h2.blk.cell 4
  have c5 := h2.blk.cell 5
  have c6 := h2.blk.cell 6
  have c7 := h2.blk.cell 7
  have c8 := h2.blk.cell 8
  have c9 := h2.blk.cell 9
  have c10 := h2.blk.cell 10
  simp only [List.getElem?_toArray, List.getElem?_cons_zero, List.getElem?_cons_succ] at c0 c1 c2 c3 c4 c5 c6 c7 c8 c9 c10
  have hlt := h2.blk.lt
  go_wp2_with (first | (go_at_call 24; ((with_reducible refine (HK.out _).mono ?_); rintro e w' ⟨rfl, rfl⟩)) | (go_at_call 19; ((with_reducible refine (HV.out _ (ba h2.below _)).mono ?_); rintro e w' ⟨rfl, rfl⟩)) | (go_at_call 31; ((with_reducible refine (HL.out _ (ba h2.below _)).mono ?_); rintro e w' ⟨rfl, rfl⟩)))
  go_ret
  exact ⟨by first | rfl | simp, ba h2.below _⟩
theorem ra_o3b (mac : ByteArray) (au am nu nm na : Bool) (U M V : Option Addr) (us ms : List ByteArray) (vs : List Int) (uc mc vc : Nat) (s d r : ByteArray) (v p t : Int) (b : ByteArray) (E : Int) (w : World) (AP : ∀ W, Calls Try.prog 30 #[.string s] W fun e w' => e = .returned (.tuple #[.agg #[.string d, .string r, .int .i64 v, .int .i64 p, .int .i64 t, .string b], .int .i64 0]) ∧ Below W.heap.size W w')  (AK : ∀ W, Calls Try.prog 24 #[.string d] W fun e w' => e = .returned (.int .i64 3) ∧ W = w') :
    Calls Try.prog 14 #[.agg #[.string mac, .bool false, .bool au, .bool am, .bool nu, .bool nm, .bool na, .slice U us.length uc, .slice M ms.length mc, .bool false, .slice V vs.length vc], .string s] w fun e w' => e = .returned (.bool (!na)) ∧ Below w.heap.size w w' := by
  have _ := E
  have HP := Lib.hid AP
  clear AP
  have HK := Lib.hid AK
  clear AK
  go_enter Try.func14, Try.ntmps14
  go_wp2_with fail
  have h1 := Held.new w 25 #[.string mac, .bool false, .bool au, .bool am, .bool nu, .bool nm, .bool na, .slice U us.length uc, .slice M ms.length mc, .bool false, .slice V vs.length vc]
  refine (HP.out _).mono ?_
  rintro e w1 ⟨rfl, hq⟩
  have h2 := h1.next hq
  clear hq h1
  have c0 := h2.blk.cell 0
  have c1 := h2.blk.cell 1
  have c2 := h2.blk.cell 2
  have c3 := h2.blk.cell 3
  have c4 := h2.blk.cell 4
  have c5 := h2.blk.cell 5
  have c6 := h2.blk.cell 6
  have c7 := h2.blk.cell 7
  have c8 := h2.blk.cell 8
  have c9 := h2.blk.cell 9
  have c10 := h2.blk.cell 10
  simp only [List.getElem?_toArray, List.getElem?_cons_zero, List.getElem?_cons_succ] at c0 c1 c2 c3 c4 c5 c6 c7 c8 c9 c10
  have hlt := h2.blk.lt
  go_wp2_with (first | (go_at_call 24; ((with_reducible refine (HK.out _).mono ?_); rintro e w' ⟨rfl, rfl⟩)) | (go_at_call 19; ((with_reducible refine (HV.out _ (ba h2.below _)).mono ?_); rintro e w' ⟨rfl, rfl⟩)) | (go_at_call 31; ((with_reducible refine (HL.out _ (ba h2.below _)).mono ?_); rintro e w' ⟨rfl, rfl⟩)))
  go_ret
  exact ⟨by first | rfl | simp, ba h2.below _⟩
theorem ra_o2a (mac : ByteArray) (au am nu nm na : Bool) (U M V : Option Addr) (us ms : List ByteArray) (vs : List Int) (uc mc vc : Nat) (s d r : ByteArray) (v p t : Int) (b : ByteArray) (E : Int) (w : World) (AP : ∀ W, Calls Try.prog 30 #[.string s] W fun e w' => e = .returned (.tuple #[.agg #[.string d, .string r, .int .i64 v, .int .i64 p, .int .i64 t, .string b], .int .i64 0]) ∧ Below W.heap.size W w')  (AK : ∀ W, Calls Try.prog 24 #[.string d] W fun e w' => e = .returned (.int .i64 2) ∧ W = w') :
    Calls Try.prog 14 #[.agg #[.string mac, .bool true, .bool au, .bool am, .bool nu, .bool nm, .bool na, .slice U us.length uc, .slice M ms.length mc, .bool false, .slice V vs.length vc], .string s] w fun e w' => e = .returned (.bool true) ∧ Below w.heap.size w w' := by
  have _ := E
  have HP := Lib.hid AP
  clear AP
  have HK := Lib.hid AK
  clear AK
  go_enter Try.func14, Try.ntmps14
  go_wp2_with fail
  have h1 := Held.new w 25 #[.string mac, .bool true, .bool au, .bool am, .bool nu, .bool nm, .bool na, .slice U us.length uc, .slice M ms.length mc, .bool false, .slice V vs.length vc]
  refine (HP.out _).mono ?_
  rintro e w1 ⟨rfl, hq⟩
  have h2 := h1.next hq
  clear hq h1
  have c0 := h2.blk.cell 0
  have c1 := h2.blk.cell 1
  have c2 := h2.blk.cell 2
  have c3 := h2.blk.cell 3
  have c4 := h2.blk.cell 4
  have c5 := h2.blk.cell 5
  have c6 := h2.blk.cell 6
  have c7 := h2.blk.cell 7
  have c8 := h2.blk.cell 8
  have c9 := h2.blk.cell 9
  have c10 := h2.blk.cell 10
  simp only [List.getElem?_toArray, List.getElem?_cons_zero, List.getElem?_cons_succ] at c0 c1 c2 c3 c4 c5 c6 c7 c8 c9 c10
  have hlt := h2.blk.lt
  go_wp2_with (first | (go_at_call 24; ((with_reducible refine (HK.out _).mono ?_); rintro e w' ⟨rfl, rfl⟩)) | (go_at_call 19; ((with_reducible refine (HV.out _ (ba h2.below _)).mono ?_); rintro e w' ⟨rfl, rfl⟩)) | (go_at_call 31; ((with_reducible refine (HL.out _ (ba h2.below _)).mono ?_); rintro e w' ⟨rfl, rfl⟩)))
  go_ret
  exact ⟨by first | rfl | simp, ba h2.below _⟩
theorem ra_o2b (mac : ByteArray) (au nu nm na : Bool) (U M V : Option Addr) (us ms : List ByteArray) (vs : List Int) (uc mc vc : Nat) (s d r : ByteArray) (v p t : Int) (b : ByteArray) (E : Int) (w : World) (AP : ∀ W, Calls Try.prog 30 #[.string s] W fun e w' => e = .returned (.tuple #[.agg #[.string d, .string r, .int .i64 v, .int .i64 p, .int .i64 t, .string b], .int .i64 0]) ∧ Below W.heap.size W w')  (AK : ∀ W, Calls Try.prog 24 #[.string d] W fun e w' => e = .returned (.int .i64 2) ∧ W = w') :
    Calls Try.prog 14 #[.agg #[.string mac, .bool false, .bool au, .bool true, .bool nu, .bool nm, .bool na, .slice U us.length uc, .slice M ms.length mc, .bool false, .slice V vs.length vc], .string s] w fun e w' => e = .returned (.bool true) ∧ Below w.heap.size w w' := by
  have _ := E
  have HP := Lib.hid AP
  clear AP
  have HK := Lib.hid AK
  clear AK
  go_enter Try.func14, Try.ntmps14
  go_wp2_with fail
  have h1 := Held.new w 25 #[.string mac, .bool false, .bool au, .bool true, .bool nu, .bool nm, .bool na, .slice U us.length uc, .slice M ms.length mc, .bool false, .slice V vs.length vc]
  refine (HP.out _).mono ?_
  rintro e w1 ⟨rfl, hq⟩
  have h2 := h1.next hq
  clear hq h1
  have c0 := h2.blk.cell 0
  have c1 := h2.blk.cell 1
  have c2 := h2.blk.cell 2
  have c3 := h2.blk.cell 3
  have c4 := h2.blk.cell 4
  have c5 := h2.blk.cell 5
  have c6 := h2.blk.cell 6
  have c7 := h2.blk.cell 7
  have c8 := h2.blk.cell 8
  have c9 := h2.blk.cell 9
  have c10 := h2.blk.cell 10
  simp only [List.getElem?_toArray, List.getElem?_cons_zero, List.getElem?_cons_succ] at c0 c1 c2 c3 c4 c5 c6 c7 c8 c9 c10
  have hlt := h2.blk.lt
  go_wp2_with (first | (go_at_call 24; ((with_reducible refine (HK.out _).mono ?_); rintro e w' ⟨rfl, rfl⟩)) | (go_at_call 19; ((with_reducible refine (HV.out _ (ba h2.below _)).mono ?_); rintro e w' ⟨rfl, rfl⟩)) | (go_at_call 31; ((with_reducible refine (HL.out _ (ba h2.below _)).mono ?_); rintro e w' ⟨rfl, rfl⟩)))
  go_ret
  exact ⟨by first | rfl | simp, ba h2.below _⟩
theorem ra_o2c (mac : ByteArray) (au nu na : Bool) (U M V : Option Addr) (us ms : List ByteArray) (vs : List Int) (uc mc vc : Nat) (s d r : ByteArray) (v p t : Int) (b : ByteArray) (E : Int) (w : World) (AP : ∀ W, Calls Try.prog 30 #[.string s] W fun e w' => e = .returned (.tuple #[.agg #[.string d, .string r, .int .i64 v, .int .i64 p, .int .i64 t, .string b], .int .i64 0]) ∧ Below W.heap.size W w')  (AK : ∀ W, Calls Try.prog 24 #[.string d] W fun e w' => e = .returned (.int .i64 2) ∧ W = w') :
    Calls Try.prog 14 #[.agg #[.string mac, .bool false, .bool au, .bool false, .bool nu, .bool true, .bool na, .slice U us.length uc, .slice M ms.length mc, .bool false, .slice V vs.length vc], .string s] w fun e w' => e = .returned (.bool false) ∧ Below w.heap.size w w' := by
  have _ := E
  have HP := Lib.hid AP
  clear AP
  have HK := Lib.hid AK
  clear AK
  go_enter Try.func14, Try.ntmps14
  go_wp2_with fail
  have h1 := Held.new w 25 #[.string mac, .bool false, .bool au, .bool false, .bool nu, .bool true, .bool na, .slice U us.length uc, .slice M ms.length mc, .bool false, .slice V vs.length vc]
  refine (HP.out _).mono ?_
  rintro e w1 ⟨rfl, hq⟩
  have h2 := h1.next hq
  clear hq h1
  have c0 := h2.blk.cell 0
  have c1 := h2.blk.cell 1
  have c2 := h2.blk.cell 2
  have c3 := h2.blk.cell 3
  have c4 := h2.blk.cell 4
  have c5 := h2.blk.cell 5
  have c6 := h2.blk.cell 6
  have c7 := h2.blk.cell 7
  have c8 := h2.blk.cell 8
  have c9 := h2.blk.cell 9
  have c10 := h2.blk.cell 10
  simp only [List.getElem?_toArray, List.getElem?_cons_zero, List.getElem?_cons_succ] at c0 c1 c2 c3 c4 c5 c6 c7 c8 c9 c10
  have hlt := h2.blk.lt
  go_wp2_with (first | (go_at_call 24; ((with_reducible refine (HK.out _).mono ?_); rintro e w' ⟨rfl, rfl⟩)) | (go_at_call 19; ((with_reducible refine (HV.out _ (ba h2.below _)).mono ?_); rintro e w' ⟨rfl, rfl⟩)) | (go_at_call 31; ((with_reducible refine (HL.out _ (ba h2.below _)).mono ?_); rintro e w' ⟨rfl, rfl⟩)))
  go_ret
  exact ⟨by first | rfl | simp, ba h2.below _⟩
theorem ra_o2d (mac : ByteArray) (au nu na : Bool) (U M V : Option Addr) (us ms : List ByteArray) (vs : List Int) (uc mc vc : Nat) (s d r : ByteArray) (v p t : Int) (b : ByteArray) (E : Int) (w : World) (AP : ∀ W, Calls Try.prog 30 #[.string s] W fun e w' => e = .returned (.tuple #[.agg #[.string d, .string r, .int .i64 v, .int .i64 p, .int .i64 t, .string b], .int .i64 0]) ∧ Below W.heap.size W w')  (AK : ∀ W, Calls Try.prog 24 #[.string d] W fun e w' => e = .returned (.int .i64 2) ∧ W = w') (bl : Bool) (AL : ∀ W, Below w.heap.size w W → Calls Try.prog 31 #[.slice M ms.length mc, .string d] W fun e w' => e = .returned (.bool bl) ∧ W = w') :
    Calls Try.prog 14 #[.agg #[.string mac, .bool false, .bool au, .bool false, .bool nu, .bool false, .bool na, .slice U us.length uc, .slice M ms.length mc, .bool false, .slice V vs.length vc], .string s] w fun e w' => e = .returned (.bool bl) ∧ Below w.heap.size w w' := by
  have _ := E
  have HP := Lib.hid AP
  clear AP
  have HK := Lib.hid AK
  clear AK
  have HL := Lib.hid AL
  clear AL
  go_enter Try.func14, Try.ntmps14
  go_wp2_with fail
  have h1 := Held.new w 25 #[.string mac, .bool false, .bool au, .bool false, .bool nu, .bool false, .bool na, .slice U us.length uc, .slice M ms.length mc, .bool false, .slice V vs.length vc]
  refine (HP.out _).mono ?_
  rintro e w1 ⟨rfl, hq⟩
  have h2 := h1.next hq
  clear hq h1
  have c0 := h2.blk.cell 0
  have c1 := h2.blk.cell 1
  have c2 := h2.blk.cell 2
  have c3 := h2.blk.cell 3
  have c4 := h2.blk.cell 4
  have c5 := h2.blk.cell 5
  have c6 := h2.blk.cell 6
  have c7 := h2.blk.cell 7
  have c8 := h2.blk.cell 8
  have c9 := h2.blk.cell 9
  have c10 := h2.blk.cell 10
  simp only [List.getElem?_toArray, List.getElem?_cons_zero, List.getElem?_cons_succ] at c0 c1 c2 c3 c4 c5 c6 c7 c8 c9 c10
  have hlt := h2.blk.lt
  go_wp2_with (first | (go_at_call 24; ((with_reducible refine (HK.out _).mono ?_); rintro e w' ⟨rfl, rfl⟩)) | (go_at_call 19; ((with_reducible refine (HV.out _ (ba h2.below _)).mono ?_); rintro e w' ⟨rfl, rfl⟩)) | (go_at_call 31; ((with_reducible refine (HL.out _ (ba h2.below _)).mono ?_); rintro e w' ⟨rfl, rfl⟩)))
  go_ret
  exact ⟨by first | rfl | simp, ba h2.below _⟩
theorem ra_o1a (mac : ByteArray) (au am nu nm na : Bool) (U M V : Option Addr) (us ms : List ByteArray) (vs : List Int) (uc mc vc : Nat) (s d r : ByteArray) (v p t : Int) (b : ByteArray) (E : Int) (w : World) (AP : ∀ W, Calls Try.prog 30 #[.string s] W fun e w' => e = .returned (.tuple #[.agg #[.string d, .string r, .int .i64 v, .int .i64 p, .int .i64 t, .string b], .int .i64 0]) ∧ Below W.heap.size W w')  (AK : ∀ W, Calls Try.prog 24 #[.string d] W fun e w' => e = .returned (.int .i64 1) ∧ W = w') :
    Calls Try.prog 14 #[.agg #[.string mac, .bool true, .bool au, .bool am, .bool nu, .bool nm, .bool na, .slice U us.length uc, .slice M ms.length mc, .bool false, .slice V vs.length vc], .string s] w fun e w' => e = .returned (.bool true) ∧ Below w.heap.size w w' := by
  have _ := E
  have HP := Lib.hid AP
  clear AP
  have HK := Lib.hid AK
  clear AK
  go_enter Try.func14, Try.ntmps14
  go_wp2_with fail
  have h1 := Held.new w 25 #[.string mac, .bool true, .bool au, .bool am, .bool nu, .bool nm, .bool na, .slice U us.length uc, .slice M ms.length mc, .bool false, .slice V vs.length vc]
  refine (HP.out _).mono ?_
  rintro e w1 ⟨rfl, hq⟩
  have h2 := h1.next hq
  clear hq h1
  have c0 := h2.blk.cell 0
  have c1 := h2.blk.cell 1
  have c2 := h2.blk.cell 2
  have c3 := h2.blk.cell 3
  have c4 := h2.blk.cell 4
  have c5 := h2.blk.cell 5
  have c6 := h2.blk.cell 6
  have c7 := h2.blk.cell 7
  have c8 := h2.blk.cell 8
  have c9 := h2.blk.cell 9
  have c10 := h2.blk.cell 10
  simp only [List.getElem?_toArray, List.getElem?_cons_zero, List.getElem?_cons_succ] at c0 c1 c2 c3 c4 c5 c6 c7 c8 c9 c10
  have hlt := h2.blk.lt
  go_wp2_with (first | (go_at_call 24; ((with_reducible refine (HK.out _).mono ?_); rintro e w' ⟨rfl, rfl⟩)) | (go_at_call 19; ((with_reducible refine (HV.out _ (ba h2.below _)).mono ?_); rintro e w' ⟨rfl, rfl⟩)) | (go_at_call 31; ((with_reducible refine (HL.out _ (ba h2.below _)).mono ?_); rintro e w' ⟨rfl, rfl⟩)))
  go_ret
  exact ⟨by first | rfl | simp, ba h2.below _⟩
theorem ra_o1b (mac : ByteArray) (am nu nm na : Bool) (U M V : Option Addr) (us ms : List ByteArray) (vs : List Int) (uc mc vc : Nat) (s d r : ByteArray) (v p t : Int) (b : ByteArray) (E : Int) (w : World) (AP : ∀ W, Calls Try.prog 30 #[.string s] W fun e w' => e = .returned (.tuple #[.agg #[.string d, .string r, .int .i64 v, .int .i64 p, .int .i64 t, .string b], .int .i64 0]) ∧ Below W.heap.size W w')  (AK : ∀ W, Calls Try.prog 24 #[.string d] W fun e w' => e = .returned (.int .i64 1) ∧ W = w') :
    Calls Try.prog 14 #[.agg #[.string mac, .bool false, .bool true, .bool am, .bool nu, .bool nm, .bool na, .slice U us.length uc, .slice M ms.length mc, .bool false, .slice V vs.length vc], .string s] w fun e w' => e = .returned (.bool true) ∧ Below w.heap.size w w' := by
  have _ := E
  have HP := Lib.hid AP
  clear AP
  have HK := Lib.hid AK
  clear AK
  go_enter Try.func14, Try.ntmps14
  go_wp2_with fail
  have h1 := Held.new w 25 #[.string mac, .bool false, .bool true, .bool am, .bool nu, .bool nm, .bool na, .slice U us.length uc, .slice M ms.length mc, .bool false, .slice V vs.length vc]
  refine (HP.out _).mono ?_
  rintro e w1 ⟨rfl, hq⟩
  have h2 := h1.next hq
  clear hq h1
  have c0 := h2.blk.cell 0
  have c1 := h2.blk.cell 1
  have c2 := h2.blk.cell 2
  have c3 := h2.blk.cell 3
  have c4 := h2.blk.cell 4
  have c5 := h2.blk.cell 5
  have c6 := h2.blk.cell 6
  have c7 := h2.blk.cell 7
  have c8 := h2.blk.cell 8
  have c9 := h2.blk.cell 9
  have c10 := h2.blk.cell 10
  simp only [List.getElem?_toArray, List.getElem?_cons_zero, List.getElem?_cons_succ] at c0 c1 c2 c3 c4 c5 c6 c7 c8 c9 c10
  have hlt := h2.blk.lt
  go_wp2_with (first | (go_at_call 24; ((with_reducible refine (HK.out _).mono ?_); rintro e w' ⟨rfl, rfl⟩)) | (go_at_call 19; ((with_reducible refine (HV.out _ (ba h2.below _)).mono ?_); rintro e w' ⟨rfl, rfl⟩)) | (go_at_call 31; ((with_reducible refine (HL.out _ (ba h2.below _)).mono ?_); rintro e w' ⟨rfl, rfl⟩)))
  go_ret
  exact ⟨by first | rfl | simp, ba h2.below _⟩
theorem ra_o1c (mac : ByteArray) (am nm na : Bool) (U M V : Option Addr) (us ms : List ByteArray) (vs : List Int) (uc mc vc : Nat) (s d r : ByteArray) (v p t : Int) (b : ByteArray) (E : Int) (w : World) (AP : ∀ W, Calls Try.prog 30 #[.string s] W fun e w' => e = .returned (.tuple #[.agg #[.string d, .string r, .int .i64 v, .int .i64 p, .int .i64 t, .string b], .int .i64 0]) ∧ Below W.heap.size W w')  (AK : ∀ W, Calls Try.prog 24 #[.string d] W fun e w' => e = .returned (.int .i64 1) ∧ W = w') :
    Calls Try.prog 14 #[.agg #[.string mac, .bool false, .bool false, .bool am, .bool true, .bool nm, .bool na, .slice U us.length uc, .slice M ms.length mc, .bool false, .slice V vs.length vc], .string s] w fun e w' => e = .returned (.bool false) ∧ Below w.heap.size w w' := by
  have _ := E
  have HP := Lib.hid AP
  clear AP
  have HK := Lib.hid AK
  clear AK
  go_enter Try.func14, Try.ntmps14
  go_wp2_with fail
  have h1 := Held.new w 25 #[.string mac, .bool false, .bool false, .bool am, .bool true, .bool nm, .bool na, .slice U us.length uc, .slice M ms.length mc, .bool false, .slice V vs.length vc]
  refine (HP.out _).mono ?_
  rintro e w1 ⟨rfl, hq⟩
  have h2 := h1.next hq
  clear hq h1
  have c0 := h2.blk.cell 0
  have c1 := h2.blk.cell 1
  have c2 := h2.blk.cell 2
  have c3 := h2.blk.cell 3
  have c4 := h2.blk.cell 4
  have c5 := h2.blk.cell 5
  have c6 := h2.blk.cell 6
  have c7 := h2.blk.cell 7
  have c8 := h2.blk.cell 8
  have c9 := h2.blk.cell 9
  have c10 := h2.blk.cell 10
  simp only [List.getElem?_toArray, List.getElem?_cons_zero, List.getElem?_cons_succ] at c0 c1 c2 c3 c4 c5 c6 c7 c8 c9 c10
  have hlt := h2.blk.lt
  go_wp2_with (first | (go_at_call 24; ((with_reducible refine (HK.out _).mono ?_); rintro e w' ⟨rfl, rfl⟩)) | (go_at_call 19; ((with_reducible refine (HV.out _ (ba h2.below _)).mono ?_); rintro e w' ⟨rfl, rfl⟩)) | (go_at_call 31; ((with_reducible refine (HL.out _ (ba h2.below _)).mono ?_); rintro e w' ⟨rfl, rfl⟩)))
  go_ret
  exact ⟨by first | rfl | simp, ba h2.below _⟩
theorem ra_o1d (mac : ByteArray) (am nm na : Bool) (U M V : Option Addr) (us ms : List ByteArray) (vs : List Int) (uc mc vc : Nat) (s d r : ByteArray) (v p t : Int) (b : ByteArray) (E : Int) (w : World) (AP : ∀ W, Calls Try.prog 30 #[.string s] W fun e w' => e = .returned (.tuple #[.agg #[.string d, .string r, .int .i64 v, .int .i64 p, .int .i64 t, .string b], .int .i64 0]) ∧ Below W.heap.size W w')  (AK : ∀ W, Calls Try.prog 24 #[.string d] W fun e w' => e = .returned (.int .i64 1) ∧ W = w') :
    Calls Try.prog 14 #[.agg #[.string d, .bool false, .bool false, .bool am, .bool false, .bool nm, .bool na, .slice U us.length uc, .slice M ms.length mc, .bool false, .slice V vs.length vc], .string s] w fun e w' => e = .returned (.bool true) ∧ Below w.heap.size w w' := by
  have _ := mac; have _ := E
  have HP := Lib.hid AP
  clear AP
  have HK := Lib.hid AK
  clear AK
  go_enter Try.func14, Try.ntmps14
  go_wp2_with fail
  have h1 := Held.new w 25 #[.string d, .bool false, .bool false, .bool am, .bool false, .bool nm, .bool na, .slice U us.length uc, .slice M ms.length mc, .bool false, .slice V vs.length vc]
  refine (HP.out _).mono ?_
  rintro e w1 ⟨rfl, hq⟩
  have h2 := h1.next hq
  clear hq h1
  have c0 := h2.blk.cell 0
  have c1 := h2.blk.cell 1
  have c2 := h2.blk.cell 2
  have c3 := h2.blk.cell 3
  have c4 := h2.blk.cell 4
  have c5 := h2.blk.cell 5
  have c6 := h2.blk.cell 6
  have c7 := h2.blk.cell 7
  have c8 := h2.blk.cell 8
  have c9 := h2.blk.cell 9
  have c10 := h2.blk.cell 10
  simp only [List.getElem?_toArray, List.getElem?_cons_zero, List.getElem?_cons_succ] at c0 c1 c2 c3 c4 c5 c6 c7 c8 c9 c10
  have hlt := h2.blk.lt
  go_wp2_with (first | (go_at_call 24; ((with_reducible refine (HK.out _).mono ?_); rintro e w' ⟨rfl, rfl⟩)) | (go_at_call 19; ((with_reducible refine (HV.out _ (ba h2.below _)).mono ?_); rintro e w' ⟨rfl, rfl⟩)) | (go_at_call 31; ((with_reducible refine (HL.out _ (ba h2.below _)).mono ?_); rintro e w' ⟨rfl, rfl⟩)))
  go_ret
  exact ⟨by first | rfl | simp, ba h2.below _⟩
theorem ra_o1e (mac : ByteArray) (am nm na : Bool) (U M V : Option Addr) (us ms : List ByteArray) (vs : List Int) (uc mc vc : Nat) (s d r : ByteArray) (v p t : Int) (b : ByteArray) (E : Int) (w : World) (AP : ∀ W, Calls Try.prog 30 #[.string s] W fun e w' => e = .returned (.tuple #[.agg #[.string d, .string r, .int .i64 v, .int .i64 p, .int .i64 t, .string b], .int .i64 0]) ∧ Below W.heap.size W w')  (AK : ∀ W, Calls Try.prog 24 #[.string d] W fun e w' => e = .returned (.int .i64 1) ∧ W = w') (bl : Bool) (AL : ∀ W, Below w.heap.size w W → Calls Try.prog 31 #[.slice U us.length uc, .string d] W fun e w' => e = .returned (.bool bl) ∧ W = w') (hd : (d.toList == mac.toList) = false) :
    Calls Try.prog 14 #[.agg #[.string mac, .bool false, .bool false, .bool am, .bool false, .bool nm, .bool na, .slice U us.length uc, .slice M ms.length mc, .bool false, .slice V vs.length vc], .string s] w fun e w' => e = .returned (.bool bl) ∧ Below w.heap.size w w' := by
  have _ := E
  have HP := Lib.hid AP
  clear AP
  have HK := Lib.hid AK
  clear AK
  have HL := Lib.hid AL
  clear AL
  go_enter Try.func14, Try.ntmps14
  go_wp2_with fail
  have h1 := Held.new w 25 #[.string mac, .bool false, .bool false, .bool am, .bool false, .bool nm, .bool na, .slice U us.length uc, .slice M ms.length mc, .bool false, .slice V vs.length vc]
  refine (HP.out _).mono ?_
  rintro e w1 ⟨rfl, hq⟩
  have h2 := h1.next hq
  clear hq h1
  have c0 := h2.blk.cell 0
  have c1 := h2.blk.cell 1
  have c2 := h2.blk.cell 2
  have c3 := h2.blk.cell 3
  have c4 := h2.blk.cell 4
  have c5 := h2.blk.cell 5
  have c6 := h2.blk.cell 6
  have c7 := h2.blk.cell 7
  have c8 := h2.blk.cell 8
  have c9 := h2.blk.cell 9
  have c10 := h2.blk.cell 10
  simp only [List.getElem?_toArray, List.getElem?_cons_zero, List.getElem?_cons_succ] at c0 c1 c2 c3 c4 c5 c6 c7 c8 c9 c10
  have hlt := h2.blk.lt
  go_wp2_with (first | (go_at_call 24; ((with_reducible refine (HK.out _).mono ?_); rintro e w' ⟨rfl, rfl⟩)) | (go_at_call 19; ((with_reducible refine (HV.out _ (ba h2.below _)).mono ?_); rintro e w' ⟨rfl, rfl⟩)) | (go_at_call 31; ((with_reducible refine (HL.out _ (ba h2.below _)).mono ?_); rintro e w' ⟨rfl, rfl⟩)))
  go_ret
  exact ⟨by first | rfl | simp, ba h2.below _⟩
theorem ra_m3a (mac : ByteArray) (au am nu nm na : Bool) (U M V : Option Addr) (us ms : List ByteArray) (vs : List Int) (uc mc vc : Nat) (s d r : ByteArray) (v p t : Int) (b : ByteArray) (E : Int) (w : World) (AP : ∀ W, Calls Try.prog 30 #[.string s] W fun e w' => e = .returned (.tuple #[.agg #[.string d, .string r, .int .i64 (-1), .int .i64 p, .int .i64 t, .string b], .int .i64 0]) ∧ Below W.heap.size W w')  (AK : ∀ W, Calls Try.prog 24 #[.string d] W fun e w' => e = .returned (.int .i64 3) ∧ W = w') :
    Calls Try.prog 14 #[.agg #[.string mac, .bool true, .bool au, .bool am, .bool nu, .bool nm, .bool na, .slice U us.length uc, .slice M ms.length mc, .bool true, .slice V vs.length vc], .string s] w fun e w' => e = .returned (.bool true) ∧ Below w.heap.size w w' := by
  have _ := v; have _ := E
  have HP := Lib.hid AP
  clear AP
  have HK := Lib.hid AK
  clear AK
  go_enter Try.func14, Try.ntmps14
  go_wp2_with fail
  have h1 := Held.new w 25 #[.string mac, .bool true, .bool au, .bool am, .bool nu, .bool nm, .bool na, .slice U us.length uc, .slice M ms.length mc, .bool true, .slice V vs.length vc]
  refine (HP.out _).mono ?_
  rintro e w1 ⟨rfl, hq⟩
  have h2 := h1.next hq
  clear hq h1
  have c0 := h2.blk.cell 0
  have c1 := h2.blk.cell 1
  have c2 := h2.blk.cell 2
  have c3 := h2.blk.cell 3
  have c4 := h2.blk.cell 4
  have c5 := h2.blk.cell 5
  have c6 := h2.blk.cell 6
  have c7 := h2.blk.cell 7
  have c8 := h2.blk.cell 8
  have c9 := h2.blk.cell 9
  have c10 := h2.blk.cell 10
  simp only [List.getElem?_toArray, List.getElem?_cons_zero, List.getElem?_cons_succ] at c0 c1 c2 c3 c4 c5 c6 c7 c8 c9 c10
  have hlt := h2.blk.lt
  go_wp2_with (first | (go_at_call 24; ((with_reducible refine (HK.out _).mono ?_); rintro e w' ⟨rfl, rfl⟩)) | (go_at_call 19; ((with_reducible refine (HV.out _ (ba h2.below _)).mono ?_); rintro e w' ⟨rfl, rfl⟩)) | (go_at_call 31; ((with_reducible refine (HL.out _ (ba h2.below _)).mono ?_); rintro e w' ⟨rfl, rfl⟩)))
  go_ret
  exact ⟨by first | rfl | simp, ba h2.below _⟩
theorem ra_m3b (mac : ByteArray) (au am nu nm na : Bool) (U M V : Option Addr) (us ms : List ByteArray) (vs : List Int) (uc mc vc : Nat) (s d r : ByteArray) (v p t : Int) (b : ByteArray) (E : Int) (w : World) (AP : ∀ W, Calls Try.prog 30 #[.string s] W fun e w' => e = .returned (.tuple #[.agg #[.string d, .string r, .int .i64 (-1), .int .i64 p, .int .i64 t, .string b], .int .i64 0]) ∧ Below W.heap.size W w')  (AK : ∀ W, Calls Try.prog 24 #[.string d] W fun e w' => e = .returned (.int .i64 3) ∧ W = w') :
    Calls Try.prog 14 #[.agg #[.string mac, .bool false, .bool au, .bool am, .bool nu, .bool nm, .bool na, .slice U us.length uc, .slice M ms.length mc, .bool true, .slice V vs.length vc], .string s] w fun e w' => e = .returned (.bool (!na)) ∧ Below w.heap.size w w' := by
  have _ := v; have _ := E
  have HP := Lib.hid AP
  clear AP
  have HK := Lib.hid AK
  clear AK
  go_enter Try.func14, Try.ntmps14
  go_wp2_with fail
  have h1 := Held.new w 25 #[.string mac, .bool false, .bool au, .bool am, .bool nu, .bool nm, .bool na, .slice U us.length uc, .slice M ms.length mc, .bool true, .slice V vs.length vc]
  refine (HP.out _).mono ?_
  rintro e w1 ⟨rfl, hq⟩
  have h2 := h1.next hq
  clear hq h1
  have c0 := h2.blk.cell 0
  have c1 := h2.blk.cell 1
  have c2 := h2.blk.cell 2
  have c3 := h2.blk.cell 3
  have c4 := h2.blk.cell 4
  have c5 := h2.blk.cell 5
  have c6 := h2.blk.cell 6
  have c7 := h2.blk.cell 7
  have c8 := h2.blk.cell 8
  have c9 := h2.blk.cell 9
  have c10 := h2.blk.cell 10
  simp only [List.getElem?_toArray, List.getElem?_cons_zero, List.getElem?_cons_succ] at c0 c1 c2 c3 c4 c5 c6 c7 c8 c9 c10
  have hlt := h2.blk.lt
  go_wp2_with (first | (go_at_call 24; ((with_reducible refine (HK.out _).mono ?_); rintro e w' ⟨rfl, rfl⟩)) | (go_at_call 19; ((with_reducible refine (HV.out _ (ba h2.below _)).mono ?_); rintro e w' ⟨rfl, rfl⟩)) | (go_at_call 31; ((with_reducible refine (HL.out _ (ba h2.below _)).mono ?_); rintro e w' ⟨rfl, rfl⟩)))
  go_ret
  exact ⟨by first | rfl | simp, ba h2.below _⟩
theorem ra_m2a (mac : ByteArray) (au am nu nm na : Bool) (U M V : Option Addr) (us ms : List ByteArray) (vs : List Int) (uc mc vc : Nat) (s d r : ByteArray) (v p t : Int) (b : ByteArray) (E : Int) (w : World) (AP : ∀ W, Calls Try.prog 30 #[.string s] W fun e w' => e = .returned (.tuple #[.agg #[.string d, .string r, .int .i64 (-1), .int .i64 p, .int .i64 t, .string b], .int .i64 0]) ∧ Below W.heap.size W w')  (AK : ∀ W, Calls Try.prog 24 #[.string d] W fun e w' => e = .returned (.int .i64 2) ∧ W = w') :
    Calls Try.prog 14 #[.agg #[.string mac, .bool true, .bool au, .bool am, .bool nu, .bool nm, .bool na, .slice U us.length uc, .slice M ms.length mc, .bool true, .slice V vs.length vc], .string s] w fun e w' => e = .returned (.bool true) ∧ Below w.heap.size w w' := by
  have _ := v; have _ := E
  have HP := Lib.hid AP
  clear AP
  have HK := Lib.hid AK
  clear AK
  go_enter Try.func14, Try.ntmps14
  go_wp2_with fail
  have h1 := Held.new w 25 #[.string mac, .bool true, .bool au, .bool am, .bool nu, .bool nm, .bool na, .slice U us.length uc, .slice M ms.length mc, .bool true, .slice V vs.length vc]
  refine (HP.out _).mono ?_
  rintro e w1 ⟨rfl, hq⟩
  have h2 := h1.next hq
  clear hq h1
  have c0 := h2.blk.cell 0
  have c1 := h2.blk.cell 1
  have c2 := h2.blk.cell 2
  have c3 := h2.blk.cell 3
  have c4 := h2.blk.cell 4
  have c5 := h2.blk.cell 5
  have c6 := h2.blk.cell 6
  have c7 := h2.blk.cell 7
  have c8 := h2.blk.cell 8
  have c9 := h2.blk.cell 9
  have c10 := h2.blk.cell 10
  simp only [List.getElem?_toArray, List.getElem?_cons_zero, List.getElem?_cons_succ] at c0 c1 c2 c3 c4 c5 c6 c7 c8 c9 c10
  have hlt := h2.blk.lt
  go_wp2_with (first | (go_at_call 24; ((with_reducible refine (HK.out _).mono ?_); rintro e w' ⟨rfl, rfl⟩)) | (go_at_call 19; ((with_reducible refine (HV.out _ (ba h2.below _)).mono ?_); rintro e w' ⟨rfl, rfl⟩)) | (go_at_call 31; ((with_reducible refine (HL.out _ (ba h2.below _)).mono ?_); rintro e w' ⟨rfl, rfl⟩)))
  go_ret
  exact ⟨by first | rfl | simp, ba h2.below _⟩
theorem ra_m2b (mac : ByteArray) (au nu nm na : Bool) (U M V : Option Addr) (us ms : List ByteArray) (vs : List Int) (uc mc vc : Nat) (s d r : ByteArray) (v p t : Int) (b : ByteArray) (E : Int) (w : World) (AP : ∀ W, Calls Try.prog 30 #[.string s] W fun e w' => e = .returned (.tuple #[.agg #[.string d, .string r, .int .i64 (-1), .int .i64 p, .int .i64 t, .string b], .int .i64 0]) ∧ Below W.heap.size W w')  (AK : ∀ W, Calls Try.prog 24 #[.string d] W fun e w' => e = .returned (.int .i64 2) ∧ W = w') :
    Calls Try.prog 14 #[.agg #[.string mac, .bool false, .bool au, .bool true, .bool nu, .bool nm, .bool na, .slice U us.length uc, .slice M ms.length mc, .bool true, .slice V vs.length vc], .string s] w fun e w' => e = .returned (.bool true) ∧ Below w.heap.size w w' := by
  have _ := v; have _ := E
  have HP := Lib.hid AP
  clear AP
  have HK := Lib.hid AK
  clear AK
  go_enter Try.func14, Try.ntmps14
  go_wp2_with fail
  have h1 := Held.new w 25 #[.string mac, .bool false, .bool au, .bool true, .bool nu, .bool nm, .bool na, .slice U us.length uc, .slice M ms.length mc, .bool true, .slice V vs.length vc]
  refine (HP.out _).mono ?_
  rintro e w1 ⟨rfl, hq⟩
  have h2 := h1.next hq
  clear hq h1
  have c0 := h2.blk.cell 0
  have c1 := h2.blk.cell 1
  have c2 := h2.blk.cell 2
  have c3 := h2.blk.cell 3
  have c4 := h2.blk.cell 4
  have c5 := h2.blk.cell 5
  have c6 := h2.blk.cell 6
  have c7 := h2.blk.cell 7
  have c8 := h2.blk.cell 8
  have c9 := h2.blk.cell 9
  have c10 := h2.blk.cell 10
  simp only [List.getElem?_toArray, List.getElem?_cons_zero, List.getElem?_cons_succ] at c0 c1 c2 c3 c4 c5 c6 c7 c8 c9 c10
  have hlt := h2.blk.lt
  go_wp2_with (first | (go_at_call 24; ((with_reducible refine (HK.out _).mono ?_); rintro e w' ⟨rfl, rfl⟩)) | (go_at_call 19; ((with_reducible refine (HV.out _ (ba h2.below _)).mono ?_); rintro e w' ⟨rfl, rfl⟩)) | (go_at_call 31; ((with_reducible refine (HL.out _ (ba h2.below _)).mono ?_); rintro e w' ⟨rfl, rfl⟩)))
  go_ret
  exact ⟨by first | rfl | simp, ba h2.below _⟩
theorem ra_m2c (mac : ByteArray) (au nu na : Bool) (U M V : Option Addr) (us ms : List ByteArray) (vs : List Int) (uc mc vc : Nat) (s d r : ByteArray) (v p t : Int) (b : ByteArray) (E : Int) (w : World) (AP : ∀ W, Calls Try.prog 30 #[.string s] W fun e w' => e = .returned (.tuple #[.agg #[.string d, .string r, .int .i64 (-1), .int .i64 p, .int .i64 t, .string b], .int .i64 0]) ∧ Below W.heap.size W w')  (AK : ∀ W, Calls Try.prog 24 #[.string d] W fun e w' => e = .returned (.int .i64 2) ∧ W = w') :
    Calls Try.prog 14 #[.agg #[.string mac, .bool false, .bool au, .bool false, .bool nu, .bool true, .bool na, .slice U us.length uc, .slice M ms.length mc, .bool true, .slice V vs.length vc], .string s] w fun e w' => e = .returned (.bool false) ∧ Below w.heap.size w w' := by
  have _ := v; have _ := E
  have HP := Lib.hid AP
  clear AP
  have HK := Lib.hid AK
  clear AK
  go_enter Try.func14, Try.ntmps14
  go_wp2_with fail
  have h1 := Held.new w 25 #[.string mac, .bool false, .bool au, .bool false, .bool nu, .bool true, .bool na, .slice U us.length uc, .slice M ms.length mc, .bool true, .slice V vs.length vc]
  refine (HP.out _).mono ?_
  rintro e w1 ⟨rfl, hq⟩
  have h2 := h1.next hq
  clear hq h1
  have c0 := h2.blk.cell 0
  have c1 := h2.blk.cell 1
  have c2 := h2.blk.cell 2
  have c3 := h2.blk.cell 3
  have c4 := h2.blk.cell 4
  have c5 := h2.blk.cell 5
  have c6 := h2.blk.cell 6
  have c7 := h2.blk.cell 7
  have c8 := h2.blk.cell 8
  have c9 := h2.blk.cell 9
  have c10 := h2.blk.cell 10
  simp only [List.getElem?_toArray, List.getElem?_cons_zero, List.getElem?_cons_succ] at c0 c1 c2 c3 c4 c5 c6 c7 c8 c9 c10
  have hlt := h2.blk.lt
  go_wp2_with (first | (go_at_call 24; ((with_reducible refine (HK.out _).mono ?_); rintro e w' ⟨rfl, rfl⟩)) | (go_at_call 19; ((with_reducible refine (HV.out _ (ba h2.below _)).mono ?_); rintro e w' ⟨rfl, rfl⟩)) | (go_at_call 31; ((with_reducible refine (HL.out _ (ba h2.below _)).mono ?_); rintro e w' ⟨rfl, rfl⟩)))
  go_ret
  exact ⟨by first | rfl | simp, ba h2.below _⟩
theorem ra_m2d (mac : ByteArray) (au nu na : Bool) (U M V : Option Addr) (us ms : List ByteArray) (vs : List Int) (uc mc vc : Nat) (s d r : ByteArray) (v p t : Int) (b : ByteArray) (E : Int) (w : World) (AP : ∀ W, Calls Try.prog 30 #[.string s] W fun e w' => e = .returned (.tuple #[.agg #[.string d, .string r, .int .i64 (-1), .int .i64 p, .int .i64 t, .string b], .int .i64 0]) ∧ Below W.heap.size W w')  (AK : ∀ W, Calls Try.prog 24 #[.string d] W fun e w' => e = .returned (.int .i64 2) ∧ W = w') (bl : Bool) (AL : ∀ W, Below w.heap.size w W → Calls Try.prog 31 #[.slice M ms.length mc, .string d] W fun e w' => e = .returned (.bool bl) ∧ W = w') :
    Calls Try.prog 14 #[.agg #[.string mac, .bool false, .bool au, .bool false, .bool nu, .bool false, .bool na, .slice U us.length uc, .slice M ms.length mc, .bool true, .slice V vs.length vc], .string s] w fun e w' => e = .returned (.bool bl) ∧ Below w.heap.size w w' := by
  have _ := v; have _ := E
  have HP := Lib.hid AP
  clear AP
  have HK := Lib.hid AK
  clear AK
  have HL := Lib.hid AL
  clear AL
  go_enter Try.func14, Try.ntmps14
  go_wp2_with fail
  have h1 := Held.new w 25 #[.string mac, .bool false, .bool au, .bool false, .bool nu, .bool false, .bool na, .slice U us.length uc, .slice M ms.length mc, .bool true, .slice V vs.length vc]
  refine (HP.out _).mono ?_
  rintro e w1 ⟨rfl, hq⟩
  have h2 := h1.next hq
  clear hq h1
  have c0 := h2.blk.cell 0
  have c1 := h2.blk.cell 1
  have c2 := h2.blk.cell 2
  have c3 := h2.blk.cell 3
  have c4 := h2.blk.cell 4
  have c5 := h2.blk.cell 5
  have c6 := h2.blk.cell 6
  have c7 := h2.blk.cell 7
  have c8 := h2.blk.cell 8
  have c9 := h2.blk.cell 9
  have c10 := h2.blk.cell 10
  simp only [List.getElem?_toArray, List.getElem?_cons_zero, List.getElem?_cons_succ] at c0 c1 c2 c3 c4 c5 c6 c7 c8 c9 c10
  have hlt := h2.blk.lt
  go_wp2_with (first | (go_at_call 24; ((with_reducible refine (HK.out _).mono ?_); rintro e w' ⟨rfl, rfl⟩)) | (go_at_call 19; ((with_reducible refine (HV.out _ (ba h2.below _)).mono ?_); rintro e w' ⟨rfl, rfl⟩)) | (go_at_call 31; ((with_reducible refine (HL.out _ (ba h2.below _)).mono ?_); rintro e w' ⟨rfl, rfl⟩)))
  go_ret
  exact ⟨by first | rfl | simp, ba h2.below _⟩
theorem ra_m1a (mac : ByteArray) (au am nu nm na : Bool) (U M V : Option Addr) (us ms : List ByteArray) (vs : List Int) (uc mc vc : Nat) (s d r : ByteArray) (v p t : Int) (b : ByteArray) (E : Int) (w : World) (AP : ∀ W, Calls Try.prog 30 #[.string s] W fun e w' => e = .returned (.tuple #[.agg #[.string d, .string r, .int .i64 (-1), .int .i64 p, .int .i64 t, .string b], .int .i64 0]) ∧ Below W.heap.size W w')  (AK : ∀ W, Calls Try.prog 24 #[.string d] W fun e w' => e = .returned (.int .i64 1) ∧ W = w') :
    Calls Try.prog 14 #[.agg #[.string mac, .bool true, .bool au, .bool am, .bool nu, .bool nm, .bool na, .slice U us.length uc, .slice M ms.length mc, .bool true, .slice V vs.length vc], .string s] w fun e w' => e = .returned (.bool true) ∧ Below w.heap.size w w' := by
  have _ := v; have _ := E
  have HP := Lib.hid AP
  clear AP
  have HK := Lib.hid AK
  clear AK
  go_enter Try.func14, Try.ntmps14
  go_wp2_with fail
  have h1 := Held.new w 25 #[.string mac, .bool true, .bool au, .bool am, .bool nu, .bool nm, .bool na, .slice U us.length uc, .slice M ms.length mc, .bool true, .slice V vs.length vc]
  refine (HP.out _).mono ?_
  rintro e w1 ⟨rfl, hq⟩
  have h2 := h1.next hq
  clear hq h1
  have c0 := h2.blk.cell 0
  have c1 := h2.blk.cell 1
  have c2 := h2.blk.cell 2
  have c3 := h2.blk.cell 3
  have c4 := h2.blk.cell 4
  have c5 := h2.blk.cell 5
  have c6 := h2.blk.cell 6
  have c7 := h2.blk.cell 7
  have c8 := h2.blk.cell 8
  have c9 := h2.blk.cell 9
  have c10 := h2.blk.cell 10
  simp only [List.getElem?_toArray, List.getElem?_cons_zero, List.getElem?_cons_succ] at c0 c1 c2 c3 c4 c5 c6 c7 c8 c9 c10
  have hlt := h2.blk.lt
  go_wp2_with (first | (go_at_call 24; ((with_reducible refine (HK.out _).mono ?_); rintro e w' ⟨rfl, rfl⟩)) | (go_at_call 19; ((with_reducible refine (HV.out _ (ba h2.below _)).mono ?_); rintro e w' ⟨rfl, rfl⟩)) | (go_at_call 31; ((with_reducible refine (HL.out _ (ba h2.below _)).mono ?_); rintro e w' ⟨rfl, rfl⟩)))
  go_ret
  exact ⟨by first | rfl | simp, ba h2.below _⟩
theorem ra_m1b (mac : ByteArray) (am nu nm na : Bool) (U M V : Option Addr) (us ms : List ByteArray) (vs : List Int) (uc mc vc : Nat) (s d r : ByteArray) (v p t : Int) (b : ByteArray) (E : Int) (w : World) (AP : ∀ W, Calls Try.prog 30 #[.string s] W fun e w' => e = .returned (.tuple #[.agg #[.string d, .string r, .int .i64 (-1), .int .i64 p, .int .i64 t, .string b], .int .i64 0]) ∧ Below W.heap.size W w')  (AK : ∀ W, Calls Try.prog 24 #[.string d] W fun e w' => e = .returned (.int .i64 1) ∧ W = w') :
    Calls Try.prog 14 #[.agg #[.string mac, .bool false, .bool true, .bool am, .bool nu, .bool nm, .bool na, .slice U us.length uc, .slice M ms.length mc, .bool true, .slice V vs.length vc], .string s] w fun e w' => e = .returned (.bool true) ∧ Below w.heap.size w w' := by
  have _ := v; have _ := E
  have HP := Lib.hid AP
  clear AP
  have HK := Lib.hid AK
  clear AK
  go_enter Try.func14, Try.ntmps14
  go_wp2_with fail
  have h1 := Held.new w 25 #[.string mac, .bool false, .bool true, .bool am, .bool nu, .bool nm, .bool na, .slice U us.length uc, .slice M ms.length mc, .bool true, .slice V vs.length vc]
  refine (HP.out _).mono ?_
  rintro e w1 ⟨rfl, hq⟩
  have h2 := h1.next hq
  clear hq h1
  have c0 := h2.blk.cell 0
  have c1 := h2.blk.cell 1
  have c2 := h2.blk.cell 2
  have c3 := h2.blk.cell 3
  have c4 := h2.blk.cell 4
  have c5 := h2.blk.cell 5
  have c6 := h2.blk.cell 6
  have c7 := h2.blk.cell 7
  have c8 := h2.blk.cell 8
  have c9 := h2.blk.cell 9
  have c10 := h2.blk.cell 10
  simp only [List.getElem?_toArray, List.getElem?_cons_zero, List.getElem?_cons_succ] at c0 c1 c2 c3 c4 c5 c6 c7 c8 c9 c10
  have hlt := h2.blk.lt
  go_wp2_with (first | (go_at_call 24; ((with_reducible refine (HK.out _).mono ?_); rintro e w' ⟨rfl, rfl⟩)) | (go_at_call 19; ((with_reducible refine (HV.out _ (ba h2.below _)).mono ?_); rintro e w' ⟨rfl, rfl⟩)) | (go_at_call 31; ((with_reducible refine (HL.out _ (ba h2.below _)).mono ?_); rintro e w' ⟨rfl, rfl⟩)))
  go_ret
  exact ⟨by first | rfl | simp, ba h2.below _⟩
theorem ra_m1c (mac : ByteArray) (am nm na : Bool) (U M V : Option Addr) (us ms : List ByteArray) (vs : List Int) (uc mc vc : Nat) (s d r : ByteArray) (v p t : Int) (b : ByteArray) (E : Int) (w : World) (AP : ∀ W, Calls Try.prog 30 #[.string s] W fun e w' => e = .returned (.tuple #[.agg #[.string d, .string r, .int .i64 (-1), .int .i64 p, .int .i64 t, .string b], .int .i64 0]) ∧ Below W.heap.size W w')  (AK : ∀ W, Calls Try.prog 24 #[.string d] W fun e w' => e = .returned (.int .i64 1) ∧ W = w') :
    Calls Try.prog 14 #[.agg #[.string mac, .bool false, .bool false, .bool am, .bool true, .bool nm, .bool na, .slice U us.length uc, .slice M ms.length mc, .bool true, .slice V vs.length vc], .string s] w fun e w' => e = .returned (.bool false) ∧ Below w.heap.size w w' := by
  have _ := v; have _ := E
  have HP := Lib.hid AP
  clear AP
  have HK := Lib.hid AK
  clear AK
  go_enter Try.func14, Try.ntmps14
  go_wp2_with fail
  have h1 := Held.new w 25 #[.string mac, .bool false, .bool false, .bool am, .bool true, .bool nm, .bool na, .slice U us.length uc, .slice M ms.length mc, .bool true, .slice V vs.length vc]
  refine (HP.out _).mono ?_
  rintro e w1 ⟨rfl, hq⟩
  have h2 := h1.next hq
  clear hq h1
  have c0 := h2.blk.cell 0
  have c1 := h2.blk.cell 1
  have c2 := h2.blk.cell 2
  have c3 := h2.blk.cell 3
  have c4 := h2.blk.cell 4
  have c5 := h2.blk.cell 5
  have c6 := h2.blk.cell 6
  have c7 := h2.blk.cell 7
  have c8 := h2.blk.cell 8
  have c9 := h2.blk.cell 9
  have c10 := h2.blk.cell 10
  simp only [List.getElem?_toArray, List.getElem?_cons_zero, List.getElem?_cons_succ] at c0 c1 c2 c3 c4 c5 c6 c7 c8 c9 c10
  have hlt := h2.blk.lt
  go_wp2_with (first | (go_at_call 24; ((with_reducible refine (HK.out _).mono ?_); rintro e w' ⟨rfl, rfl⟩)) | (go_at_call 19; ((with_reducible refine (HV.out _ (ba h2.below _)).mono ?_); rintro e w' ⟨rfl, rfl⟩)) | (go_at_call 31; ((with_reducible refine (HL.out _ (ba h2.below _)).mono ?_); rintro e w' ⟨rfl, rfl⟩)))
  go_ret
  exact ⟨by first | rfl | simp, ba h2.below _⟩
theorem ra_m1d (mac : ByteArray) (am nm na : Bool) (U M V : Option Addr) (us ms : List ByteArray) (vs : List Int) (uc mc vc : Nat) (s d r : ByteArray) (v p t : Int) (b : ByteArray) (E : Int) (w : World) (AP : ∀ W, Calls Try.prog 30 #[.string s] W fun e w' => e = .returned (.tuple #[.agg #[.string d, .string r, .int .i64 (-1), .int .i64 p, .int .i64 t, .string b], .int .i64 0]) ∧ Below W.heap.size W w')  (AK : ∀ W, Calls Try.prog 24 #[.string d] W fun e w' => e = .returned (.int .i64 1) ∧ W = w') :
    Calls Try.prog 14 #[.agg #[.string d, .bool false, .bool false, .bool am, .bool false, .bool nm, .bool na, .slice U us.length uc, .slice M ms.length mc, .bool true, .slice V vs.length vc], .string s] w fun e w' => e = .returned (.bool true) ∧ Below w.heap.size w w' := by
  have _ := mac; have _ := v; have _ := E
  have HP := Lib.hid AP
  clear AP
  have HK := Lib.hid AK
  clear AK
  go_enter Try.func14, Try.ntmps14
  go_wp2_with fail
  have h1 := Held.new w 25 #[.string d, .bool false, .bool false, .bool am, .bool false, .bool nm, .bool na, .slice U us.length uc, .slice M ms.length mc, .bool true, .slice V vs.length vc]
  refine (HP.out _).mono ?_
  rintro e w1 ⟨rfl, hq⟩
  have h2 := h1.next hq
  clear hq h1
  have c0 := h2.blk.cell 0
  have c1 := h2.blk.cell 1
  have c2 := h2.blk.cell 2
  have c3 := h2.blk.cell 3
  have c4 := h2.blk.cell 4
  have c5 := h2.blk.cell 5
  have c6 := h2.blk.cell 6
  have c7 := h2.blk.cell 7
  have c8 := h2.blk.cell 8
  have c9 := h2.blk.cell 9
  have c10 := h2.blk.cell 10
  simp only [List.getElem?_toArray, List.getElem?_cons_zero, List.getElem?_cons_succ] at c0 c1 c2 c3 c4 c5 c6 c7 c8 c9 c10
  have hlt := h2.blk.lt
  go_wp2_with (first | (go_at_call 24; ((with_reducible refine (HK.out _).mono ?_); rintro e w' ⟨rfl, rfl⟩)) | (go_at_call 19; ((with_reducible refine (HV.out _ (ba h2.below _)).mono ?_); rintro e w' ⟨rfl, rfl⟩)) | (go_at_call 31; ((with_reducible refine (HL.out _ (ba h2.below _)).mono ?_); rintro e w' ⟨rfl, rfl⟩)))
  go_ret
  exact ⟨by first | rfl | simp, ba h2.below _⟩
theorem ra_m1e (mac : ByteArray) (am nm na : Bool) (U M V : Option Addr) (us ms : List ByteArray) (vs : List Int) (uc mc vc : Nat) (s d r : ByteArray) (v p t : Int) (b : ByteArray) (E : Int) (w : World) (AP : ∀ W, Calls Try.prog 30 #[.string s] W fun e w' => e = .returned (.tuple #[.agg #[.string d, .string r, .int .i64 (-1), .int .i64 p, .int .i64 t, .string b], .int .i64 0]) ∧ Below W.heap.size W w')  (AK : ∀ W, Calls Try.prog 24 #[.string d] W fun e w' => e = .returned (.int .i64 1) ∧ W = w') (bl : Bool) (AL : ∀ W, Below w.heap.size w W → Calls Try.prog 31 #[.slice U us.length uc, .string d] W fun e w' => e = .returned (.bool bl) ∧ W = w') (hd : (d.toList == mac.toList) = false) :
    Calls Try.prog 14 #[.agg #[.string mac, .bool false, .bool false, .bool am, .bool false, .bool nm, .bool na, .slice U us.length uc, .slice M ms.length mc, .bool true, .slice V vs.length vc], .string s] w fun e w' => e = .returned (.bool bl) ∧ Below w.heap.size w w' := by
  have _ := v; have _ := E
  have HP := Lib.hid AP
  clear AP
  have HK := Lib.hid AK
  clear AK
  have HL := Lib.hid AL
  clear AL
  go_enter Try.func14, Try.ntmps14
  go_wp2_with fail
  have h1 := Held.new w 25 #[.string mac, .bool false, .bool false, .bool am, .bool false, .bool nm, .bool na, .slice U us.length uc, .slice M ms.length mc, .bool true, .slice V vs.length vc]
  refine (HP.out _).mono ?_
  rintro e w1 ⟨rfl, hq⟩
  have h2 := h1.next hq
  clear hq h1
  have c0 := h2.blk.cell 0
  have c1 := h2.blk.cell 1
  have c2 := h2.blk.cell 2
  have c3 := h2.blk.cell 3
  have c4 := h2.blk.cell 4
  have c5 := h2.blk.cell 5
  have c6 := h2.blk.cell 6
  have c7 := h2.blk.cell 7
  have c8 := h2.blk.cell 8
  have c9 := h2.blk.cell 9
  have c10 := h2.blk.cell 10
  simp only [List.getElem?_toArray, List.getElem?_cons_zero, List.getElem?_cons_succ] at c0 c1 c2 c3 c4 c5 c6 c7 c8 c9 c10
  have hlt := h2.blk.lt
  go_wp2_with (first | (go_at_call 24; ((with_reducible refine (HK.out _).mono ?_); rintro e w' ⟨rfl, rfl⟩)) | (go_at_call 19; ((with_reducible refine (HV.out _ (ba h2.below _)).mono ?_); rintro e w' ⟨rfl, rfl⟩)) | (go_at_call 31; ((with_reducible refine (HL.out _ (ba h2.below _)).mono ?_); rintro e w' ⟨rfl, rfl⟩)))
  go_ret
  exact ⟨by first | rfl | simp, ba h2.below _⟩
theorem ra_n3a (mac : ByteArray) (au am nu nm na : Bool) (U M V : Option Addr) (us ms : List ByteArray) (vs : List Int) (uc mc vc : Nat) (s d r : ByteArray) (v p t : Int) (b : ByteArray) (E : Int) (w : World) (AP : ∀ W, Calls Try.prog 30 #[.string s] W fun e w' => e = .returned (.tuple #[.agg #[.string d, .string r, .int .i64 v, .int .i64 p, .int .i64 t, .string b], .int .i64 0]) ∧ Below W.heap.size W w') (hv : 0 ≤ v) (AV : ∀ W, Below w.heap.size w W → Calls Try.prog 19 #[.slice V vs.length vc, .int .i64 v] W fun e w' => e = .returned (.bool true) ∧ W = w') (AK : ∀ W, Calls Try.prog 24 #[.string d] W fun e w' => e = .returned (.int .i64 3) ∧ W = w') :
    Calls Try.prog 14 #[.agg #[.string mac, .bool true, .bool au, .bool am, .bool nu, .bool nm, .bool na, .slice U us.length uc, .slice M ms.length mc, .bool true, .slice V vs.length vc], .string s] w fun e w' => e = .returned (.bool true) ∧ Below w.heap.size w w' := by
  have _ := E
  have HP := Lib.hid AP
  clear AP
  have HV := Lib.hid AV
  clear AV
  have HK := Lib.hid AK
  clear AK
  go_enter Try.func14, Try.ntmps14
  go_wp2_with fail
  have h1 := Held.new w 25 #[.string mac, .bool true, .bool au, .bool am, .bool nu, .bool nm, .bool na, .slice U us.length uc, .slice M ms.length mc, .bool true, .slice V vs.length vc]
  refine (HP.out _).mono ?_
  rintro e w1 ⟨rfl, hq⟩
  have h2 := h1.next hq
  clear hq h1
  have c0 := h2.blk.cell 0
  have c1 := h2.blk.cell 1
  have c2 := h2.blk.cell 2
  have c3 := h2.blk.cell 3
  have c4 := h2.blk.cell 4
  have c5 := h2.blk.cell 5
  have c6 := h2.blk.cell 6
  have c7 := h2.blk.cell 7
  have c8 := h2.blk.cell 8
  have c9 := h2.blk.cell 9
  have c10 := h2.blk.cell 10
  simp only [List.getElem?_toArray, List.getElem?_cons_zero, List.getElem?_cons_succ] at c0 c1 c2 c3 c4 c5 c6 c7 c8 c9 c10
  have hlt := h2.blk.lt
  go_wp2_with (first | (go_at_call 24; ((with_reducible refine (HK.out _).mono ?_); rintro e w' ⟨rfl, rfl⟩)) | (go_at_call 19; ((with_reducible refine (HV.out _ (ba h2.below _)).mono ?_); rintro e w' ⟨rfl, rfl⟩)) | (go_at_call 31; ((with_reducible refine (HL.out _ (ba h2.below _)).mono ?_); rintro e w' ⟨rfl, rfl⟩)))
  go_ret
  exact ⟨by first | rfl | simp, ba h2.below _⟩
theorem ra_n3b (mac : ByteArray) (au am nu nm na : Bool) (U M V : Option Addr) (us ms : List ByteArray) (vs : List Int) (uc mc vc : Nat) (s d r : ByteArray) (v p t : Int) (b : ByteArray) (E : Int) (w : World) (AP : ∀ W, Calls Try.prog 30 #[.string s] W fun e w' => e = .returned (.tuple #[.agg #[.string d, .string r, .int .i64 v, .int .i64 p, .int .i64 t, .string b], .int .i64 0]) ∧ Below W.heap.size W w') (hv : 0 ≤ v) (AV : ∀ W, Below w.heap.size w W → Calls Try.prog 19 #[.slice V vs.length vc, .int .i64 v] W fun e w' => e = .returned (.bool true) ∧ W = w') (AK : ∀ W, Calls Try.prog 24 #[.string d] W fun e w' => e = .returned (.int .i64 3) ∧ W = w') :
    Calls Try.prog 14 #[.agg #[.string mac, .bool false, .bool au, .bool am, .bool nu, .bool nm, .bool na, .slice U us.length uc, .slice M ms.length mc, .bool true, .slice V vs.length vc], .string s] w fun e w' => e = .returned (.bool (!na)) ∧ Below w.heap.size w w' := by
  have _ := E
  have HP := Lib.hid AP
  clear AP
  have HV := Lib.hid AV
  clear AV
  have HK := Lib.hid AK
  clear AK
  go_enter Try.func14, Try.ntmps14
  go_wp2_with fail
  have h1 := Held.new w 25 #[.string mac, .bool false, .bool au, .bool am, .bool nu, .bool nm, .bool na, .slice U us.length uc, .slice M ms.length mc, .bool true, .slice V vs.length vc]
  refine (HP.out _).mono ?_
  rintro e w1 ⟨rfl, hq⟩
  have h2 := h1.next hq
  clear hq h1
  have c0 := h2.blk.cell 0
  have c1 := h2.blk.cell 1
  have c2 := h2.blk.cell 2
  have c3 := h2.blk.cell 3
  have c4 := h2.blk.cell 4
  have c5 := h2.blk.cell 5
  have c6 := h2.blk.cell 6
  have c7 := h2.blk.cell 7
  have c8 := h2.blk.cell 8
  have c9 := h2.blk.cell 9
  have c10 := h2.blk.cell 10
  simp only [List.getElem?_toArray, List.getElem?_cons_zero, List.getElem?_cons_succ] at c0 c1 c2 c3 c4 c5 c6 c7 c8 c9 c10
  have hlt := h2.blk.lt
  go_wp2_with (first | (go_at_call 24; ((with_reducible refine (HK.out _).mono ?_); rintro e w' ⟨rfl, rfl⟩)) | (go_at_call 19; ((with_reducible refine (HV.out _ (ba h2.below _)).mono ?_); rintro e w' ⟨rfl, rfl⟩)) | (go_at_call 31; ((with_reducible refine (HL.out _ (ba h2.below _)).mono ?_); rintro e w' ⟨rfl, rfl⟩)))
  go_ret
  exact ⟨by first | rfl | simp, ba h2.below _⟩
theorem ra_n2a (mac : ByteArray) (au am nu nm na : Bool) (U M V : Option Addr) (us ms : List ByteArray) (vs : List Int) (uc mc vc : Nat) (s d r : ByteArray) (v p t : Int) (b : ByteArray) (E : Int) (w : World) (AP : ∀ W, Calls Try.prog 30 #[.string s] W fun e w' => e = .returned (.tuple #[.agg #[.string d, .string r, .int .i64 v, .int .i64 p, .int .i64 t, .string b], .int .i64 0]) ∧ Below W.heap.size W w') (hv : 0 ≤ v) (AV : ∀ W, Below w.heap.size w W → Calls Try.prog 19 #[.slice V vs.length vc, .int .i64 v] W fun e w' => e = .returned (.bool true) ∧ W = w') (AK : ∀ W, Calls Try.prog 24 #[.string d] W fun e w' => e = .returned (.int .i64 2) ∧ W = w') :
    Calls Try.prog 14 #[.agg #[.string mac, .bool true, .bool au, .bool am, .bool nu, .bool nm, .bool na, .slice U us.length uc, .slice M ms.length mc, .bool true, .slice V vs.length vc], .string s] w fun e w' => e = .returned (.bool true) ∧ Below w.heap.size w w' := by
  have _ := E
  have HP := Lib.hid AP
  clear AP
  have HV := Lib.hid AV
  clear AV
  have HK := Lib.hid AK
  clear AK
  go_enter Try.func14, Try.ntmps14
  go_wp2_with fail
  have h1 := Held.new w 25 #[.string mac, .bool true, .bool au, .bool am, .bool nu, .bool nm, .bool na, .slice U us.length uc, .slice M ms.length mc, .bool true, .slice V vs.length vc]
  refine (HP.out _).mono ?_
  rintro e w1 ⟨rfl, hq⟩
  have h2 := h1.next hq
  clear hq h1
  have c0 := h2.blk.cell 0
  have c1 := h2.blk.cell 1
  have c2 := h2.blk.cell 2
  have c3 := h2.blk.cell 3
  have c4 := h2.blk.cell 4
  have c5 := h2.blk.cell 5
  have c6 := h2.blk.cell 6
  have c7 := h2.blk.cell 7
  have c8 := h2.blk.cell 8
  have c9 := h2.blk.cell 9
  have c10 := h2.blk.cell 10
  simp only [List.getElem?_toArray, List.getElem?_cons_zero, List.getElem?_cons_succ] at c0 c1 c2 c3 c4 c5 c6 c7 c8 c9 c10
  have hlt := h2.blk.lt
  go_wp2_with (first | (go_at_call 24; ((with_reducible refine (HK.out _).mono ?_); rintro e w' ⟨rfl, rfl⟩)) | (go_at_call 19; ((with_reducible refine (HV.out _ (ba h2.below _)).mono ?_); rintro e w' ⟨rfl, rfl⟩)) | (go_at_call 31; ((with_reducible refine (HL.out _ (ba h2.below _)).mono ?_); rintro e w' ⟨rfl, rfl⟩)))
  go_ret
  exact ⟨by first | rfl | simp, ba h2.below _⟩
theorem ra_n2b (mac : ByteArray) (au nu nm na : Bool) (U M V : Option Addr) (us ms : List ByteArray) (vs : List Int) (uc mc vc : Nat) (s d r : ByteArray) (v p t : Int) (b : ByteArray) (E : Int) (w : World) (AP : ∀ W, Calls Try.prog 30 #[.string s] W fun e w' => e = .returned (.tuple #[.agg #[.string d, .string r, .int .i64 v, .int .i64 p, .int .i64 t, .string b], .int .i64 0]) ∧ Below W.heap.size W w') (hv : 0 ≤ v) (AV : ∀ W, Below w.heap.size w W → Calls Try.prog 19 #[.slice V vs.length vc, .int .i64 v] W fun e w' => e = .returned (.bool true) ∧ W = w') (AK : ∀ W, Calls Try.prog 24 #[.string d] W fun e w' => e = .returned (.int .i64 2) ∧ W = w') :
    Calls Try.prog 14 #[.agg #[.string mac, .bool false, .bool au, .bool true, .bool nu, .bool nm, .bool na, .slice U us.length uc, .slice M ms.length mc, .bool true, .slice V vs.length vc], .string s] w fun e w' => e = .returned (.bool true) ∧ Below w.heap.size w w' := by
  have _ := E
  have HP := Lib.hid AP
  clear AP
  have HV := Lib.hid AV
  clear AV
  have HK := Lib.hid AK
  clear AK
  go_enter Try.func14, Try.ntmps14
  go_wp2_with fail
  have h1 := Held.new w 25 #[.string mac, .bool false, .bool au, .bool true, .bool nu, .bool nm, .bool na, .slice U us.length uc, .slice M ms.length mc, .bool true, .slice V vs.length vc]
  refine (HP.out _).mono ?_
  rintro e w1 ⟨rfl, hq⟩
  have h2 := h1.next hq
  clear hq h1
  have c0 := h2.blk.cell 0
  have c1 := h2.blk.cell 1
  have c2 := h2.blk.cell 2
  have c3 := h2.blk.cell 3
  have c4 := h2.blk.cell 4
  have c5 := h2.blk.cell 5
  have c6 := h2.blk.cell 6
  have c7 := h2.blk.cell 7
  have c8 := h2.blk.cell 8
  have c9 := h2.blk.cell 9
  have c10 := h2.blk.cell 10
  simp only [List.getElem?_toArray, List.getElem?_cons_zero, List.getElem?_cons_succ] at c0 c1 c2 c3 c4 c5 c6 c7 c8 c9 c10
  have hlt := h2.blk.lt
  go_wp2_with (first | (go_at_call 24; ((with_reducible refine (HK.out _).mono ?_); rintro e w' ⟨rfl, rfl⟩)) | (go_at_call 19; ((with_reducible refine (HV.out _ (ba h2.below _)).mono ?_); rintro e w' ⟨rfl, rfl⟩)) | (go_at_call 31; ((with_reducible refine (HL.out _ (ba h2.below _)).mono ?_); rintro e w' ⟨rfl, rfl⟩)))
  go_ret
  exact ⟨by first | rfl | simp, ba h2.below _⟩
theorem ra_n2c (mac : ByteArray) (au nu na : Bool) (U M V : Option Addr) (us ms : List ByteArray) (vs : List Int) (uc mc vc : Nat) (s d r : ByteArray) (v p t : Int) (b : ByteArray) (E : Int) (w : World) (AP : ∀ W, Calls Try.prog 30 #[.string s] W fun e w' => e = .returned (.tuple #[.agg #[.string d, .string r, .int .i64 v, .int .i64 p, .int .i64 t, .string b], .int .i64 0]) ∧ Below W.heap.size W w') (hv : 0 ≤ v) (AV : ∀ W, Below w.heap.size w W → Calls Try.prog 19 #[.slice V vs.length vc, .int .i64 v] W fun e w' => e = .returned (.bool true) ∧ W = w') (AK : ∀ W, Calls Try.prog 24 #[.string d] W fun e w' => e = .returned (.int .i64 2) ∧ W = w') :
    Calls Try.prog 14 #[.agg #[.string mac, .bool false, .bool au, .bool false, .bool nu, .bool true, .bool na, .slice U us.length uc, .slice M ms.length mc, .bool true, .slice V vs.length vc], .string s] w fun e w' => e = .returned (.bool false) ∧ Below w.heap.size w w' := by
  have _ := E
  have HP := Lib.hid AP
  clear AP
  have HV := Lib.hid AV
  clear AV
  have HK := Lib.hid AK
  clear AK
  go_enter Try.func14, Try.ntmps14
  go_wp2_with fail
  have h1 := Held.new w 25 #[.string mac, .bool false, .bool au, .bool false, .bool nu, .bool true, .bool na, .slice U us.length uc, .slice M ms.length mc, .bool true, .slice V vs.length vc]
  refine (HP.out _).mono ?_
  rintro e w1 ⟨rfl, hq⟩
  have h2 := h1.next hq
  clear hq h1
  have c0 := h2.blk.cell 0
  have c1 := h2.blk.cell 1
  have c2 := h2.blk.cell 2
  have c3 := h2.blk.cell 3
  have c4 := h2.blk.cell 4
  have c5 := h2.blk.cell 5
  have c6 := h2.blk.cell 6
  have c7 := h2.blk.cell 7
  have c8 := h2.blk.cell 8
  have c9 := h2.blk.cell 9
  have c10 := h2.blk.cell 10
  simp only [List.getElem?_toArray, List.getElem?_cons_zero, List.getElem?_cons_succ] at c0 c1 c2 c3 c4 c5 c6 c7 c8 c9 c10
  have hlt := h2.blk.lt
  go_wp2_with (first | (go_at_call 24; ((with_reducible refine (HK.out _).mono ?_); rintro e w' ⟨rfl, rfl⟩)) | (go_at_call 19; ((with_reducible refine (HV.out _ (ba h2.below _)).mono ?_); rintro e w' ⟨rfl, rfl⟩)) | (go_at_call 31; ((with_reducible refine (HL.out _ (ba h2.below _)).mono ?_); rintro e w' ⟨rfl, rfl⟩)))
  go_ret
  exact ⟨by first | rfl | simp, ba h2.below _⟩
theorem ra_n2d (mac : ByteArray) (au nu na : Bool) (U M V : Option Addr) (us ms : List ByteArray) (vs : List Int) (uc mc vc : Nat) (s d r : ByteArray) (v p t : Int) (b : ByteArray) (E : Int) (w : World) (AP : ∀ W, Calls Try.prog 30 #[.string s] W fun e w' => e = .returned (.tuple #[.agg #[.string d, .string r, .int .i64 v, .int .i64 p, .int .i64 t, .string b], .int .i64 0]) ∧ Below W.heap.size W w') (hv : 0 ≤ v) (AV : ∀ W, Below w.heap.size w W → Calls Try.prog 19 #[.slice V vs.length vc, .int .i64 v] W fun e w' => e = .returned (.bool true) ∧ W = w') (AK : ∀ W, Calls Try.prog 24 #[.string d] W fun e w' => e = .returned (.int .i64 2) ∧ W = w') (bl : Bool) (AL : ∀ W, Below w.heap.size w W → Calls Try.prog 31 #[.slice M ms.length mc, .string d] W fun e w' => e = .returned (.bool bl) ∧ W = w') :
    Calls Try.prog 14 #[.agg #[.string mac, .bool false, .bool au, .bool false, .bool nu, .bool false, .bool na, .slice U us.length uc, .slice M ms.length mc, .bool true, .slice V vs.length vc], .string s] w fun e w' => e = .returned (.bool bl) ∧ Below w.heap.size w w' := by
  have _ := E
  have HP := Lib.hid AP
  clear AP
  have HV := Lib.hid AV
  clear AV
  have HK := Lib.hid AK
  clear AK
  have HL := Lib.hid AL
  clear AL
  go_enter Try.func14, Try.ntmps14
  go_wp2_with fail
  have h1 := Held.new w 25 #[.string mac, .bool false, .bool au, .bool false, .bool nu, .bool false, .bool na, .slice U us.length uc, .slice M ms.length mc, .bool true, .slice V vs.length vc]
  refine (HP.out _).mono ?_
  rintro e w1 ⟨rfl, hq⟩
  have h2 := h1.next hq
  clear hq h1
  have c0 := h2.blk.cell 0
  have c1 := h2.blk.cell 1
  have c2 := h2.blk.cell 2
  have c3 := h2.blk.cell 3
  have c4 := h2.blk.cell 4
  have c5 := h2.blk.cell 5
  have c6 := h2.blk.cell 6
  have c7 := h2.blk.cell 7
  have c8 := h2.blk.cell 8
  have c9 := h2.blk.cell 9
  have c10 := h2.blk.cell 10
  simp only [List.getElem?_toArray, List.getElem?_cons_zero, List.getElem?_cons_succ] at c0 c1 c2 c3 c4 c5 c6 c7 c8 c9 c10
  have hlt := h2.blk.lt
  go_wp2_with (first | (go_at_call 24; ((with_reducible refine (HK.out _).mono ?_); rintro e w' ⟨rfl, rfl⟩)) | (go_at_call 19; ((with_reducible refine (HV.out _ (ba h2.below _)).mono ?_); rintro e w' ⟨rfl, rfl⟩)) | (go_at_call 31; ((with_reducible refine (HL.out _ (ba h2.below _)).mono ?_); rintro e w' ⟨rfl, rfl⟩)))
  go_ret
  exact ⟨by first | rfl | simp, ba h2.below _⟩
theorem ra_n1a (mac : ByteArray) (au am nu nm na : Bool) (U M V : Option Addr) (us ms : List ByteArray) (vs : List Int) (uc mc vc : Nat) (s d r : ByteArray) (v p t : Int) (b : ByteArray) (E : Int) (w : World) (AP : ∀ W, Calls Try.prog 30 #[.string s] W fun e w' => e = .returned (.tuple #[.agg #[.string d, .string r, .int .i64 v, .int .i64 p, .int .i64 t, .string b], .int .i64 0]) ∧ Below W.heap.size W w') (hv : 0 ≤ v) (AV : ∀ W, Below w.heap.size w W → Calls Try.prog 19 #[.slice V vs.length vc, .int .i64 v] W fun e w' => e = .returned (.bool true) ∧ W = w') (AK : ∀ W, Calls Try.prog 24 #[.string d] W fun e w' => e = .returned (.int .i64 1) ∧ W = w') :
    Calls Try.prog 14 #[.agg #[.string mac, .bool true, .bool au, .bool am, .bool nu, .bool nm, .bool na, .slice U us.length uc, .slice M ms.length mc, .bool true, .slice V vs.length vc], .string s] w fun e w' => e = .returned (.bool true) ∧ Below w.heap.size w w' := by
  have _ := E
  have HP := Lib.hid AP
  clear AP
  have HV := Lib.hid AV
  clear AV
  have HK := Lib.hid AK
  clear AK
  go_enter Try.func14, Try.ntmps14
  go_wp2_with fail
  have h1 := Held.new w 25 #[.string mac, .bool true, .bool au, .bool am, .bool nu, .bool nm, .bool na, .slice U us.length uc, .slice M ms.length mc, .bool true, .slice V vs.length vc]
  refine (HP.out _).mono ?_
  rintro e w1 ⟨rfl, hq⟩
  have h2 := h1.next hq
  clear hq h1
  have c0 := h2.blk.cell 0
  have c1 := h2.blk.cell 1
  have c2 := h2.blk.cell 2
  have c3 := h2.blk.cell 3
  have c4 := h2.blk.cell 4
  have c5 := h2.blk.cell 5
  have c6 := h2.blk.cell 6
  have c7 := h2.blk.cell 7
  have c8 := h2.blk.cell 8
  have c9 := h2.blk.cell 9
  have c10 := h2.blk.cell 10
  simp only [List.getElem?_toArray, List.getElem?_cons_zero, List.getElem?_cons_succ] at c0 c1 c2 c3 c4 c5 c6 c7 c8 c9 c10
  have hlt := h2.blk.lt
  go_wp2_with (first | (go_at_call 24; ((with_reducible refine (HK.out _).mono ?_); rintro e w' ⟨rfl, rfl⟩)) | (go_at_call 19; ((with_reducible refine (HV.out _ (ba h2.below _)).mono ?_); rintro e w' ⟨rfl, rfl⟩)) | (go_at_call 31; ((with_reducible refine (HL.out _ (ba h2.below _)).mono ?_); rintro e w' ⟨rfl, rfl⟩)))
  go_ret
  exact ⟨by first | rfl | simp, ba h2.below _⟩
theorem ra_n1b (mac : ByteArray) (am nu nm na : Bool) (U M V : Option Addr) (us ms : List ByteArray) (vs : List Int) (uc mc vc : Nat) (s d r : ByteArray) (v p t : Int) (b : ByteArray) (E : Int) (w : World) (AP : ∀ W, Calls Try.prog 30 #[.string s] W fun e w' => e = .returned (.tuple #[.agg #[.string d, .string r, .int .i64 v, .int .i64 p, .int .i64 t, .string b], .int .i64 0]) ∧ Below W.heap.size W w') (hv : 0 ≤ v) (AV : ∀ W, Below w.heap.size w W → Calls Try.prog 19 #[.slice V vs.length vc, .int .i64 v] W fun e w' => e = .returned (.bool true) ∧ W = w') (AK : ∀ W, Calls Try.prog 24 #[.string d] W fun e w' => e = .returned (.int .i64 1) ∧ W = w') :
    Calls Try.prog 14 #[.agg #[.string mac, .bool false, .bool true, .bool am, .bool nu, .bool nm, .bool na, .slice U us.length uc, .slice M ms.length mc, .bool true, .slice V vs.length vc], .string s] w fun e w' => e = .returned (.bool true) ∧ Below w.heap.size w w' := by
  have _ := E
  have HP := Lib.hid AP
  clear AP
  have HV := Lib.hid AV
  clear AV
  have HK := Lib.hid AK
  clear AK
  go_enter Try.func14, Try.ntmps14
  go_wp2_with fail
  have h1 := Held.new w 25 #[.string mac, .bool false, .bool true, .bool am, .bool nu, .bool nm, .bool na, .slice U us.length uc, .slice M ms.length mc, .bool true, .slice V vs.length vc]
  refine (HP.out _).mono ?_
  rintro e w1 ⟨rfl, hq⟩
  have h2 := h1.next hq
  clear hq h1
  have c0 := h2.blk.cell 0
  have c1 := h2.blk.cell 1
  have c2 := h2.blk.cell 2
  have c3 := h2.blk.cell 3
  have c4 := h2.blk.cell 4
  have c5 := h2.blk.cell 5
  have c6 := h2.blk.cell 6
  have c7 := h2.blk.cell 7
  have c8 := h2.blk.cell 8
  have c9 := h2.blk.cell 9
  have c10 := h2.blk.cell 10
  simp only [List.getElem?_toArray, List.getElem?_cons_zero, List.getElem?_cons_succ] at c0 c1 c2 c3 c4 c5 c6 c7 c8 c9 c10
  have hlt := h2.blk.lt
  go_wp2_with (first | (go_at_call 24; ((with_reducible refine (HK.out _).mono ?_); rintro e w' ⟨rfl, rfl⟩)) | (go_at_call 19; ((with_reducible refine (HV.out _ (ba h2.below _)).mono ?_); rintro e w' ⟨rfl, rfl⟩)) | (go_at_call 31; ((with_reducible refine (HL.out _ (ba h2.below _)).mono ?_); rintro e w' ⟨rfl, rfl⟩)))
  go_ret
  exact ⟨by first | rfl | simp, ba h2.below _⟩
theorem ra_n1c (mac : ByteArray) (am nm na : Bool) (U M V : Option Addr) (us ms : List ByteArray) (vs : List Int) (uc mc vc : Nat) (s d r : ByteArray) (v p t : Int) (b : ByteArray) (E : Int) (w : World) (AP : ∀ W, Calls Try.prog 30 #[.string s] W fun e w' => e = .returned (.tuple #[.agg #[.string d, .string r, .int .i64 v, .int .i64 p, .int .i64 t, .string b], .int .i64 0]) ∧ Below W.heap.size W w') (hv : 0 ≤ v) (AV : ∀ W, Below w.heap.size w W → Calls Try.prog 19 #[.slice V vs.length vc, .int .i64 v] W fun e w' => e = .returned (.bool true) ∧ W = w') (AK : ∀ W, Calls Try.prog 24 #[.string d] W fun e w' => e = .returned (.int .i64 1) ∧ W = w') :
    Calls Try.prog 14 #[.agg #[.string mac, .bool false, .bool false, .bool am, .bool true, .bool nm, .bool na, .slice U us.length uc, .slice M ms.length mc, .bool true, .slice V vs.length vc], .string s] w fun e w' => e = .returned (.bool false) ∧ Below w.heap.size w w' := by
  have _ := E
  have HP := Lib.hid AP
  clear AP
  have HV := Lib.hid AV
  clear AV
  have HK := Lib.hid AK
  clear AK
  go_enter Try.func14, Try.ntmps14
  go_wp2_with fail
  have h1 := Held.new w 25 #[.string mac, .bool false, .bool false, .bool am, .bool true, .bool nm, .bool na, .slice U us.length uc, .slice M ms.length mc, .bool true, .slice V vs.length vc]
  refine (HP.out _).mono ?_
  rintro e w1 ⟨rfl, hq⟩
  have h2 := h1.next hq
  clear hq h1
  have c0 := h2.blk.cell 0
  have c1 := h2.blk.cell 1
  have c2 := h2.blk.cell 2
  have c3 := h2.blk.cell 3
  have c4 := h2.blk.cell 4
  have c5 := h2.blk.cell 5
  have c6 := h2.blk.cell 6
  have c7 := h2.blk.cell 7
  have c8 := h2.blk.cell 8
  have c9 := h2.blk.cell 9
  have c10 := h2.blk.cell 10
  simp only [List.getElem?_toArray, List.getElem?_cons_zero, List.getElem?_cons_succ] at c0 c1 c2 c3 c4 c5 c6 c7 c8 c9 c10
  have hlt := h2.blk.lt
  go_wp2_with (first | (go_at_call 24; ((with_reducible refine (HK.out _).mono ?_); rintro e w' ⟨rfl, rfl⟩)) | (go_at_call 19; ((with_reducible refine (HV.out _ (ba h2.below _)).mono ?_); rintro e w' ⟨rfl, rfl⟩)) | (go_at_call 31; ((with_reducible refine (HL.out _ (ba h2.below _)).mono ?_); rintro e w' ⟨rfl, rfl⟩)))
  go_ret
  exact ⟨by first | rfl | simp, ba h2.below _⟩
theorem ra_n1d (mac : ByteArray) (am nm na : Bool) (U M V : Option Addr) (us ms : List ByteArray) (vs : List Int) (uc mc vc : Nat) (s d r : ByteArray) (v p t : Int) (b : ByteArray) (E : Int) (w : World) (AP : ∀ W, Calls Try.prog 30 #[.string s] W fun e w' => e = .returned (.tuple #[.agg #[.string d, .string r, .int .i64 v, .int .i64 p, .int .i64 t, .string b], .int .i64 0]) ∧ Below W.heap.size W w') (hv : 0 ≤ v) (AV : ∀ W, Below w.heap.size w W → Calls Try.prog 19 #[.slice V vs.length vc, .int .i64 v] W fun e w' => e = .returned (.bool true) ∧ W = w') (AK : ∀ W, Calls Try.prog 24 #[.string d] W fun e w' => e = .returned (.int .i64 1) ∧ W = w') :
    Calls Try.prog 14 #[.agg #[.string d, .bool false, .bool false, .bool am, .bool false, .bool nm, .bool na, .slice U us.length uc, .slice M ms.length mc, .bool true, .slice V vs.length vc], .string s] w fun e w' => e = .returned (.bool true) ∧ Below w.heap.size w w' := by
  have _ := mac; have _ := E
  have HP := Lib.hid AP
  clear AP
  have HV := Lib.hid AV
  clear AV
  have HK := Lib.hid AK
  clear AK
  go_enter Try.func14, Try.ntmps14
  go_wp2_with fail
  have h1 := Held.new w 25 #[.string d, .bool false, .bool false, .bool am, .bool false, .bool nm, .bool na, .slice U us.length uc, .slice M ms.length mc, .bool true, .slice V vs.length vc]
  refine (HP.out _).mono ?_
  rintro e w1 ⟨rfl, hq⟩
  have h2 := h1.next hq
  clear hq h1
  have c0 := h2.blk.cell 0
  have c1 := h2.blk.cell 1
  have c2 := h2.blk.cell 2
  have c3 := h2.blk.cell 3
  have c4 := h2.blk.cell 4
  have c5 := h2.blk.cell 5
  have c6 := h2.blk.cell 6
  have c7 := h2.blk.cell 7
  have c8 := h2.blk.cell 8
  have c9 := h2.blk.cell 9
  have c10 := h2.blk.cell 10
  simp only [List.getElem?_toArray, List.getElem?_cons_zero, List.getElem?_cons_succ] at c0 c1 c2 c3 c4 c5 c6 c7 c8 c9 c10
  have hlt := h2.blk.lt
  go_wp2_with (first | (go_at_call 24; ((with_reducible refine (HK.out _).mono ?_); rintro e w' ⟨rfl, rfl⟩)) | (go_at_call 19; ((with_reducible refine (HV.out _ (ba h2.below _)).mono ?_); rintro e w' ⟨rfl, rfl⟩)) | (go_at_call 31; ((with_reducible refine (HL.out _ (ba h2.below _)).mono ?_); rintro e w' ⟨rfl, rfl⟩)))
  go_ret
  exact ⟨by first | rfl | simp, ba h2.below _⟩
theorem ra_n1e (mac : ByteArray) (am nm na : Bool) (U M V : Option Addr) (us ms : List ByteArray) (vs : List Int) (uc mc vc : Nat) (s d r : ByteArray) (v p t : Int) (b : ByteArray) (E : Int) (w : World) (AP : ∀ W, Calls Try.prog 30 #[.string s] W fun e w' => e = .returned (.tuple #[.agg #[.string d, .string r, .int .i64 v, .int .i64 p, .int .i64 t, .string b], .int .i64 0]) ∧ Below W.heap.size W w') (hv : 0 ≤ v) (AV : ∀ W, Below w.heap.size w W → Calls Try.prog 19 #[.slice V vs.length vc, .int .i64 v] W fun e w' => e = .returned (.bool true) ∧ W = w') (AK : ∀ W, Calls Try.prog 24 #[.string d] W fun e w' => e = .returned (.int .i64 1) ∧ W = w') (bl : Bool) (AL : ∀ W, Below w.heap.size w W → Calls Try.prog 31 #[.slice U us.length uc, .string d] W fun e w' => e = .returned (.bool bl) ∧ W = w') (hd : (d.toList == mac.toList) = false) :
    Calls Try.prog 14 #[.agg #[.string mac, .bool false, .bool false, .bool am, .bool false, .bool nm, .bool na, .slice U us.length uc, .slice M ms.length mc, .bool true, .slice V vs.length vc], .string s] w fun e w' => e = .returned (.bool bl) ∧ Below w.heap.size w w' := by
  have _ := E
  have HP := Lib.hid AP
  clear AP
  have HV := Lib.hid AV
  clear AV
  have HK := Lib.hid AK
  clear AK
  have HL := Lib.hid AL
  clear AL
  go_enter Try.func14, Try.ntmps14
  go_wp2_with fail
  have h1 := Held.new w 25 #[.string mac, .bool false, .bool false, .bool am, .bool false, .bool nm, .bool na, .slice U us.length uc, .slice M ms.length mc, .bool true, .slice V vs.length vc]
  refine (HP.out _).mono ?_
  rintro e w1 ⟨rfl, hq⟩
  have h2 := h1.next hq
  clear hq h1
  have c0 := h2.blk.cell 0
  have c1 := h2.blk.cell 1
  have c2 := h2.blk.cell 2
  have c3 := h2.blk.cell 3
  have c4 := h2.blk.cell 4
  have c5 := h2.blk.cell 5
  have c6 := h2.blk.cell 6
  have c7 := h2.blk.cell 7
  have c8 := h2.blk.cell 8
  have c9 := h2.blk.cell 9
  have c10 := h2.blk.cell 10
  simp only [List.getElem?_toArray, List.getElem?_cons_zero, List.getElem?_cons_succ] at c0 c1 c2 c3 c4 c5 c6 c7 c8 c9 c10
  have hlt := h2.blk.lt
  go_wp2_with (first | (go_at_call 24; ((with_reducible refine (HK.out _).mono ?_); rintro e w' ⟨rfl, rfl⟩)) | (go_at_call 19; ((with_reducible refine (HV.out _ (ba h2.below _)).mono ?_); rintro e w' ⟨rfl, rfl⟩)) | (go_at_call 31; ((with_reducible refine (HL.out _ (ba h2.below _)).mono ?_); rintro e w' ⟨rfl, rfl⟩)))
  go_ret
  exact ⟨by first | rfl | simp, ba h2.below _⟩
theorem radm_any (F : Fl) (s : ByteArray) (B : Nat) (w : World) (hF : F.At B w) (hB : B ≤ w.heap.size) (hl : F.Few) :
    Calls Try.prog 14 #[F.val, .string s] w fun e w' => e = .returned (.bool (adB F s)) ∧ Below w.heap.size w w' := by
  have AP := fun W => refParse_any s W
  have AU := fun W (hb : Below w.heap.size w W) => has_any B F.U F.uc F.us (parseF s).d W (hF.u.far hB hb) hl.u
  have AM := fun W (hb : Below w.heap.size w W) => has_any B F.M F.mc F.ms (parseF s).d W (hF.m.far hB hb) hl.m
  have AV := fun W (hb : Below w.heap.size w W) => net_any B F.V F.vc F.vs (parseF s).v W (hF.v.far hB hb) hl.v
  have AK := fun W => rkind_any (parseF s).d W
  have hE := parseE_cases s
  have hk : parseE s = 0 → kindV (parseF s).d = 1 ∨ kindV (parseF s).d = 2 ∨ kindV (parseF s).d = 3 := fun h => by
    have h6 := (parse_good h).1
    unfold kindV
    rw [if_neg (by omega)]
    split
    · simp
    · split <;> simp
  have hv : parseE s = 0 → (parseF s).v = -1 ∨ 0 ≤ (parseF s).v := fun h => by
    rcases (parse_good h).2 with h | h
    · exact .inl h
    · exact .inr h.1
  unfold adB adV adD
  generalize parseE s = E at *
  generalize parseF s = f at *
  obtain ⟨d, r, v, p, t, b⟩ := f
  simp only [Fr.val, ethC] at AP AU AM AV AK hk hv ⊢
  generalize kindV d = K at *
  generalize hasS F.us d = bU at *
  generalize hasS F.ms d = bM at *
  generalize hasI F.vs v = bV at *
  obtain ⟨mac, pr, au, am, nu, nm, na, U, us, uc, M, ms, mc, vo, V, vs, vc⟩ := F
  clear hF hl
  simp only at AU AM AV ⊢
  by_cases hE0 : E = 0
  · subst hE0
    replace hk := hk rfl
    replace hv := hv rfl
    clear hE
    rw [if_pos rfl]
    cases vo
    · clear hv
      rcases hk with rfl | rfl | rfl
      · cases pr
        · cases au
          · cases nu
            · by_cases hd : d = mac
              · subst hd; simp only [if_pos, decide_true, Bool.true_or]; first | (exact ra_o1d d am nm na U M V us ms vs uc mc vc s d r v p t b 0 w AP AK) | (simpa using ra_o1d d am nm na U M V us ms vs uc mc vc s d r v p t b 0 w AP AK)
              · rw [decide_eq_false hd]; have hd2 := str_ne hd; simpa using ra_o1e mac am nm na U M V us ms vs uc mc vc s d r v p t b 0 w AP AK bU AU hd2
            · simpa using ra_o1c mac am nm na U M V us ms vs uc mc vc s d r v p t b 0 w AP AK
          · simpa using ra_o1b mac am nu nm na U M V us ms vs uc mc vc s d r v p t b 0 w AP AK
        · simpa using ra_o1a mac au am nu nm na U M V us ms vs uc mc vc s d r v p t b 0 w AP AK
      · cases pr
        · cases am
          · cases nm
            · simpa using ra_o2d mac au nu na U M V us ms vs uc mc vc s d r v p t b 0 w AP AK bM AM
            · simpa using ra_o2c mac au nu na U M V us ms vs uc mc vc s d r v p t b 0 w AP AK
          · simpa using ra_o2b mac au nu nm na U M V us ms vs uc mc vc s d r v p t b 0 w AP AK
        · simpa using ra_o2a mac au am nu nm na U M V us ms vs uc mc vc s d r v p t b 0 w AP AK
      · cases pr
        · simpa using ra_o3b mac au am nu nm na U M V us ms vs uc mc vc s d r v p t b 0 w AP AK
        · simpa using ra_o3a mac au am nu nm na U M V us ms vs uc mc vc s d r v p t b 0 w AP AK
    · rcases hv with rfl | hv
      · have e : (!true || (-1 : Int) == -1 || bV) = true := by simp
        rw [e]
        clear e
        rcases hk with rfl | rfl | rfl
        · cases pr
          · cases au
            · cases nu
              · by_cases hd : d = mac
                · subst hd; simp only [if_pos, decide_true, Bool.true_or]; first | (exact ra_m1d d am nm na U M V us ms vs uc mc vc s d r (-1) p t b 0 w AP AK) | (simpa using ra_m1d d am nm na U M V us ms vs uc mc vc s d r (-1) p t b 0 w AP AK)
                · rw [decide_eq_false hd]; have hd2 := str_ne hd; simpa using ra_m1e mac am nm na U M V us ms vs uc mc vc s d r (-1) p t b 0 w AP AK bU AU hd2
              · simpa using ra_m1c mac am nm na U M V us ms vs uc mc vc s d r (-1) p t b 0 w AP AK
            · simpa using ra_m1b mac am nu nm na U M V us ms vs uc mc vc s d r (-1) p t b 0 w AP AK
          · simpa using ra_m1a mac au am nu nm na U M V us ms vs uc mc vc s d r (-1) p t b 0 w AP AK
        · cases pr
          · cases am
            · cases nm
              · simpa using ra_m2d mac au nu na U M V us ms vs uc mc vc s d r (-1) p t b 0 w AP AK bM AM
              · simpa using ra_m2c mac au nu na U M V us ms vs uc mc vc s d r (-1) p t b 0 w AP AK
            · simpa using ra_m2b mac au nu nm na U M V us ms vs uc mc vc s d r (-1) p t b 0 w AP AK
          · simpa using ra_m2a mac au am nu nm na U M V us ms vs uc mc vc s d r (-1) p t b 0 w AP AK
        · cases pr
          · simpa using ra_m3b mac au am nu nm na U M V us ms vs uc mc vc s d r (-1) p t b 0 w AP AK
          · simpa using ra_m3a mac au am nu nm na U M V us ms vs uc mc vc s d r (-1) p t b 0 w AP AK
      · have e : (!true || v == -1 || bV) = bV := by
          have : (v == -1) = false := by rw [beq_eq_false_iff_ne]; omega
          rw [this]; simp
        rw [e]
        clear e
        cases bV
        · simpa using ra_x mac pr au am nu nm na U M V us ms vs uc mc vc s d r v p t b 0 w AP hv AV
        · skip
          rcases hk with rfl | rfl | rfl
          · cases pr
            · cases au
              · cases nu
                · by_cases hd : d = mac
                  · subst hd; simp only [if_pos, decide_true, Bool.true_or]; first | (exact ra_n1d d am nm na U M V us ms vs uc mc vc s d r v p t b 0 w AP hv AV AK) | (simpa using ra_n1d d am nm na U M V us ms vs uc mc vc s d r v p t b 0 w AP hv AV AK)
                  · rw [decide_eq_false hd]; have hd2 := str_ne hd; simpa using ra_n1e mac am nm na U M V us ms vs uc mc vc s d r v p t b 0 w AP hv AV AK bU AU hd2
                · simpa using ra_n1c mac am nm na U M V us ms vs uc mc vc s d r v p t b 0 w AP hv AV AK
              · simpa using ra_n1b mac am nu nm na U M V us ms vs uc mc vc s d r v p t b 0 w AP hv AV AK
            · simpa using ra_n1a mac au am nu nm na U M V us ms vs uc mc vc s d r v p t b 0 w AP hv AV AK
          · cases pr
            · cases am
              · cases nm
                · simpa using ra_n2d mac au nu na U M V us ms vs uc mc vc s d r v p t b 0 w AP hv AV AK bM AM
                · simpa using ra_n2c mac au nu na U M V us ms vs uc mc vc s d r v p t b 0 w AP hv AV AK
              · simpa using ra_n2b mac au nu nm na U M V us ms vs uc mc vc s d r v p t b 0 w AP hv AV AK
            · simpa using ra_n2a mac au am nu nm na U M V us ms vs uc mc vc s d r v p t b 0 w AP hv AV AK
          · cases pr
            · simpa using ra_n3b mac au am nu nm na U M V us ms vs uc mc vc s d r v p t b 0 w AP hv AV AK
            · simpa using ra_n3a mac au am nu nm na U M V us ms vs uc mc vc s d r v p t b 0 w AP hv AV AK
  · rw [if_neg hE0]
    have hE2 : (E != 0) = true := by simpa using hE0
    exact ra_e mac pr au am nu nm na vo U M V us ms vs uc mc vc s d r v p t b E w AP hE2
end Go.Proofs.Ytboinnejkghfiaa
