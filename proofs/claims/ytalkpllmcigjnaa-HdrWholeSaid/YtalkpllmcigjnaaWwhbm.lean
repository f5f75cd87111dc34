/-
  The walks of HdrWhole, a way each; no condition.
-/
import Derived.Test.YtalkpllmcigjnaaMk
import Derived.Test.YtalkpllmcigjnaaMe
namespace Go.Proofs.Ytalkpllmcigjnaa
open Go.Joins Go.ChangeShapes Go.WideShapes Go.ChangeAt Go.RowKit Go.Deep
open Go.ChangeMaps (open_string)

set_option maxRecDepth 100000 in
set_option maxHeartbeats 3200000 in
theorem whole_l_bad1 (v : Int) (src dst : ByteArray) (proto hops cls id flags off label : Int) (opt body : ByteArray) (gsrc gdst seq ack gflags win urgent : Int) (gopt gbody : ByteArray) (nosum : Bool) (vlan : Int) (S : ByteArray) (E1 : Int) (w : World) (hl : 500 < gbody.size) (hE1 : (E1 != 0) = true) 
    (A19 : ∀ W, Calls Try.prog 19 #[.agg #[.int .i64 v, .string src, .string dst, .int .i64 proto, .int .i64 hops, .int .i64 cls, .int .i64 id, .int .i64 flags, .int .i64 off, .int .i64 label, .string opt, .string ⟨#[]⟩], .agg #[.int .i64 gsrc, .int .i64 gdst, .int .u32 seq, .int .u32 ack, .int .i64 gflags, .int .i64 win, .int .i64 urgent, .string gopt, .string (gbody.extract 0 500), .bool nosum]] W fun e w' => e = .returned (.tuple #[.string S, .int .i64 E1]) ∧ Below W.heap.size W w')
    (A14 : ∀ W, Calls Try.prog 14 #[] W fun e w' => e = .returned (.bool true) ∧ Below W.heap.size W w') :
    Calls Try.prog 6 #[.agg #[.int .i64 v, .string src, .string dst, .int .i64 proto, .int .i64 hops, .int .i64 cls, .int .i64 id, .int .i64 flags, .int .i64 off, .int .i64 label, .string opt, .string body], .agg #[.int .i64 gsrc, .int .i64 gdst, .int .u32 seq, .int .u32 ack, .int .i64 gflags, .int .i64 win, .int .i64 urgent, .string gopt, .string gbody, .bool nosum], .int .i64 vlan] w fun e w' => e = .returned (.bool true) ∧ Below w.heap.size w w' := by
  have H14 := Lib.hid A14
  have H19 := Lib.hid A19
  clear A14 A19
  have hN := Two2.new w #[.int .i64 v, .string src, .string dst, .int .i64 proto, .int .i64 hops, .int .i64 cls, .int .i64 id, .int .i64 flags, .int .i64 off, .int .i64 label, .string opt, .string ⟨#[]⟩] #[.int .i64 gsrc, .int .i64 gdst, .int .u32 seq, .int .u32 ack, .int .i64 gflags, .int .i64 win, .int .i64 urgent, .string gopt, .string (gbody.extract 0 500), .bool nosum]
  go_enter Try.func6, Try.ntmps6
  go_wp2_with fail
  refine (H19.out _).mono ?_
  rintro e w1 ⟨rfl, hq⟩
  have h1 := hN.next hq
  clear hq hN
  obtain ⟨⟨c0, c1, c2, c3, c4, c5, c6, c7, c8, c9, c10, c11⟩, ⟨g0, g1, g2, g3, g4, g5, g6, g7, g8, g9⟩⟩ := h1.cells
  have fp := h1.p.frozen
  have hz := h1.g.lt
  go_wp2_with fail
  refine (H14.out _).mono ?_
  rintro e w2 ⟨rfl, hq⟩
  go_wp2_with fail
  go_ret
  exact ⟨rfl, h1.below.trans (hq.mono h1.below.size)⟩
set_option maxRecDepth 100000 in
set_option maxHeartbeats 3200000 in
theorem whole_l_nosum (v : Int) (src dst : ByteArray) (proto hops cls id flags off label : Int) (opt body : ByteArray) (gsrc gdst seq ack gflags win urgent : Int) (gopt gbody : ByteArray) (vlan : Int) (S : ByteArray) (w : World) (hl : 500 < gbody.size) 
    (A19 : ∀ W, Calls Try.prog 19 #[.agg #[.int .i64 v, .string src, .string dst, .int .i64 proto, .int .i64 hops, .int .i64 cls, .int .i64 id, .int .i64 flags, .int .i64 off, .int .i64 label, .string opt, .string ⟨#[]⟩], .agg #[.int .i64 gsrc, .int .i64 gdst, .int .u32 seq, .int .u32 ack, .int .i64 gflags, .int .i64 win, .int .i64 urgent, .string gopt, .string (gbody.extract 0 500), .bool true]] W fun e w' => e = .returned (.tuple #[.string S, .int .i64 0]) ∧ Below W.heap.size W w')
    (A14 : ∀ W, Calls Try.prog 14 #[] W fun e w' => e = .returned (.bool true) ∧ Below W.heap.size W w') :
    Calls Try.prog 6 #[.agg #[.int .i64 v, .string src, .string dst, .int .i64 proto, .int .i64 hops, .int .i64 cls, .int .i64 id, .int .i64 flags, .int .i64 off, .int .i64 label, .string opt, .string body], .agg #[.int .i64 gsrc, .int .i64 gdst, .int .u32 seq, .int .u32 ack, .int .i64 gflags, .int .i64 win, .int .i64 urgent, .string gopt, .string gbody, .bool true], .int .i64 vlan] w fun e w' => e = .returned (.bool true) ∧ Below w.heap.size w w' := by
  have H14 := Lib.hid A14
  have H19 := Lib.hid A19
  clear A14 A19
  have hN := Two2.new w #[.int .i64 v, .string src, .string dst, .int .i64 proto, .int .i64 hops, .int .i64 cls, .int .i64 id, .int .i64 flags, .int .i64 off, .int .i64 label, .string opt, .string ⟨#[]⟩] #[.int .i64 gsrc, .int .i64 gdst, .int .u32 seq, .int .u32 ack, .int .i64 gflags, .int .i64 win, .int .i64 urgent, .string gopt, .string (gbody.extract 0 500), .bool true]
  go_enter Try.func6, Try.ntmps6
  go_wp2_with fail
  refine (H19.out _).mono ?_
  rintro e w1 ⟨rfl, hq⟩
  have h1 := hN.next hq
  clear hq hN
  obtain ⟨⟨c0, c1, c2, c3, c4, c5, c6, c7, c8, c9, c10, c11⟩, ⟨g0, g1, g2, g3, g4, g5, g6, g7, g8, g9⟩⟩ := h1.cells
  have fp := h1.p.frozen
  have hz := h1.g.lt
  go_wp2_with fail
  refine (H14.out _).mono ?_
  rintro e w2 ⟨rfl, hq⟩
  go_wp2_with fail
  go_ret
  exact ⟨rfl, h1.below.trans (hq.mono h1.below.size)⟩
set_option maxRecDepth 100000 in
set_option maxHeartbeats 3200000 in
theorem whole_l_bad24 (v : Int) (src dst : ByteArray) (proto hops cls id flags off label : Int) (opt body : ByteArray) (gsrc gdst seq ack gflags win urgent : Int) (gopt gbody : ByteArray) (vlan : Int) (S : ByteArray) (T F : ByteArray) (E2 E3 : Int) (w : World) (hl : 500 < gbody.size) (hv : (v == 6) = false) (X : Nat) (_ : X < 65536) (eX : bits .and .i64 vlan 65535 = (X : Int)) (Y : Nat) (hY : Y < 4095) (hm : (X : Int).tmod 4095 = (Y : Int)) (hE2 : (E2 != 0) = true) 
    (A19 : ∀ W, Calls Try.prog 19 #[.agg #[.int .i64 v, .string src, .string dst, .int .i64 proto, .int .i64 hops, .int .i64 cls, .int .i64 id, .int .i64 flags, .int .i64 off, .int .i64 label, .string opt, .string ⟨#[]⟩], .agg #[.int .i64 gsrc, .int .i64 gdst, .int .u32 seq, .int .u32 ack, .int .i64 gflags, .int .i64 win, .int .i64 urgent, .string gopt, .string (gbody.extract 0 500), .bool false]] W fun e w' => e = .returned (.tuple #[.string S, .int .i64 0]) ∧ Below W.heap.size W w')
    (A20 : ∀ W, Calls Try.prog 20 #[.agg #[.int .i64 v, .string src, .string dst, .int .i64 proto, .int .i64 hops, .int .i64 cls, .int .i64 id, .int .i64 flags, .int .i64 off, .int .i64 label, .string opt, .string S]] W fun e w' => e = .returned (.tuple #[.string T, .int .i64 E2]) ∧ Below W.heap.size W w')
    (A21 : ∀ W, Calls Try.prog 21 #[.agg #[.string ⟨#[65, 66, 67, 68, 69, 70]⟩, .string ⟨#[71, 72, 73, 74, 75, 76]⟩, (.int .i64 ((Y : Int) - 1)), .int .i64 0, .int .i64 2048, .string T]] W fun e w' => e = .returned (.tuple #[.string F, .int .i64 E3]) ∧ Below W.heap.size W w')
    (A14 : ∀ W, Calls Try.prog 14 #[] W fun e w' => e = .returned (.bool true) ∧ Below W.heap.size W w') :
    Calls Try.prog 6 #[.agg #[.int .i64 v, .string src, .string dst, .int .i64 proto, .int .i64 hops, .int .i64 cls, .int .i64 id, .int .i64 flags, .int .i64 off, .int .i64 label, .string opt, .string body], .agg #[.int .i64 gsrc, .int .i64 gdst, .int .u32 seq, .int .u32 ack, .int .i64 gflags, .int .i64 win, .int .i64 urgent, .string gopt, .string gbody, .bool false], .int .i64 vlan] w fun e w' => e = .returned (.bool true) ∧ Below w.heap.size w w' := by
  have H14 := Lib.hid A14
  have H19 := Lib.hid A19
  have H20 := Lib.hid A20
  have H21 := Lib.hid A21
  clear A14 A19 A20 A21
  have x3 : IntKind.i64.wrap ((Y : Int) - 1) = (Y : Int) - 1 := IntWalk.i64_in _ (by omega)
  have hN := Two2.new w #[.int .i64 v, .string src, .string dst, .int .i64 proto, .int .i64 hops, .int .i64 cls, .int .i64 id, .int .i64 flags, .int .i64 off, .int .i64 label, .string opt, .string ⟨#[]⟩] #[.int .i64 gsrc, .int .i64 gdst, .int .u32 seq, .int .u32 ack, .int .i64 gflags, .int .i64 win, .int .i64 urgent, .string gopt, .string (gbody.extract 0 500), .bool false]
  go_enter Try.func6, Try.ntmps6
  go_wp2_with fail
  refine (H19.out _).mono ?_
  rintro e w1 ⟨rfl, hq⟩
  have h1 := hN.next hq
  clear hq hN
  obtain ⟨⟨c0, c1, c2, c3, c4, c5, c6, c7, c8, c9, c10, c11⟩, ⟨g0, g1, g2, g3, g4, g5, g6, g7, g8, g9⟩⟩ := h1.cells
  have fp := h1.p.frozen
  have hz := h1.g.lt
  go_wp2_with fail
  have h2 : Two2 w #[.int .i64 v, .string src, .string dst, .int .i64 proto, .int .i64 hops, .int .i64 cls, .int .i64 id, .int .i64 flags, .int .i64 off, .int .i64 label, .string opt, .string S] #[.int .i64 gsrc, .int .i64 gdst, .int .u32 seq, .int .u32 ack, .int .i64 gflags, .int .i64 win, .int .i64 urgent, .string gopt, .string (gbody.extract 0 500), .bool false] (w1.setCell ⟨w.heap.size, 11, none⟩ (.string S)) := ⟨h1.p.put' 11 _ rfl, h1.g.other (by omega) _ _, h1.below.setCell (Nat.le_refl _) _⟩
  clear fp hz
  refine (H20.out _).mono ?_
  rintro e w2 ⟨rfl, hq⟩
  have h3 := h2.next hq
  clear hq h2 h1
  clear c0 c1 c2 c3 c4 c5 c6 c7 c8 c9 c10 c11 g0 g1 g2 g3 g4 g5 g6 g7 g8 g9
  obtain ⟨⟨c0, c1, c2, c3, c4, c5, c6, c7, c8, c9, c10, c11⟩, ⟨g0, g1, g2, g3, g4, g5, g6, g7, g8, g9⟩⟩ := h3.cells
  go_wp2_with fail
  refine (H21.out _).mono ?_
  rintro e w3 ⟨rfl, hq⟩
  have hB := h3.below.trans (hq.mono h3.below.size)
  clear hq h3 c0 c1 c2 c3 c4 c5 c6 c7 c8 c9 c10 c11 g0 g1 g2 g3 g4 g5 g6 g7 g8 g9
  go_wp2_with fail
  refine (H14.out _).mono ?_
  rintro e w4 ⟨rfl, hq⟩
  go_wp2_with fail
  go_ret
  exact ⟨rfl, hB.trans (hq.mono hB.size)⟩
set_option maxRecDepth 100000 in
set_option maxHeartbeats 3200000 in
theorem whole_l_bad34 (v : Int) (src dst : ByteArray) (proto hops cls id flags off label : Int) (opt body : ByteArray) (gsrc gdst seq ack gflags win urgent : Int) (gopt gbody : ByteArray) (vlan : Int) (S : ByteArray) (T F : ByteArray) (E3 : Int) (w : World) (hl : 500 < gbody.size) (hv : (v == 6) = false) (X : Nat) (_ : X < 65536) (eX : bits .and .i64 vlan 65535 = (X : Int)) (Y : Nat) (hY : Y < 4095) (hm : (X : Int).tmod 4095 = (Y : Int)) (hE3 : (E3 != 0) = true) 
    (A19 : ∀ W, Calls Try.prog 19 #[.agg #[.int .i64 v, .string src, .string dst, .int .i64 proto, .int .i64 hops, .int .i64 cls, .int .i64 id, .int .i64 flags, .int .i64 off, .int .i64 label, .string opt, .string ⟨#[]⟩], .agg #[.int .i64 gsrc, .int .i64 gdst, .int .u32 seq, .int .u32 ack, .int .i64 gflags, .int .i64 win, .int .i64 urgent, .string gopt, .string (gbody.extract 0 500), .bool false]] W fun e w' => e = .returned (.tuple #[.string S, .int .i64 0]) ∧ Below W.heap.size W w')
    (A20 : ∀ W, Calls Try.prog 20 #[.agg #[.int .i64 v, .string src, .string dst, .int .i64 proto, .int .i64 hops, .int .i64 cls, .int .i64 id, .int .i64 flags, .int .i64 off, .int .i64 label, .string opt, .string S]] W fun e w' => e = .returned (.tuple #[.string T, .int .i64 0]) ∧ Below W.heap.size W w')
    (A21 : ∀ W, Calls Try.prog 21 #[.agg #[.string ⟨#[65, 66, 67, 68, 69, 70]⟩, .string ⟨#[71, 72, 73, 74, 75, 76]⟩, (.int .i64 ((Y : Int) - 1)), .int .i64 0, .int .i64 2048, .string T]] W fun e w' => e = .returned (.tuple #[.string F, .int .i64 E3]) ∧ Below W.heap.size W w')
    (A14 : ∀ W, Calls Try.prog 14 #[] W fun e w' => e = .returned (.bool true) ∧ Below W.heap.size W w') :
    Calls Try.prog 6 #[.agg #[.int .i64 v, .string src, .string dst, .int .i64 proto, .int .i64 hops, .int .i64 cls, .int .i64 id, .int .i64 flags, .int .i64 off, .int .i64 label, .string opt, .string body], .agg #[.int .i64 gsrc, .int .i64 gdst, .int .u32 seq, .int .u32 ack, .int .i64 gflags, .int .i64 win, .int .i64 urgent, .string gopt, .string gbody, .bool false], .int .i64 vlan] w fun e w' => e = .returned (.bool true) ∧ Below w.heap.size w w' := by
  have H14 := Lib.hid A14
  have H19 := Lib.hid A19
  have H20 := Lib.hid A20
  have H21 := Lib.hid A21
  clear A14 A19 A20 A21
  have x3 : IntKind.i64.wrap ((Y : Int) - 1) = (Y : Int) - 1 := IntWalk.i64_in _ (by omega)
  have hN := Two2.new w #[.int .i64 v, .string src, .string dst, .int .i64 proto, .int .i64 hops, .int .i64 cls, .int .i64 id, .int .i64 flags, .int .i64 off, .int .i64 label, .string opt, .string ⟨#[]⟩] #[.int .i64 gsrc, .int .i64 gdst, .int .u32 seq, .int .u32 ack, .int .i64 gflags, .int .i64 win, .int .i64 urgent, .string gopt, .string (gbody.extract 0 500), .bool false]
  go_enter Try.func6, Try.ntmps6
  go_wp2_with fail
  refine (H19.out _).mono ?_
  rintro e w1 ⟨rfl, hq⟩
  have h1 := hN.next hq
  clear hq hN
  obtain ⟨⟨c0, c1, c2, c3, c4, c5, c6, c7, c8, c9, c10, c11⟩, ⟨g0, g1, g2, g3, g4, g5, g6, g7, g8, g9⟩⟩ := h1.cells
  have fp := h1.p.frozen
  have hz := h1.g.lt
  go_wp2_with fail
  have h2 : Two2 w #[.int .i64 v, .string src, .string dst, .int .i64 proto, .int .i64 hops, .int .i64 cls, .int .i64 id, .int .i64 flags, .int .i64 off, .int .i64 label, .string opt, .string S] #[.int .i64 gsrc, .int .i64 gdst, .int .u32 seq, .int .u32 ack, .int .i64 gflags, .int .i64 win, .int .i64 urgent, .string gopt, .string (gbody.extract 0 500), .bool false] (w1.setCell ⟨w.heap.size, 11, none⟩ (.string S)) := ⟨h1.p.put' 11 _ rfl, h1.g.other (by omega) _ _, h1.below.setCell (Nat.le_refl _) _⟩
  clear fp hz
  refine (H20.out _).mono ?_
  rintro e w2 ⟨rfl, hq⟩
  have h3 := h2.next hq
  clear hq h2 h1
  clear c0 c1 c2 c3 c4 c5 c6 c7 c8 c9 c10 c11 g0 g1 g2 g3 g4 g5 g6 g7 g8 g9
  obtain ⟨⟨c0, c1, c2, c3, c4, c5, c6, c7, c8, c9, c10, c11⟩, ⟨g0, g1, g2, g3, g4, g5, g6, g7, g8, g9⟩⟩ := h3.cells
  go_wp2_with fail
  refine (H21.out _).mono ?_
  rintro e w3 ⟨rfl, hq⟩
  have hB := h3.below.trans (hq.mono h3.below.size)
  clear hq h3 c0 c1 c2 c3 c4 c5 c6 c7 c8 c9 c10 c11 g0 g1 g2 g3 g4 g5 g6 g7 g8 g9
  go_wp2_with fail
  refine (H14.out _).mono ?_
  rintro e w4 ⟨rfl, hq⟩
  go_wp2_with fail
  go_ret
  exact ⟨rfl, hB.trans (hq.mono hB.size)⟩
set_option maxRecDepth 100000 in
set_option maxHeartbeats 3200000 in
theorem whole_l_good4 (v : Int) (src dst : ByteArray) (proto hops cls id flags off label : Int) (opt body : ByteArray) (gsrc gdst seq ack gflags win urgent : Int) (gopt gbody : ByteArray) (vlan : Int) (S : ByteArray) (T F : ByteArray) (U : ByteArray) (a0 a1 a2 a3 a4 a5 a6 : Int) (w : World) (hl : 500 < gbody.size) (hv : (v == 6) = false) (X : Nat) (_ : X < 65536) (eX : bits .and .i64 vlan 65535 = (X : Int)) (Y : Nat) (hY : Y < 4095) (hm : (X : Int).tmod 4095 = (Y : Int)) (hFz : F.size ≤ 1518) (hSz : S.size ≤ 560) (ha0 : a0 = 1) (ha4 : a4 = (F.size : Int) - S.size) 
    (A19 : ∀ W, Calls Try.prog 19 #[.agg #[.int .i64 v, .string src, .string dst, .int .i64 proto, .int .i64 hops, .int .i64 cls, .int .i64 id, .int .i64 flags, .int .i64 off, .int .i64 label, .string opt, .string ⟨#[]⟩], .agg #[.int .i64 gsrc, .int .i64 gdst, .int .u32 seq, .int .u32 ack, .int .i64 gflags, .int .i64 win, .int .i64 urgent, .string gopt, .string (gbody.extract 0 500), .bool false]] W fun e w' => e = .returned (.tuple #[.string S, .int .i64 0]) ∧ Below W.heap.size W w')
    (A20 : ∀ W, Calls Try.prog 20 #[.agg #[.int .i64 v, .string src, .string dst, .int .i64 proto, .int .i64 hops, .int .i64 cls, .int .i64 id, .int .i64 flags, .int .i64 off, .int .i64 label, .string opt, .string S]] W fun e w' => e = .returned (.tuple #[.string T, .int .i64 0]) ∧ Below W.heap.size W w')
    (A21 : ∀ W, Calls Try.prog 21 #[.agg #[.string ⟨#[65, 66, 67, 68, 69, 70]⟩, .string ⟨#[71, 72, 73, 74, 75, 76]⟩, (.int .i64 ((Y : Int) - 1)), .int .i64 0, .int .i64 2048, .string T]] W fun e w' => e = .returned (.tuple #[.string F, .int .i64 0]) ∧ Below W.heap.size W w')
    (A17 : ∀ W, Calls Try.prog 17 #[.string F] W fun e w' => e = .returned (.tuple #[.agg #[.int .i64 a0, .int .i64 a1, .int .i64 a2, .int .i64 a3, .int .i64 a4, .int .i64 a5, .int .i64 a6], .string U]) ∧ Below W.heap.size W w')
    (A15 : ∀ W, Calls Try.prog 15 #[.agg #[.int .i64 a0, .int .i64 a1, .int .i64 a2, .int .i64 a3, .int .i64 a4, .int .i64 a5, .int .i64 a6], .string U] W fun e w' => e = .returned (.tuple #[.string F, .int .i64 0]) ∧ Below W.heap.size W w')
    (A14 : ∀ W, Calls Try.prog 14 #[] W fun e w' => e = .returned (.bool true) ∧ Below W.heap.size W w') :
    Calls Try.prog 6 #[.agg #[.int .i64 v, .string src, .string dst, .int .i64 proto, .int .i64 hops, .int .i64 cls, .int .i64 id, .int .i64 flags, .int .i64 off, .int .i64 label, .string opt, .string body], .agg #[.int .i64 gsrc, .int .i64 gdst, .int .u32 seq, .int .u32 ack, .int .i64 gflags, .int .i64 win, .int .i64 urgent, .string gopt, .string gbody, .bool false], .int .i64 vlan] w fun e w' => e = .returned (.bool true) ∧ Below w.heap.size w w' := by
  have H14 := Lib.hid A14
  have H19 := Lib.hid A19
  have H20 := Lib.hid A20
  have H21 := Lib.hid A21
  have H17 := Lib.hid A17
  have H15 := Lib.hid A15
  clear A14 A19 A20 A21 A17 A15
  have x3 : IntKind.i64.wrap ((Y : Int) - 1) = (Y : Int) - 1 := IntWalk.i64_in _ (by omega)
  subst ha0
  have x4 : (a4 == (F.size : Int) - S.size) = true := by simpa using ha4
  have x5 : IntKind.i64.wrap ((F.size : Int) - S.size) = (F.size : Int) - S.size := IntWalk.i64_in _ (by omega)
  clear ha4 hFz hSz
  have hN := Two2.new w #[.int .i64 v, .string src, .string dst, .int .i64 proto, .int .i64 hops, .int .i64 cls, .int .i64 id, .int .i64 flags, .int .i64 off, .int .i64 label, .string opt, .string ⟨#[]⟩] #[.int .i64 gsrc, .int .i64 gdst, .int .u32 seq, .int .u32 ack, .int .i64 gflags, .int .i64 win, .int .i64 urgent, .string gopt, .string (gbody.extract 0 500), .bool false]
  go_enter Try.func6, Try.ntmps6
  go_wp2_with fail
  refine (H19.out _).mono ?_
  rintro e w1 ⟨rfl, hq⟩
  have h1 := hN.next hq
  clear hq hN
  obtain ⟨⟨c0, c1, c2, c3, c4, c5, c6, c7, c8, c9, c10, c11⟩, ⟨g0, g1, g2, g3, g4, g5, g6, g7, g8, g9⟩⟩ := h1.cells
  have fp := h1.p.frozen
  have hz := h1.g.lt
  go_wp2_with fail
  have h2 : Two2 w #[.int .i64 v, .string src, .string dst, .int .i64 proto, .int .i64 hops, .int .i64 cls, .int .i64 id, .int .i64 flags, .int .i64 off, .int .i64 label, .string opt, .string S] #[.int .i64 gsrc, .int .i64 gdst, .int .u32 seq, .int .u32 ack, .int .i64 gflags, .int .i64 win, .int .i64 urgent, .string gopt, .string (gbody.extract 0 500), .bool false] (w1.setCell ⟨w.heap.size, 11, none⟩ (.string S)) := ⟨h1.p.put' 11 _ rfl, h1.g.other (by omega) _ _, h1.below.setCell (Nat.le_refl _) _⟩
  clear fp hz
  refine (H20.out _).mono ?_
  rintro e w2 ⟨rfl, hq⟩
  have h3 := h2.next hq
  clear hq h2 h1
  clear c0 c1 c2 c3 c4 c5 c6 c7 c8 c9 c10 c11 g0 g1 g2 g3 g4 g5 g6 g7 g8 g9
  obtain ⟨⟨c0, c1, c2, c3, c4, c5, c6, c7, c8, c9, c10, c11⟩, ⟨g0, g1, g2, g3, g4, g5, g6, g7, g8, g9⟩⟩ := h3.cells
  go_wp2_with fail
  refine (H21.out _).mono ?_
  rintro e w3 ⟨rfl, hq⟩
  have hB := h3.below.trans (hq.mono h3.below.size)
  clear hq h3 c0 c1 c2 c3 c4 c5 c6 c7 c8 c9 c10 c11 g0 g1 g2 g3 g4 g5 g6 g7 g8 g9
  go_wp2_with fail
  refine (H17.out _).mono ?_
  rintro e w4 ⟨rfl, hq⟩
  have hB4 := hB.trans (hq.mono hB.size)
  clear hq hB
  go_wp2_with fail
  refine (H15.out _).mono ?_
  rintro e w5 ⟨rfl, hq⟩
  have hk : Blk w5 w4.heap.size 23 #[.int .i64 1, .int .i64 a1, .int .i64 a2, .int .i64 a3, .int .i64 a4, .int .i64 a5, .int .i64 a6] := (Blk.new w4 23 _).same (hq.block _ (by simp))
  have hB5 := (hB4.alloc hB4.size _).trans (hq.mono (by have := hB4.size; simp; omega))
  clear hq hB4
  have k0 : w5.cell? ⟨w4.heap.size, 0, none⟩ = some (.int .i64 1) := hk.cell 0
  have k4 : w5.cell? ⟨w4.heap.size, 4, none⟩ = some (.int .i64 a4) := hk.cell 4
  go_wp2_with fail
  refine (H14.out _).mono ?_
  rintro e w6 ⟨rfl, hq⟩
  go_wp2_with fail
  go_ret
  exact ⟨rfl, hB5.trans (hq.mono hB5.size)⟩
set_option maxRecDepth 100000 in
set_option maxHeartbeats 3200000 in
theorem whole_l_bad26 (v : Int) (src dst : ByteArray) (proto hops cls id flags off label : Int) (opt body : ByteArray) (gsrc gdst seq ack gflags win urgent : Int) (gopt gbody : ByteArray) (vlan : Int) (S : ByteArray) (T F : ByteArray) (E2 E3 : Int) (w : World) (hl : 500 < gbody.size) (hv : (v == 6) = true) (X : Nat) (_ : X < 65536) (eX : bits .and .i64 vlan 65535 = (X : Int)) (Y : Nat) (hY : Y < 4095) (hm : (X : Int).tmod 4095 = (Y : Int)) (hE2 : (E2 != 0) = true) 
    (A19 : ∀ W, Calls Try.prog 19 #[.agg #[.int .i64 v, .string src, .string dst, .int .i64 proto, .int .i64 hops, .int .i64 cls, .int .i64 id, .int .i64 flags, .int .i64 off, .int .i64 label, .string opt, .string ⟨#[]⟩], .agg #[.int .i64 gsrc, .int .i64 gdst, .int .u32 seq, .int .u32 ack, .int .i64 gflags, .int .i64 win, .int .i64 urgent, .string gopt, .string (gbody.extract 0 500), .bool false]] W fun e w' => e = .returned (.tuple #[.string S, .int .i64 0]) ∧ Below W.heap.size W w')
    (A20 : ∀ W, Calls Try.prog 20 #[.agg #[.int .i64 v, .string src, .string dst, .int .i64 proto, .int .i64 hops, .int .i64 cls, .int .i64 id, .int .i64 flags, .int .i64 off, .int .i64 label, .string opt, .string S]] W fun e w' => e = .returned (.tuple #[.string T, .int .i64 E2]) ∧ Below W.heap.size W w')
    (A21 : ∀ W, Calls Try.prog 21 #[.agg #[.string ⟨#[65, 66, 67, 68, 69, 70]⟩, .string ⟨#[71, 72, 73, 74, 75, 76]⟩, (.int .i64 ((Y : Int) - 1)), .int .i64 0, .int .i64 34525, .string T]] W fun e w' => e = .returned (.tuple #[.string F, .int .i64 E3]) ∧ Below W.heap.size W w')
    (A14 : ∀ W, Calls Try.prog 14 #[] W fun e w' => e = .returned (.bool true) ∧ Below W.heap.size W w') :
    Calls Try.prog 6 #[.agg #[.int .i64 v, .string src, .string dst, .int .i64 proto, .int .i64 hops, .int .i64 cls, .int .i64 id, .int .i64 flags, .int .i64 off, .int .i64 label, .string opt, .string body], .agg #[.int .i64 gsrc, .int .i64 gdst, .int .u32 seq, .int .u32 ack, .int .i64 gflags, .int .i64 win, .int .i64 urgent, .string gopt, .string gbody, .bool false], .int .i64 vlan] w fun e w' => e = .returned (.bool true) ∧ Below w.heap.size w w' := by
  have H14 := Lib.hid A14
  have H19 := Lib.hid A19
  have H20 := Lib.hid A20
  have H21 := Lib.hid A21
  clear A14 A19 A20 A21
  have x3 : IntKind.i64.wrap ((Y : Int) - 1) = (Y : Int) - 1 := IntWalk.i64_in _ (by omega)
  have hN := Two2.new w #[.int .i64 v, .string src, .string dst, .int .i64 proto, .int .i64 hops, .int .i64 cls, .int .i64 id, .int .i64 flags, .int .i64 off, .int .i64 label, .string opt, .string ⟨#[]⟩] #[.int .i64 gsrc, .int .i64 gdst, .int .u32 seq, .int .u32 ack, .int .i64 gflags, .int .i64 win, .int .i64 urgent, .string gopt, .string (gbody.extract 0 500), .bool false]
  go_enter Try.func6, Try.ntmps6
  go_wp2_with fail
  refine (H19.out _).mono ?_
  rintro e w1 ⟨rfl, hq⟩
  have h1 := hN.next hq
  clear hq hN
  obtain ⟨⟨c0, c1, c2, c3, c4, c5, c6, c7, c8, c9, c10, c11⟩, ⟨g0, g1, g2, g3, g4, g5, g6, g7, g8, g9⟩⟩ := h1.cells
  have fp := h1.p.frozen
  have hz := h1.g.lt
  go_wp2_with fail
  have h2 : Two2 w #[.int .i64 v, .string src, .string dst, .int .i64 proto, .int .i64 hops, .int .i64 cls, .int .i64 id, .int .i64 flags, .int .i64 off, .int .i64 label, .string opt, .string S] #[.int .i64 gsrc, .int .i64 gdst, .int .u32 seq, .int .u32 ack, .int .i64 gflags, .int .i64 win, .int .i64 urgent, .string gopt, .string (gbody.extract 0 500), .bool false] (w1.setCell ⟨w.heap.size, 11, none⟩ (.string S)) := ⟨h1.p.put' 11 _ rfl, h1.g.other (by omega) _ _, h1.below.setCell (Nat.le_refl _) _⟩
  clear fp hz
  refine (H20.out _).mono ?_
  rintro e w2 ⟨rfl, hq⟩
  have h3 := h2.next hq
  clear hq h2 h1
  clear c0 c1 c2 c3 c4 c5 c6 c7 c8 c9 c10 c11 g0 g1 g2 g3 g4 g5 g6 g7 g8 g9
  obtain ⟨⟨c0, c1, c2, c3, c4, c5, c6, c7, c8, c9, c10, c11⟩, ⟨g0, g1, g2, g3, g4, g5, g6, g7, g8, g9⟩⟩ := h3.cells
  go_wp2_with fail
  refine (H21.out _).mono ?_
  rintro e w3 ⟨rfl, hq⟩
  have hB := h3.below.trans (hq.mono h3.below.size)
  clear hq h3 c0 c1 c2 c3 c4 c5 c6 c7 c8 c9 c10 c11 g0 g1 g2 g3 g4 g5 g6 g7 g8 g9
  go_wp2_with fail
  refine (H14.out _).mono ?_
  rintro e w4 ⟨rfl, hq⟩
  go_wp2_with fail
  go_ret
  exact ⟨rfl, hB.trans (hq.mono hB.size)⟩
set_option maxRecDepth 100000 in
set_option maxHeartbeats 3200000 in
theorem whole_l_bad36 (v : Int) (src dst : ByteArray) (proto hops cls id flags off label : Int) (opt body : ByteArray) (gsrc gdst seq ack gflags win urgent : Int) (gopt gbody : ByteArray) (vlan : Int) (S : ByteArray) (T F : ByteArray) (E3 : Int) (w : World) (hl : 500 < gbody.size) (hv : (v == 6) = true) (X : Nat) (_ : X < 65536) (eX : bits .and .i64 vlan 65535 = (X : Int)) (Y : Nat) (hY : Y < 4095) (hm : (X : Int).tmod 4095 = (Y : Int)) (hE3 : (E3 != 0) = true) 
    (A19 : ∀ W, Calls Try.prog 19 #[.agg #[.int .i64 v, .string src, .string dst, .int .i64 proto, .int .i64 hops, .int .i64 cls, .int .i64 id, .int .i64 flags, .int .i64 off, .int .i64 label, .string opt, .string ⟨#[]⟩], .agg #[.int .i64 gsrc, .int .i64 gdst, .int .u32 seq, .int .u32 ack, .int .i64 gflags, .int .i64 win, .int .i64 urgent, .string gopt, .string (gbody.extract 0 500), .bool false]] W fun e w' => e = .returned (.tuple #[.string S, .int .i64 0]) ∧ Below W.heap.size W w')
    (A20 : ∀ W, Calls Try.prog 20 #[.agg #[.int .i64 v, .string src, .string dst, .int .i64 proto, .int .i64 hops, .int .i64 cls, .int .i64 id, .int .i64 flags, .int .i64 off, .int .i64 label, .string opt, .string S]] W fun e w' => e = .returned (.tuple #[.string T, .int .i64 0]) ∧ Below W.heap.size W w')
    (A21 : ∀ W, Calls Try.prog 21 #[.agg #[.string ⟨#[65, 66, 67, 68, 69, 70]⟩, .string ⟨#[71, 72, 73, 74, 75, 76]⟩, (.int .i64 ((Y : Int) - 1)), .int .i64 0, .int .i64 34525, .string T]] W fun e w' => e = .returned (.tuple #[.string F, .int .i64 E3]) ∧ Below W.heap.size W w')
    (A14 : ∀ W, Calls Try.prog 14 #[] W fun e w' => e = .returned (.bool true) ∧ Below W.heap.size W w') :
    Calls Try.prog 6 #[.agg #[.int .i64 v, .string src, .string dst, .int .i64 proto, .int .i64 hops, .int .i64 cls, .int .i64 id, .int .i64 flags, .int .i64 off, .int .i64 label, .string opt, .string body], .agg #[.int .i64 gsrc, .int .i64 gdst, .int .u32 seq, .int .u32 ack, .int .i64 gflags, .int .i64 win, .int .i64 urgent, .string gopt, .string gbody, .bool false], .int .i64 vlan] w fun e w' => e = .returned (.bool true) ∧ Below w.heap.size w w' := by
  have H14 := Lib.hid A14
  have H19 := Lib.hid A19
  have H20 := Lib.hid A20
  have H21 := Lib.hid A21
  clear A14 A19 A20 A21
  have x3 : IntKind.i64.wrap ((Y : Int) - 1) = (Y : Int) - 1 := IntWalk.i64_in _ (by omega)
  have hN := Two2.new w #[.int .i64 v, .string src, .string dst, .int .i64 proto, .int .i64 hops, .int .i64 cls, .int .i64 id, .int .i64 flags, .int .i64 off, .int .i64 label, .string opt, .string ⟨#[]⟩] #[.int .i64 gsrc, .int .i64 gdst, .int .u32 seq, .int .u32 ack, .int .i64 gflags, .int .i64 win, .int .i64 urgent, .string gopt, .string (gbody.extract 0 500), .bool false]
  go_enter Try.func6, Try.ntmps6
  go_wp2_with fail
  refine (H19.out _).mono ?_
  rintro e w1 ⟨rfl, hq⟩
  have h1 := hN.next hq
  clear hq hN
  obtain ⟨⟨c0, c1, c2, c3, c4, c5, c6, c7, c8, c9, c10, c11⟩, ⟨g0, g1, g2, g3, g4, g5, g6, g7, g8, g9⟩⟩ := h1.cells
  have fp := h1.p.frozen
  have hz := h1.g.lt
  go_wp2_with fail
  have h2 : Two2 w #[.int .i64 v, .string src, .string dst, .int .i64 proto, .int .i64 hops, .int .i64 cls, .int .i64 id, .int .i64 flags, .int .i64 off, .int .i64 label, .string opt, .string S] #[.int .i64 gsrc, .int .i64 gdst, .int .u32 seq, .int .u32 ack, .int .i64 gflags, .int .i64 win, .int .i64 urgent, .string gopt, .string (gbody.extract 0 500), .bool false] (w1.setCell ⟨w.heap.size, 11, none⟩ (.string S)) := ⟨h1.p.put' 11 _ rfl, h1.g.other (by omega) _ _, h1.below.setCell (Nat.le_refl _) _⟩
  clear fp hz
  refine (H20.out _).mono ?_
  rintro e w2 ⟨rfl, hq⟩
  have h3 := h2.next hq
  clear hq h2 h1
  clear c0 c1 c2 c3 c4 c5 c6 c7 c8 c9 c10 c11 g0 g1 g2 g3 g4 g5 g6 g7 g8 g9
  obtain ⟨⟨c0, c1, c2, c3, c4, c5, c6, c7, c8, c9, c10, c11⟩, ⟨g0, g1, g2, g3, g4, g5, g6, g7, g8, g9⟩⟩ := h3.cells
  go_wp2_with fail
  refine (H21.out _).mono ?_
  rintro e w3 ⟨rfl, hq⟩
  have hB := h3.below.trans (hq.mono h3.below.size)
  clear hq h3 c0 c1 c2 c3 c4 c5 c6 c7 c8 c9 c10 c11 g0 g1 g2 g3 g4 g5 g6 g7 g8 g9
  go_wp2_with fail
  refine (H14.out _).mono ?_
  rintro e w4 ⟨rfl, hq⟩
  go_wp2_with fail
  go_ret
  exact ⟨rfl, hB.trans (hq.mono hB.size)⟩
set_option maxRecDepth 100000 in
set_option maxHeartbeats 3200000 in
theorem whole_l_good6 (v : Int) (src dst : ByteArray) (proto hops cls id flags off label : Int) (opt body : ByteArray) (gsrc gdst seq ack gflags win urgent : Int) (gopt gbody : ByteArray) (vlan : Int) (S : ByteArray) (T F : ByteArray) (U : ByteArray) (a0 a1 a2 a3 a4 a5 a6 : Int) (w : World) (hl : 500 < gbody.size) (hv : (v == 6) = true) (X : Nat) (_ : X < 65536) (eX : bits .and .i64 vlan 65535 = (X : Int)) (Y : Nat) (hY : Y < 4095) (hm : (X : Int).tmod 4095 = (Y : Int)) (hFz : F.size ≤ 1518) (hSz : S.size ≤ 560) (ha0 : a0 = 1) (ha4 : a4 = (F.size : Int) - S.size) 
    (A19 : ∀ W, Calls Try.prog 19 #[.agg #[.int .i64 v, .string src, .string dst, .int .i64 proto, .int .i64 hops, .int .i64 cls, .int .i64 id, .int .i64 flags, .int .i64 off, .int .i64 label, .string opt, .string ⟨#[]⟩], .agg #[.int .i64 gsrc, .int .i64 gdst, .int .u32 seq, .int .u32 ack, .int .i64 gflags, .int .i64 win, .int .i64 urgent, .string gopt, .string (gbody.extract 0 500), .bool false]] W fun e w' => e = .returned (.tuple #[.string S, .int .i64 0]) ∧ Below W.heap.size W w')
    (A20 : ∀ W, Calls Try.prog 20 #[.agg #[.int .i64 v, .string src, .string dst, .int .i64 proto, .int .i64 hops, .int .i64 cls, .int .i64 id, .int .i64 flags, .int .i64 off, .int .i64 label, .string opt, .string S]] W fun e w' => e = .returned (.tuple #[.string T, .int .i64 0]) ∧ Below W.heap.size W w')
    (A21 : ∀ W, Calls Try.prog 21 #[.agg #[.string ⟨#[65, 66, 67, 68, 69, 70]⟩, .string ⟨#[71, 72, 73, 74, 75, 76]⟩, (.int .i64 ((Y : Int) - 1)), .int .i64 0, .int .i64 34525, .string T]] W fun e w' => e = .returned (.tuple #[.string F, .int .i64 0]) ∧ Below W.heap.size W w')
    (A17 : ∀ W, Calls Try.prog 17 #[.string F] W fun e w' => e = .returned (.tuple #[.agg #[.int .i64 a0, .int .i64 a1, .int .i64 a2, .int .i64 a3, .int .i64 a4, .int .i64 a5, .int .i64 a6], .string U]) ∧ Below W.heap.size W w')
    (A15 : ∀ W, Calls Try.prog 15 #[.agg #[.int .i64 a0, .int .i64 a1, .int .i64 a2, .int .i64 a3, .int .i64 a4, .int .i64 a5, .int .i64 a6], .string U] W fun e w' => e = .returned (.tuple #[.string F, .int .i64 0]) ∧ Below W.heap.size W w')
    (A14 : ∀ W, Calls Try.prog 14 #[] W fun e w' => e = .returned (.bool true) ∧ Below W.heap.size W w') :
    Calls Try.prog 6 #[.agg #[.int .i64 v, .string src, .string dst, .int .i64 proto, .int .i64 hops, .int .i64 cls, .int .i64 id, .int .i64 flags, .int .i64 off, .int .i64 label, .string opt, .string body], .agg #[.int .i64 gsrc, .int .i64 gdst, .int .u32 seq, .int .u32 ack, .int .i64 gflags, .int .i64 win, .int .i64 urgent, .string gopt, .string gbody, .bool false], .int .i64 vlan] w fun e w' => e = .returned (.bool true) ∧ Below w.heap.size w w' := by
  have H14 := Lib.hid A14
  have H19 := Lib.hid A19
  have H20 := Lib.hid A20
  have H21 := Lib.hid A21
  have H17 := Lib.hid A17
  have H15 := Lib.hid A15
  clear A14 A19 A20 A21 A17 A15
  have x3 : IntKind.i64.wrap ((Y : Int) - 1) = (Y : Int) - 1 := IntWalk.i64_in _ (by omega)
  subst ha0
  have x4 : (a4 == (F.size : Int) - S.size) = true := by simpa using ha4
  have x5 : IntKind.i64.wrap ((F.size : Int) - S.size) = (F.size : Int) - S.size := IntWalk.i64_in _ (by omega)
  clear ha4 hFz hSz
  have hN := Two2.new w #[.int .i64 v, .string src, .string dst, .int .i64 proto, .int .i64 hops, .int .i64 cls, .int .i64 id, .int .i64 flags, .int .i64 off, .int .i64 label, .string opt, .string ⟨#[]⟩] #[.int .i64 gsrc, .int .i64 gdst, .int .u32 seq, .int .u32 ack, .int .i64 gflags, .int .i64 win, .int .i64 urgent, .string gopt, .string (gbody.extract 0 500), .bool false]
  go_enter Try.func6, Try.ntmps6
  go_wp2_with fail
  refine (H19.out _).mono ?_
  rintro e w1 ⟨rfl, hq⟩
  have h1 := hN.next hq
  clear hq hN
  obtain ⟨⟨c0, c1, c2, c3, c4, c5, c6, c7, c8, c9, c10, c11⟩, ⟨g0, g1, g2, g3, g4, g5, g6, g7, g8, g9⟩⟩ := h1.cells
  have fp := h1.p.frozen
  have hz := h1.g.lt
  go_wp2_with fail
  have h2 : Two2 w #[.int .i64 v, .string src, .string dst, .int .i64 proto, .int .i64 hops, .int .i64 cls, .int .i64 id, .int .i64 flags, .int .i64 off, .int .i64 label, .string opt, .string S] #[.int .i64 gsrc, .int .i64 gdst, .int .u32 seq, .int .u32 ack, .int .i64 gflags, .int .i64 win, .int .i64 urgent, .string gopt, .string (gbody.extract 0 500), .bool false] (w1.setCell ⟨w.heap.size, 11, none⟩ (.string S)) := ⟨h1.p.put' 11 _ rfl, h1.g.other (by omega) _ _, h1.below.setCell (Nat.le_refl _) _⟩
  clear fp hz
  refine (H20.out _).mono ?_
  rintro e w2 ⟨rfl, hq⟩
  have h3 := h2.next hq
  clear hq h2 h1
  clear c0 c1 c2 c3 c4 c5 c6 c7 c8 c9 c10 c11 g0 g1 g2 g3 g4 g5 g6 g7 g8 g9
  obtain ⟨⟨c0, c1, c2, c3, c4, c5, c6, c7, c8, c9, c10, c11⟩, ⟨g0, g1, g2, g3, g4, g5, g6, g7, g8, g9⟩⟩ := h3.cells
  go_wp2_with fail
  refine (H21.out _).mono ?_
  rintro e w3 ⟨rfl, hq⟩
  have hB := h3.below.trans (hq.mono h3.below.size)
  clear hq h3 c0 c1 c2 c3 c4 c5 c6 c7 c8 c9 c10 c11 g0 g1 g2 g3 g4 g5 g6 g7 g8 g9
  go_wp2_with fail
  refine (H17.out _).mono ?_
  rintro e w4 ⟨rfl, hq⟩
  have hB4 := hB.trans (hq.mono hB.size)
  clear hq hB
  go_wp2_with fail
  refine (H15.out _).mono ?_
  rintro e w5 ⟨rfl, hq⟩
  have hk : Blk w5 w4.heap.size 23 #[.int .i64 1, .int .i64 a1, .int .i64 a2, .int .i64 a3, .int .i64 a4, .int .i64 a5, .int .i64 a6] := (Blk.new w4 23 _).same (hq.block _ (by simp))
  have hB5 := (hB4.alloc hB4.size _).trans (hq.mono (by have := hB4.size; simp; omega))
  clear hq hB4
  have k0 : w5.cell? ⟨w4.heap.size, 0, none⟩ = some (.int .i64 1) := hk.cell 0
  have k4 : w5.cell? ⟨w4.heap.size, 4, none⟩ = some (.int .i64 a4) := hk.cell 4
  go_wp2_with fail
  refine (H14.out _).mono ?_
  rintro e w6 ⟨rfl, hq⟩
  go_wp2_with fail
  go_ret
  exact ⟨rfl, hB5.trans (hq.mono hB5.size)⟩
end Go.Proofs.Ytalkpllmcigjnaa
