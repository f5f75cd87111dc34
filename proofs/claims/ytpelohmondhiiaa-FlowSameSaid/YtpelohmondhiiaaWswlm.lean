/-
  The walks of FlowSame, a way each; no condition.
-/
import Derived.Test.YtpelohmondhiiaaMk
namespace Go.Proofs.Ytpelohmondhiiaa
open Go.Joins Go.ChangeShapes Go.WideShapes Go.ChangeAt Go.RowKit Go.Deep
open Go.ChangeMaps (open_string)

set_option maxRecDepth 100000 in
set_option maxHeartbeats 1600000 in
theorem sameAl (v : Int) (src dst : ByteArray) (proto hops cls id flags off label : Int) (opt body : ByteArray) (gsrc gdst seq ack gflags win urgent : Int) (gopt : ByteArray) (nosum : Bool) (vlan : Int) (w : World) (gy gb : ByteArray) (hc : 500 < gy.size) (ec : gy.extract 0 500 = gb) (S : ByteArray) (E : Int) (hE : (E != 0) = true)
    (A1 : ∀ W, Calls Try.prog 16 #[.agg #[.int .i64 v, .string src, .string dst, .int .i64 proto, .int .i64 hops, .int .i64 cls, .int .i64 id, .int .i64 flags, .int .i64 off, .int .i64 label, .string opt, .string ⟨#[]⟩], .agg #[.int .i64 gsrc, .int .i64 gdst, .int .u32 seq, .int .u32 ack, .int .i64 gflags, .int .i64 win, .int .i64 urgent, .string gopt, .string gb, .bool nosum]] W fun e w' => e = .returned (.tuple #[.string S, .int .i64 E]) ∧ Below W.heap.size W w') :
    Calls Try.prog 5 #[.agg #[.int .i64 v, .string src, .string dst, .int .i64 proto, .int .i64 hops, .int .i64 cls, .int .i64 id, .int .i64 flags, .int .i64 off, .int .i64 label, .string opt, .string body], .agg #[.int .i64 gsrc, .int .i64 gdst, .int .u32 seq, .int .u32 ack, .int .i64 gflags, .int .i64 win, .int .i64 urgent, .string gopt, .string gy, .bool nosum], .int .i64 vlan] w fun e w' => e = .returned (.bool true) ∧ Below w.heap.size w w' := by
  have H1 := Lib.hid A1
  clear A1
  go_enter Try.func5, Try.ntmps5
  go_wp2_with fail
  refine (H1.out _).mono ?_
  rintro e w1 ⟨rfl, hq⟩
  have h1 := (Two2.new w #[.int .i64 v, .string src, .string dst, .int .i64 proto, .int .i64 hops, .int .i64 cls, .int .i64 id, .int .i64 flags, .int .i64 off, .int .i64 label, .string opt, .string ⟨#[]⟩] #[.int .i64 gsrc, .int .i64 gdst, .int .u32 seq, .int .u32 ack, .int .i64 gflags, .int .i64 win, .int .i64 urgent, .string gopt, .string gb, .bool nosum]).next hq
  clear hq
  have hP := h1.p
  have hBB := h1.below
  clear h1
  go_wp2_with fail
  refine (fixed_any _).mono ?_
  rintro e wf ⟨rfl, hq⟩
  have hB := hBB.trans (hq.mono hBB.size)
  clear hq
  go_wp2_with fail
  go_ret
  exact ⟨rfl, hB⟩
set_option maxRecDepth 100000 in
set_option maxHeartbeats 1600000 in
theorem sameC4l (src dst : ByteArray) (proto hops cls id flags off label : Int) (opt body : ByteArray) (gsrc gdst seq ack gflags win urgent : Int) (gopt : ByteArray) (nosum : Bool) (vlan : Int) (w : World) (gy gb : ByteArray) (hc : 500 < gy.size) (ec : gy.extract 0 500 = gb) (S : ByteArray) (T U M : ByteArray) (hx cx : Int) (e1 : bits .xor .i64 hops 1 = hx) (e2 : bits .xor .i64 cls 3 = cx) (e3 : S ++ ⟨#[109, 111, 114, 101]⟩ = M) (e4 : S.size ≤ 65535) (F G : Int) (hF : (F != 0) = true)
    (A1 : ∀ W, Calls Try.prog 16 #[.agg #[.int .i64 4, .string src, .string dst, .int .i64 proto, .int .i64 hops, .int .i64 cls, .int .i64 id, .int .i64 flags, .int .i64 off, .int .i64 label, .string opt, .string ⟨#[]⟩], .agg #[.int .i64 gsrc, .int .i64 gdst, .int .u32 seq, .int .u32 ack, .int .i64 gflags, .int .i64 win, .int .i64 urgent, .string gopt, .string gb, .bool nosum]] W fun e w' => e = .returned (.tuple #[.string S, .int .i64 0]) ∧ Below W.heap.size W w')
    (A2 : ∀ W, Calls Try.prog 17 #[.agg #[.int .i64 4, .string src, .string dst, .int .i64 proto, .int .i64 hops, .int .i64 cls, .int .i64 id, .int .i64 flags, .int .i64 off, .int .i64 label, .string opt, .string S]] W fun e w' => e = .returned (.tuple #[.string T, .int .i64 F]) ∧ Below W.heap.size W w')
    (A3 : ∀ W, Calls Try.prog 17 #[.agg #[.int .i64 4, .string src, .string dst, .int .i64 proto, .int .i64 hx, .int .i64 cx, .int .i64 id, .int .i64 flags, .int .i64 off, .int .i64 label, .string opt, .string M]] W fun e w' => e = .returned (.tuple #[.string U, .int .i64 G]) ∧ Below W.heap.size W w') :
    Calls Try.prog 5 #[.agg #[.int .i64 4, .string src, .string dst, .int .i64 proto, .int .i64 hops, .int .i64 cls, .int .i64 id, .int .i64 flags, .int .i64 off, .int .i64 label, .string opt, .string body], .agg #[.int .i64 gsrc, .int .i64 gdst, .int .u32 seq, .int .u32 ack, .int .i64 gflags, .int .i64 win, .int .i64 urgent, .string gopt, .string gy, .bool nosum], .int .i64 vlan] w fun e w' => e = .returned (.bool true) ∧ Below w.heap.size w w' := by
  have H1 := Lib.hid A1
  have H2 := Lib.hid A2
  have H3 := Lib.hid A3
  clear A1 A2 A3
  have e8 : ¬ 9223372036854775807 < S.size + (⟨#[109, 111, 114, 101]⟩ : ByteArray).size := by show ¬ 9223372036854775807 < S.size + 4; omega
  go_enter Try.func5, Try.ntmps5
  go_wp2_with fail
  refine (H1.out _).mono ?_
  rintro e w1 ⟨rfl, hq⟩
  have h1 := (Two2.new w #[.int .i64 4, .string src, .string dst, .int .i64 proto, .int .i64 hops, .int .i64 cls, .int .i64 id, .int .i64 flags, .int .i64 off, .int .i64 label, .string opt, .string ⟨#[]⟩] #[.int .i64 gsrc, .int .i64 gdst, .int .u32 seq, .int .u32 ack, .int .i64 gflags, .int .i64 win, .int .i64 urgent, .string gopt, .string gb, .bool nosum]).next hq
  clear hq
  have hP := h1.p
  have hBB := h1.below
  clear h1
  have fr := hP.frozen
  have c0 := hP.cell 0
  have c1 := hP.cell 1
  have c2 := hP.cell 2
  have c3 := hP.cell 3
  have c4 := hP.cell 4
  have c5 := hP.cell 5
  have c6 := hP.cell 6
  have c7 := hP.cell 7
  have c8 := hP.cell 8
  have c9 := hP.cell 9
  have c10 := hP.cell 10
  have c11 := hP.cell 11
  simp only [List.getElem?_toArray, List.getElem?_cons_zero, List.getElem?_cons_succ] at c0 c1 c2 c3 c4 c5 c6 c7 c8 c9 c10 c11
  go_wp2_with fail
  refine (H2.out _).mono ?_
  rintro e w2 ⟨rfl, hq⟩
  have hP2 : Blk w2 w.heap.size 35 #[.int .i64 4, .string src, .string dst, .int .i64 proto, .int .i64 hops, .int .i64 cls, .int .i64 id, .int .i64 flags, .int .i64 off, .int .i64 label, .string opt, .string S] := (hP.put' 11 (.string S) rfl).same (hq.block _ (by simpa using hP.lt))
  have hB2 : Below w.heap.size w w2 := (hBB.setCell (Nat.le_refl _) _).trans (hq.mono (by simpa using hBB.size))
  clear hq hP hBB fr c0 c1 c2 c3 c4 c5 c6 c7 c8 c9 c10 c11
  have c0 := hP2.cell 0
  have c1 := hP2.cell 1
  have c2 := hP2.cell 2
  have c3 := hP2.cell 3
  have c4 := hP2.cell 4
  have c5 := hP2.cell 5
  have c6 := hP2.cell 6
  have c7 := hP2.cell 7
  have c8 := hP2.cell 8
  have c9 := hP2.cell 9
  have c10 := hP2.cell 10
  have c11 := hP2.cell 11
  simp only [List.getElem?_toArray, List.getElem?_cons_zero, List.getElem?_cons_succ] at c0 c1 c2 c3 c4 c5 c6 c7 c8 c9 c10 c11
  have hlt := hP2.lt
  have hne : w.heap.size ≠ w2.heap.size := by omega
  go_wp2_with fail
  refine (H3.out _).mono ?_
  rintro e w3 ⟨rfl, hq⟩
  have hBB : Below w.heap.size w w3 := (hB2.alloc hB2.size _).trans (hq.mono (by have := hB2.size; simp; omega))
  clear hq hP2 hB2 c0 c1 c2 c3 c4 c5 c6 c7 c8 c9 c10 c11
  go_wp2_with fail
  refine (fixed_any _).mono ?_
  rintro e wf ⟨rfl, hq⟩
  have hB := hBB.trans (hq.mono hBB.size)
  clear hq
  go_wp2_with fail
  go_ret
  exact ⟨rfl, hB⟩
set_option maxRecDepth 100000 in
set_option maxHeartbeats 1600000 in
theorem sameC6l (src dst : ByteArray) (proto hops cls id flags off label : Int) (opt body : ByteArray) (gsrc gdst seq ack gflags win urgent : Int) (gopt : ByteArray) (nosum : Bool) (vlan : Int) (w : World) (gy gb : ByteArray) (hc : 500 < gy.size) (ec : gy.extract 0 500 = gb) (S : ByteArray) (T U M : ByteArray) (hx cx : Int) (e1 : bits .xor .i64 hops 1 = hx) (e2 : bits .xor .i64 cls 3 = cx) (e3 : S ++ ⟨#[109, 111, 114, 101]⟩ = M) (e4 : S.size ≤ 65535) (F G : Int) (hF : (F != 0) = true)
    (A1 : ∀ W, Calls Try.prog 16 #[.agg #[.int .i64 6, .string src, .string dst, .int .i64 proto, .int .i64 hops, .int .i64 cls, .int .i64 id, .int .i64 flags, .int .i64 off, .int .i64 label, .string opt, .string ⟨#[]⟩], .agg #[.int .i64 gsrc, .int .i64 gdst, .int .u32 seq, .int .u32 ack, .int .i64 gflags, .int .i64 win, .int .i64 urgent, .string gopt, .string gb, .bool nosum]] W fun e w' => e = .returned (.tuple #[.string S, .int .i64 0]) ∧ Below W.heap.size W w')
    (A2 : ∀ W, Calls Try.prog 17 #[.agg #[.int .i64 6, .string src, .string dst, .int .i64 proto, .int .i64 hops, .int .i64 cls, .int .i64 id, .int .i64 flags, .int .i64 off, .int .i64 label, .string opt, .string S]] W fun e w' => e = .returned (.tuple #[.string T, .int .i64 F]) ∧ Below W.heap.size W w')
    (A3 : ∀ W, Calls Try.prog 17 #[.agg #[.int .i64 6, .string src, .string dst, .int .i64 proto, .int .i64 hx, .int .i64 cx, .int .i64 id, .int .i64 flags, .int .i64 off, .int .i64 label, .string opt, .string M]] W fun e w' => e = .returned (.tuple #[.string U, .int .i64 G]) ∧ Below W.heap.size W w') :
    Calls Try.prog 5 #[.agg #[.int .i64 6, .string src, .string dst, .int .i64 proto, .int .i64 hops, .int .i64 cls, .int .i64 id, .int .i64 flags, .int .i64 off, .int .i64 label, .string opt, .string body], .agg #[.int .i64 gsrc, .int .i64 gdst, .int .u32 seq, .int .u32 ack, .int .i64 gflags, .int .i64 win, .int .i64 urgent, .string gopt, .string gy, .bool nosum], .int .i64 vlan] w fun e w' => e = .returned (.bool true) ∧ Below w.heap.size w w' := by
  have H1 := Lib.hid A1
  have H2 := Lib.hid A2
  have H3 := Lib.hid A3
  clear A1 A2 A3
  have e8 : ¬ 9223372036854775807 < S.size + (⟨#[109, 111, 114, 101]⟩ : ByteArray).size := by show ¬ 9223372036854775807 < S.size + 4; omega
  go_enter Try.func5, Try.ntmps5
  go_wp2_with fail
  refine (H1.out _).mono ?_
  rintro e w1 ⟨rfl, hq⟩
  have h1 := (Two2.new w #[.int .i64 6, .string src, .string dst, .int .i64 proto, .int .i64 hops, .int .i64 cls, .int .i64 id, .int .i64 flags, .int .i64 off, .int .i64 label, .string opt, .string ⟨#[]⟩] #[.int .i64 gsrc, .int .i64 gdst, .int .u32 seq, .int .u32 ack, .int .i64 gflags, .int .i64 win, .int .i64 urgent, .string gopt, .string gb, .bool nosum]).next hq
  clear hq
  have hP := h1.p
  have hBB := h1.below
  clear h1
  have fr := hP.frozen
  have c0 := hP.cell 0
  have c1 := hP.cell 1
  have c2 := hP.cell 2
  have c3 := hP.cell 3
  have c4 := hP.cell 4
  have c5 := hP.cell 5
  have c6 := hP.cell 6
  have c7 := hP.cell 7
  have c8 := hP.cell 8
  have c9 := hP.cell 9
  have c10 := hP.cell 10
  have c11 := hP.cell 11
  simp only [List.getElem?_toArray, List.getElem?_cons_zero, List.getElem?_cons_succ] at c0 c1 c2 c3 c4 c5 c6 c7 c8 c9 c10 c11
  go_wp2_with fail
  refine (H2.out _).mono ?_
  rintro e w2 ⟨rfl, hq⟩
  have hP2 : Blk w2 w.heap.size 35 #[.int .i64 6, .string src, .string dst, .int .i64 proto, .int .i64 hops, .int .i64 cls, .int .i64 id, .int .i64 flags, .int .i64 off, .int .i64 label, .string opt, .string S] := (hP.put' 11 (.string S) rfl).same (hq.block _ (by simpa using hP.lt))
  have hB2 : Below w.heap.size w w2 := (hBB.setCell (Nat.le_refl _) _).trans (hq.mono (by simpa using hBB.size))
  clear hq hP hBB fr c0 c1 c2 c3 c4 c5 c6 c7 c8 c9 c10 c11
  have c0 := hP2.cell 0
  have c1 := hP2.cell 1
  have c2 := hP2.cell 2
  have c3 := hP2.cell 3
  have c4 := hP2.cell 4
  have c5 := hP2.cell 5
  have c6 := hP2.cell 6
  have c7 := hP2.cell 7
  have c8 := hP2.cell 8
  have c9 := hP2.cell 9
  have c10 := hP2.cell 10
  have c11 := hP2.cell 11
  simp only [List.getElem?_toArray, List.getElem?_cons_zero, List.getElem?_cons_succ] at c0 c1 c2 c3 c4 c5 c6 c7 c8 c9 c10 c11
  have hlt := hP2.lt
  have hne : w.heap.size ≠ w2.heap.size := by omega
  go_wp2_with fail
  refine (H3.out _).mono ?_
  rintro e w3 ⟨rfl, hq⟩
  have hBB : Below w.heap.size w w3 := (hB2.alloc hB2.size _).trans (hq.mono (by have := hB2.size; simp; omega))
  clear hq hP2 hB2 c0 c1 c2 c3 c4 c5 c6 c7 c8 c9 c10 c11
  go_wp2_with fail
  refine (fixed_any _).mono ?_
  rintro e wf ⟨rfl, hq⟩
  have hB := hBB.trans (hq.mono hBB.size)
  clear hq
  go_wp2_with fail
  go_ret
  exact ⟨rfl, hB⟩
set_option maxRecDepth 100000 in
set_option maxHeartbeats 1600000 in
theorem sameD4l (src dst : ByteArray) (proto hops cls id flags off label : Int) (opt body : ByteArray) (gsrc gdst seq ack gflags win urgent : Int) (gopt : ByteArray) (nosum : Bool) (vlan : Int) (w : World) (gy gb : ByteArray) (hc : 500 < gy.size) (ec : gy.extract 0 500 = gb) (S : ByteArray) (T U M : ByteArray) (hx cx : Int) (e1 : bits .xor .i64 hops 1 = hx) (e2 : bits .xor .i64 cls 3 = cx) (e3 : S ++ ⟨#[109, 111, 114, 101]⟩ = M) (e4 : S.size ≤ 65535) (G : Int) (hG : (G != 0) = true)
    (A1 : ∀ W, Calls Try.prog 16 #[.agg #[.int .i64 4, .string src, .string dst, .int .i64 proto, .int .i64 hops, .int .i64 cls, .int .i64 id, .int .i64 flags, .int .i64 off, .int .i64 label, .string opt, .string ⟨#[]⟩], .agg #[.int .i64 gsrc, .int .i64 gdst, .int .u32 seq, .int .u32 ack, .int .i64 gflags, .int .i64 win, .int .i64 urgent, .string gopt, .string gb, .bool nosum]] W fun e w' => e = .returned (.tuple #[.string S, .int .i64 0]) ∧ Below W.heap.size W w')
    (A2 : ∀ W, Calls Try.prog 17 #[.agg #[.int .i64 4, .string src, .string dst, .int .i64 proto, .int .i64 hops, .int .i64 cls, .int .i64 id, .int .i64 flags, .int .i64 off, .int .i64 label, .string opt, .string S]] W fun e w' => e = .returned (.tuple #[.string T, .int .i64 0]) ∧ Below W.heap.size W w')
    (A3 : ∀ W, Calls Try.prog 17 #[.agg #[.int .i64 4, .string src, .string dst, .int .i64 proto, .int .i64 hx, .int .i64 cx, .int .i64 id, .int .i64 flags, .int .i64 off, .int .i64 label, .string opt, .string M]] W fun e w' => e = .returned (.tuple #[.string U, .int .i64 G]) ∧ Below W.heap.size W w') :
    Calls Try.prog 5 #[.agg #[.int .i64 4, .string src, .string dst, .int .i64 proto, .int .i64 hops, .int .i64 cls, .int .i64 id, .int .i64 flags, .int .i64 off, .int .i64 label, .string opt, .string body], .agg #[.int .i64 gsrc, .int .i64 gdst, .int .u32 seq, .int .u32 ack, .int .i64 gflags, .int .i64 win, .int .i64 urgent, .string gopt, .string gy, .bool nosum], .int .i64 vlan] w fun e w' => e = .returned (.bool true) ∧ Below w.heap.size w w' := by
  have H1 := Lib.hid A1
  have H2 := Lib.hid A2
  have H3 := Lib.hid A3
  clear A1 A2 A3
  have e8 : ¬ 9223372036854775807 < S.size + (⟨#[109, 111, 114, 101]⟩ : ByteArray).size := by show ¬ 9223372036854775807 < S.size + 4; omega
  go_enter Try.func5, Try.ntmps5
  go_wp2_with fail
  refine (H1.out _).mono ?_
  rintro e w1 ⟨rfl, hq⟩
  have h1 := (Two2.new w #[.int .i64 4, .string src, .string dst, .int .i64 proto, .int .i64 hops, .int .i64 cls, .int .i64 id, .int .i64 flags, .int .i64 off, .int .i64 label, .string opt, .string ⟨#[]⟩] #[.int .i64 gsrc, .int .i64 gdst, .int .u32 seq, .int .u32 ack, .int .i64 gflags, .int .i64 win, .int .i64 urgent, .string gopt, .string gb, .bool nosum]).next hq
  clear hq
  have hP := h1.p
  have hBB := h1.below
  clear h1
  have fr := hP.frozen
  have c0 := hP.cell 0
  have c1 := hP.cell 1
  have c2 := hP.cell 2
  have c3 := hP.cell 3
  have c4 := hP.cell 4
  have c5 := hP.cell 5
  have c6 := hP.cell 6
  have c7 := hP.cell 7
  have c8 := hP.cell 8
  have c9 := hP.cell 9
  have c10 := hP.cell 10
  have c11 := hP.cell 11
  simp only [List.getElem?_toArray, List.getElem?_cons_zero, List.getElem?_cons_succ] at c0 c1 c2 c3 c4 c5 c6 c7 c8 c9 c10 c11
  go_wp2_with fail
  refine (H2.out _).mono ?_
  rintro e w2 ⟨rfl, hq⟩
  have hP2 : Blk w2 w.heap.size 35 #[.int .i64 4, .string src, .string dst, .int .i64 proto, .int .i64 hops, .int .i64 cls, .int .i64 id, .int .i64 flags, .int .i64 off, .int .i64 label, .string opt, .string S] := (hP.put' 11 (.string S) rfl).same (hq.block _ (by simpa using hP.lt))
  have hB2 : Below w.heap.size w w2 := (hBB.setCell (Nat.le_refl _) _).trans (hq.mono (by simpa using hBB.size))
  clear hq hP hBB fr c0 c1 c2 c3 c4 c5 c6 c7 c8 c9 c10 c11
  have c0 := hP2.cell 0
  have c1 := hP2.cell 1
  have c2 := hP2.cell 2
  have c3 := hP2.cell 3
  have c4 := hP2.cell 4
  have c5 := hP2.cell 5
  have c6 := hP2.cell 6
  have c7 := hP2.cell 7
  have c8 := hP2.cell 8
  have c9 := hP2.cell 9
  have c10 := hP2.cell 10
  have c11 := hP2.cell 11
  simp only [List.getElem?_toArray, List.getElem?_cons_zero, List.getElem?_cons_succ] at c0 c1 c2 c3 c4 c5 c6 c7 c8 c9 c10 c11
  have hlt := hP2.lt
  have hne : w.heap.size ≠ w2.heap.size := by omega
  go_wp2_with fail
  refine (H3.out _).mono ?_
  rintro e w3 ⟨rfl, hq⟩
  have hBB : Below w.heap.size w w3 := (hB2.alloc hB2.size _).trans (hq.mono (by have := hB2.size; simp; omega))
  clear hq hP2 hB2 c0 c1 c2 c3 c4 c5 c6 c7 c8 c9 c10 c11
  go_wp2_with fail
  refine (fixed_any _).mono ?_
  rintro e wf ⟨rfl, hq⟩
  have hB := hBB.trans (hq.mono hBB.size)
  clear hq
  go_wp2_with fail
  go_ret
  exact ⟨rfl, hB⟩
set_option maxRecDepth 100000 in
set_option maxHeartbeats 1600000 in
theorem sameD6l (src dst : ByteArray) (proto hops cls id flags off label : Int) (opt body : ByteArray) (gsrc gdst seq ack gflags win urgent : Int) (gopt : ByteArray) (nosum : Bool) (vlan : Int) (w : World) (gy gb : ByteArray) (hc : 500 < gy.size) (ec : gy.extract 0 500 = gb) (S : ByteArray) (T U M : ByteArray) (hx cx : Int) (e1 : bits .xor .i64 hops 1 = hx) (e2 : bits .xor .i64 cls 3 = cx) (e3 : S ++ ⟨#[109, 111, 114, 101]⟩ = M) (e4 : S.size ≤ 65535) (G : Int) (hG : (G != 0) = true)
    (A1 : ∀ W, Calls Try.prog 16 #[.agg #[.int .i64 6, .string src, .string dst, .int .i64 proto, .int .i64 hops, .int .i64 cls, .int .i64 id, .int .i64 flags, .int .i64 off, .int .i64 label, .string opt, .string ⟨#[]⟩], .agg #[.int .i64 gsrc, .int .i64 gdst, .int .u32 seq, .int .u32 ack, .int .i64 gflags, .int .i64 win, .int .i64 urgent, .string gopt, .string gb, .bool nosum]] W fun e w' => e = .returned (.tuple #[.string S, .int .i64 0]) ∧ Below W.heap.size W w')
    (A2 : ∀ W, Calls Try.prog 17 #[.agg #[.int .i64 6, .string src, .string dst, .int .i64 proto, .int .i64 hops, .int .i64 cls, .int .i64 id, .int .i64 flags, .int .i64 off, .int .i64 label, .string opt, .string S]] W fun e w' => e = .returned (.tuple #[.string T, .int .i64 0]) ∧ Below W.heap.size W w')
    (A3 : ∀ W, Calls Try.prog 17 #[.agg #[.int .i64 6, .string src, .string dst, .int .i64 proto, .int .i64 hx, .int .i64 cx, .int .i64 id, .int .i64 flags, .int .i64 off, .int .i64 label, .string opt, .string M]] W fun e w' => e = .returned (.tuple #[.string U, .int .i64 G]) ∧ Below W.heap.size W w') :
    Calls Try.prog 5 #[.agg #[.int .i64 6, .string src, .string dst, .int .i64 proto, .int .i64 hops, .int .i64 cls, .int .i64 id, .int .i64 flags, .int .i64 off, .int .i64 label, .string opt, .string body], .agg #[.int .i64 gsrc, .int .i64 gdst, .int .u32 seq, .int .u32 ack, .int .i64 gflags, .int .i64 win, .int .i64 urgent, .string gopt, .string gy, .bool nosum], .int .i64 vlan] w fun e w' => e = .returned (.bool true) ∧ Below w.heap.size w w' := by
  have H1 := Lib.hid A1
  have H2 := Lib.hid A2
  have H3 := Lib.hid A3
  clear A1 A2 A3
  have e8 : ¬ 9223372036854775807 < S.size + (⟨#[109, 111, 114, 101]⟩ : ByteArray).size := by show ¬ 9223372036854775807 < S.size + 4; omega
  go_enter Try.func5, Try.ntmps5
  go_wp2_with fail
  refine (H1.out _).mono ?_
  rintro e w1 ⟨rfl, hq⟩
  have h1 := (Two2.new w #[.int .i64 6, .string src, .string dst, .int .i64 proto, .int .i64 hops, .int .i64 cls, .int .i64 id, .int .i64 flags, .int .i64 off, .int .i64 label, .string opt, .string ⟨#[]⟩] #[.int .i64 gsrc, .int .i64 gdst, .int .u32 seq, .int .u32 ack, .int .i64 gflags, .int .i64 win, .int .i64 urgent, .string gopt, .string gb, .bool nosum]).next hq
  clear hq
  have hP := h1.p
  have hBB := h1.below
  clear h1
  have fr := hP.frozen
  have c0 := hP.cell 0
  have c1 := hP.cell 1
  have c2 := hP.cell 2
  have c3 := hP.cell 3
  have c4 := hP.cell 4
  have c5 := hP.cell 5
  have c6 := hP.cell 6
  have c7 := hP.cell 7
  have c8 := hP.cell 8
  have c9 := hP.cell 9
  have c10 := hP.cell 10
  have c11 := hP.cell 11
  simp only [List.getElem?_toArray, List.getElem?_cons_zero, List.getElem?_cons_succ] at c0 c1 c2 c3 c4 c5 c6 c7 c8 c9 c10 c11
  go_wp2_with fail
  refine (H2.out _).mono ?_
  rintro e w2 ⟨rfl, hq⟩
  have hP2 : Blk w2 w.heap.size 35 #[.int .i64 6, .string src, .string dst, .int .i64 proto, .int .i64 hops, .int .i64 cls, .int .i64 id, .int .i64 flags, .int .i64 off, .int .i64 label, .string opt, .string S] := (hP.put' 11 (.string S) rfl).same (hq.block _ (by simpa using hP.lt))
  have hB2 : Below w.heap.size w w2 := (hBB.setCell (Nat.le_refl _) _).trans (hq.mono (by simpa using hBB.size))
  clear hq hP hBB fr c0 c1 c2 c3 c4 c5 c6 c7 c8 c9 c10 c11
  have c0 := hP2.cell 0
  have c1 := hP2.cell 1
  have c2 := hP2.cell 2
  have c3 := hP2.cell 3
  have c4 := hP2.cell 4
  have c5 := hP2.cell 5
  have c6 := hP2.cell 6
  have c7 := hP2.cell 7
  have c8 := hP2.cell 8
  have c9 := hP2.cell 9
  have c10 := hP2.cell 10
  have c11 := hP2.cell 11
  simp only [List.getElem?_toArray, List.getElem?_cons_zero, List.getElem?_cons_succ] at c0 c1 c2 c3 c4 c5 c6 c7 c8 c9 c10 c11
  have hlt := hP2.lt
  have hne : w.heap.size ≠ w2.heap.size := by omega
  go_wp2_with fail
  refine (H3.out _).mono ?_
  rintro e w3 ⟨rfl, hq⟩
  have hBB : Below w.heap.size w w3 := (hB2.alloc hB2.size _).trans (hq.mono (by have := hB2.size; simp; omega))
  clear hq hP2 hB2 c0 c1 c2 c3 c4 c5 c6 c7 c8 c9 c10 c11
  go_wp2_with fail
  refine (fixed_any _).mono ?_
  rintro e wf ⟨rfl, hq⟩
  have hB := hBB.trans (hq.mono hBB.size)
  clear hq
  go_wp2_with fail
  go_ret
  exact ⟨rfl, hB⟩
set_option maxRecDepth 100000 in
set_option maxHeartbeats 1600000 in
theorem sameE4l (src dst : ByteArray) (proto hops cls id flags off label : Int) (opt body : ByteArray) (gsrc gdst seq ack gflags win urgent : Int) (gopt : ByteArray) (nosum : Bool) (vlan : Int) (w : World) (gy gb : ByteArray) (hc : 500 < gy.size) (ec : gy.extract 0 500 = gb) (S : ByteArray) (T U M : ByteArray) (hx cx : Int) (e1 : bits .xor .i64 hops 1 = hx) (e2 : bits .xor .i64 cls 3 = cx) (e3 : S ++ ⟨#[109, 111, 114, 101]⟩ = M) (e4 : S.size ≤ 65535) (a b c : ByteArray) (X n K : Int) (Y : ByteArray) (e5 : bits .and .i64 vlan 65535 = X) (e6 : X.tmod 4095 = n) (hK : (K != 0) = true)
    (A1 : ∀ W, Calls Try.prog 16 #[.agg #[.int .i64 4, .string src, .string dst, .int .i64 proto, .int .i64 hops, .int .i64 cls, .int .i64 id, .int .i64 flags, .int .i64 off, .int .i64 label, .string opt, .string ⟨#[]⟩], .agg #[.int .i64 gsrc, .int .i64 gdst, .int .u32 seq, .int .u32 ack, .int .i64 gflags, .int .i64 win, .int .i64 urgent, .string gopt, .string gb, .bool nosum]] W fun e w' => e = .returned (.tuple #[.string S, .int .i64 0]) ∧ Below W.heap.size W w')
    (A2 : ∀ W, Calls Try.prog 17 #[.agg #[.int .i64 4, .string src, .string dst, .int .i64 proto, .int .i64 hops, .int .i64 cls, .int .i64 id, .int .i64 flags, .int .i64 off, .int .i64 label, .string opt, .string S]] W fun e w' => e = .returned (.tuple #[.string T, .int .i64 0]) ∧ Below W.heap.size W w')
    (A3 : ∀ W, Calls Try.prog 17 #[.agg #[.int .i64 4, .string src, .string dst, .int .i64 proto, .int .i64 hx, .int .i64 cx, .int .i64 id, .int .i64 flags, .int .i64 off, .int .i64 label, .string opt, .string M]] W fun e w' => e = .returned (.tuple #[.string U, .int .i64 0]) ∧ Below W.heap.size W w')
    (A4 : ∀ W, Calls Try.prog 18 #[.int .i64 2048, .string T] W fun e w' => e = .returned (.string a) ∧ Below W.heap.size W w')
    (A5 : ∀ W, Calls Try.prog 19 #[.string a, .int .i64 n] W fun e w' => e = .returned (.tuple #[.string b, .int .i64 0]) ∧ Below W.heap.size W w')
    (A6 : ∀ W, Calls Try.prog 10 #[.string a] W fun e w' => e = .returned (.agg #[.int .i64 K, .string Y]) ∧ Below W.heap.size W w')
    (A7 : ∀ W, Calls Try.prog 10 #[.string b] W fun e w' => e = .returned (.agg #[.int .i64 K, .string Y]) ∧ Below W.heap.size W w')
    (A8 : ∀ W, Calls Try.prog 18 #[.int .i64 2048, .string U] W fun e w' => e = .returned (.string c) ∧ Below W.heap.size W w')
    (A9 : ∀ W, Calls Try.prog 10 #[.string c] W fun e w' => e = .returned (.agg #[.int .i64 K, .string Y]) ∧ Below W.heap.size W w') :
    Calls Try.prog 5 #[.agg #[.int .i64 4, .string src, .string dst, .int .i64 proto, .int .i64 hops, .int .i64 cls, .int .i64 id, .int .i64 flags, .int .i64 off, .int .i64 label, .string opt, .string body], .agg #[.int .i64 gsrc, .int .i64 gdst, .int .u32 seq, .int .u32 ack, .int .i64 gflags, .int .i64 win, .int .i64 urgent, .string gopt, .string gy, .bool nosum], .int .i64 vlan] w fun e w' => e = .returned (.bool true) ∧ Below w.heap.size w w' := by
  have H1 := Lib.hid A1
  have H2 := Lib.hid A2
  have H3 := Lib.hid A3
  have H4 := Lib.hid A4
  have H5 := Lib.hid A5
  have H6 := Lib.hid A6
  have H7 := Lib.hid A7
  have H8 := Lib.hid A8
  have H9 := Lib.hid A9
  clear A1 A2 A3 A4 A5 A6 A7 A8 A9
  have e8 : ¬ 9223372036854775807 < S.size + (⟨#[109, 111, 114, 101]⟩ : ByteArray).size := by show ¬ 9223372036854775807 < S.size + 4; omega
  go_enter Try.func5, Try.ntmps5
  go_wp2_with fail
  refine (H1.out _).mono ?_
  rintro e w1 ⟨rfl, hq⟩
  have h1 := (Two2.new w #[.int .i64 4, .string src, .string dst, .int .i64 proto, .int .i64 hops, .int .i64 cls, .int .i64 id, .int .i64 flags, .int .i64 off, .int .i64 label, .string opt, .string ⟨#[]⟩] #[.int .i64 gsrc, .int .i64 gdst, .int .u32 seq, .int .u32 ack, .int .i64 gflags, .int .i64 win, .int .i64 urgent, .string gopt, .string gb, .bool nosum]).next hq
  clear hq
  have hP := h1.p
  have hBB := h1.below
  clear h1
  have fr := hP.frozen
  have c0 := hP.cell 0
  have c1 := hP.cell 1
  have c2 := hP.cell 2
  have c3 := hP.cell 3
  have c4 := hP.cell 4
  have c5 := hP.cell 5
  have c6 := hP.cell 6
  have c7 := hP.cell 7
  have c8 := hP.cell 8
  have c9 := hP.cell 9
  have c10 := hP.cell 10
  have c11 := hP.cell 11
  simp only [List.getElem?_toArray, List.getElem?_cons_zero, List.getElem?_cons_succ] at c0 c1 c2 c3 c4 c5 c6 c7 c8 c9 c10 c11
  go_wp2_with fail
  refine (H2.out _).mono ?_
  rintro e w2 ⟨rfl, hq⟩
  have hP2 : Blk w2 w.heap.size 35 #[.int .i64 4, .string src, .string dst, .int .i64 proto, .int .i64 hops, .int .i64 cls, .int .i64 id, .int .i64 flags, .int .i64 off, .int .i64 label, .string opt, .string S] := (hP.put' 11 (.string S) rfl).same (hq.block _ (by simpa using hP.lt))
  have hB2 : Below w.heap.size w w2 := (hBB.setCell (Nat.le_refl _) _).trans (hq.mono (by simpa using hBB.size))
  clear hq hP hBB fr c0 c1 c2 c3 c4 c5 c6 c7 c8 c9 c10 c11
  have c0 := hP2.cell 0
  have c1 := hP2.cell 1
  have c2 := hP2.cell 2
  have c3 := hP2.cell 3
  have c4 := hP2.cell 4
  have c5 := hP2.cell 5
  have c6 := hP2.cell 6
  have c7 := hP2.cell 7
  have c8 := hP2.cell 8
  have c9 := hP2.cell 9
  have c10 := hP2.cell 10
  have c11 := hP2.cell 11
  simp only [List.getElem?_toArray, List.getElem?_cons_zero, List.getElem?_cons_succ] at c0 c1 c2 c3 c4 c5 c6 c7 c8 c9 c10 c11
  have hlt := hP2.lt
  have hne : w.heap.size ≠ w2.heap.size := by omega
  go_wp2_with fail
  refine (H3.out _).mono ?_
  rintro e w3 ⟨rfl, hq⟩
  have hBB : Below w.heap.size w w3 := (hB2.alloc hB2.size _).trans (hq.mono (by have := hB2.size; simp; omega))
  clear hq hP2 hB2 c0 c1 c2 c3 c4 c5 c6 c7 c8 c9 c10 c11
  go_wp2_with fail
  refine (H4.out _).mono ?_
  rintro e w4 ⟨rfl, hq⟩
  replace hBB := hBB.trans (hq.mono hBB.size)
  clear hq
  go_wp2_with fail
  refine (H5.out _).mono ?_
  rintro e w5 ⟨rfl, hq⟩
  replace hBB := hBB.trans (hq.mono hBB.size)
  clear hq
  go_wp2_with fail
  refine (H6.out _).mono ?_
  rintro e w6 ⟨rfl, hq⟩
  replace hBB := hBB.trans (hq.mono hBB.size)
  clear hq
  go_wp2_with fail
  have q0 := held2_here (Held.new w6 24 #[.int .i64 K, .string Y])
  go_region_held (fun w' => (w'.cell? ⟨w6.heap.size, 0, none⟩ = some (.int .i64 K) ∧ w'.cell? ⟨w6.heap.size, 1, none⟩ = some (.string Y)) ∧ Held w6 24 #[.int .i64 K, .string Y] w')
    (first | exact q0 | assumption | exact held2_on (by assumption) hq)
    (first
      | (go_at_call 9; ((with_reducible refine (fixed_any _).mono ?_); rintro e w' ⟨rfl, hq⟩))
      | (go_at_call 18; ((with_reducible refine (H8.out _).mono ?_); rintro e w' ⟨rfl, hq⟩))
      | (go_at_call 10; ((with_reducible refine (H7.out _).mono ?_); rintro e w' ⟨rfl, hq⟩))
      | (go_at_call 10; ((with_reducible refine (H9.out _).mono ?_); rintro e w' ⟨rfl, hq⟩)))
  all_goals
    rename_i hH
    have hB := hBB.trans (hH.2.below.mono hBB.size)
    go_wp2
    go_ret
    exact ⟨rfl, hB⟩
set_option maxRecDepth 100000 in
set_option maxHeartbeats 1600000 in
theorem sameE6l (src dst : ByteArray) (proto hops cls id flags off label : Int) (opt body : ByteArray) (gsrc gdst seq ack gflags win urgent : Int) (gopt : ByteArray) (nosum : Bool) (vlan : Int) (w : World) (gy gb : ByteArray) (hc : 500 < gy.size) (ec : gy.extract 0 500 = gb) (S : ByteArray) (T U M : ByteArray) (hx cx : Int) (e1 : bits .xor .i64 hops 1 = hx) (e2 : bits .xor .i64 cls 3 = cx) (e3 : S ++ ⟨#[109, 111, 114, 101]⟩ = M) (e4 : S.size ≤ 65535) (a b c : ByteArray) (X n K : Int) (Y : ByteArray) (e5 : bits .and .i64 vlan 65535 = X) (e6 : X.tmod 4095 = n) (hK : (K != 0) = true)
    (A1 : ∀ W, Calls Try.prog 16 #[.agg #[.int .i64 6, .string src, .string dst, .int .i64 proto, .int .i64 hops, .int .i64 cls, .int .i64 id, .int .i64 flags, .int .i64 off, .int .i64 label, .string opt, .string ⟨#[]⟩], .agg #[.int .i64 gsrc, .int .i64 gdst, .int .u32 seq, .int .u32 ack, .int .i64 gflags, .int .i64 win, .int .i64 urgent, .string gopt, .string gb, .bool nosum]] W fun e w' => e = .returned (.tuple #[.string S, .int .i64 0]) ∧ Below W.heap.size W w')
    (A2 : ∀ W, Calls Try.prog 17 #[.agg #[.int .i64 6, .string src, .string dst, .int .i64 proto, .int .i64 hops, .int .i64 cls, .int .i64 id, .int .i64 flags, .int .i64 off, .int .i64 label, .string opt, .string S]] W fun e w' => e = .returned (.tuple #[.string T, .int .i64 0]) ∧ Below W.heap.size W w')
    (A3 : ∀ W, Calls Try.prog 17 #[.agg #[.int .i64 6, .string src, .string dst, .int .i64 proto, .int .i64 hx, .int .i64 cx, .int .i64 id, .int .i64 flags, .int .i64 off, .int .i64 label, .string opt, .string M]] W fun e w' => e = .returned (.tuple #[.string U, .int .i64 0]) ∧ Below W.heap.size W w')
    (A4 : ∀ W, Calls Try.prog 18 #[.int .i64 34525, .string T] W fun e w' => e = .returned (.string a) ∧ Below W.heap.size W w')
    (A5 : ∀ W, Calls Try.prog 19 #[.string a, .int .i64 n] W fun e w' => e = .returned (.tuple #[.string b, .int .i64 0]) ∧ Below W.heap.size W w')
    (A6 : ∀ W, Calls Try.prog 10 #[.string a] W fun e w' => e = .returned (.agg #[.int .i64 K, .string Y]) ∧ Below W.heap.size W w')
    (A7 : ∀ W, Calls Try.prog 10 #[.string b] W fun e w' => e = .returned (.agg #[.int .i64 K, .string Y]) ∧ Below W.heap.size W w')
    (A8 : ∀ W, Calls Try.prog 18 #[.int .i64 34525, .string U] W fun e w' => e = .returned (.string c) ∧ Below W.heap.size W w')
    (A9 : ∀ W, Calls Try.prog 10 #[.string c] W fun e w' => e = .returned (.agg #[.int .i64 K, .string Y]) ∧ Below W.heap.size W w') :
    Calls Try.prog 5 #[.agg #[.int .i64 6, .string src, .string dst, .int .i64 proto, .int .i64 hops, .int .i64 cls, .int .i64 id, .int .i64 flags, .int .i64 off, .int .i64 label, .string opt, .string body], .agg #[.int .i64 gsrc, .int .i64 gdst, .int .u32 seq, .int .u32 ack, .int .i64 gflags, .int .i64 win, .int .i64 urgent, .string gopt, .string gy, .bool nosum], .int .i64 vlan] w fun e w' => e = .returned (.bool true) ∧ Below w.heap.size w w' := by
  have H1 := Lib.hid A1
  have H2 := Lib.hid A2
  have H3 := Lib.hid A3
  have H4 := Lib.hid A4
  have H5 := Lib.hid A5
  have H6 := Lib.hid A6
  have H7 := Lib.hid A7
  have H8 := Lib.hid A8
  have H9 := Lib.hid A9
  clear A1 A2 A3 A4 A5 A6 A7 A8 A9
  have e8 : ¬ 9223372036854775807 < S.size + (⟨#[109, 111, 114, 101]⟩ : ByteArray).size := by show ¬ 9223372036854775807 < S.size + 4; omega
  go_enter Try.func5, Try.ntmps5
  go_wp2_with fail
  refine (H1.out _).mono ?_
  rintro e w1 ⟨rfl, hq⟩
  have h1 := (Two2.new w #[.int .i64 6, .string src, .string dst, .int .i64 proto, .int .i64 hops, .int .i64 cls, .int .i64 id, .int .i64 flags, .int .i64 off, .int .i64 label, .string opt, .string ⟨#[]⟩] #[.int .i64 gsrc, .int .i64 gdst, .int .u32 seq, .int .u32 ack, .int .i64 gflags, .int .i64 win, .int .i64 urgent, .string gopt, .string gb, .bool nosum]).next hq
  clear hq
  have hP := h1.p
  have hBB := h1.below
  clear h1
  have fr := hP.frozen
  have c0 := hP.cell 0
  have c1 := hP.cell 1
  have c2 := hP.cell 2
  have c3 := hP.cell 3
  have c4 := hP.cell 4
  have c5 := hP.cell 5
  have c6 := hP.cell 6
  have c7 := hP.cell 7
  have c8 := hP.cell 8
  have c9 := hP.cell 9
  have c10 := hP.cell 10
  have c11 := hP.cell 11
  simp only [List.getElem?_toArray, List.getElem?_cons_zero, List.getElem?_cons_succ] at c0 c1 c2 c3 c4 c5 c6 c7 c8 c9 c10 c11
  go_wp2_with fail
  refine (H2.out _).mono ?_
  rintro e w2 ⟨rfl, hq⟩
  have hP2 : Blk w2 w.heap.size 35 #[.int .i64 6, .string src, .string dst, .int .i64 proto, .int .i64 hops, .int .i64 cls, .int .i64 id, .int .i64 flags, .int .i64 off, .int .i64 label, .string opt, .string S] := (hP.put' 11 (.string S) rfl).same (hq.block _ (by simpa using hP.lt))
  have hB2 : Below w.heap.size w w2 := (hBB.setCell (Nat.le_refl _) _).trans (hq.mono (by simpa using hBB.size))
  clear hq hP hBB fr c0 c1 c2 c3 c4 c5 c6 c7 c8 c9 c10 c11
  have c0 := hP2.cell 0
  have c1 := hP2.cell 1
  have c2 := hP2.cell 2
  have c3 := hP2.cell 3
  have c4 := hP2.cell 4
  have c5 := hP2.cell 5
  have c6 := hP2.cell 6
  have c7 := hP2.cell 7
  have c8 := hP2.cell 8
  have c9 := hP2.cell 9
  have c10 := hP2.cell 10
  have c11 := hP2.cell 11
  simp only [List.getElem?_toArray, List.getElem?_cons_zero, List.getElem?_cons_succ] at c0 c1 c2 c3 c4 c5 c6 c7 c8 c9 c10 c11
  have hlt := hP2.lt
  have hne : w.heap.size ≠ w2.heap.size := by omega
  go_wp2_with fail
  refine (H3.out _).mono ?_
  rintro e w3 ⟨rfl, hq⟩
  have hBB : Below w.heap.size w w3 := (hB2.alloc hB2.size _).trans (hq.mono (by have := hB2.size; simp; omega))
  clear hq hP2 hB2 c0 c1 c2 c3 c4 c5 c6 c7 c8 c9 c10 c11
  go_wp2_with fail
  refine (H4.out _).mono ?_
  rintro e w4 ⟨rfl, hq⟩
  replace hBB := hBB.trans (hq.mono hBB.size)
  clear hq
  go_wp2_with fail
  refine (H5.out _).mono ?_
  rintro e w5 ⟨rfl, hq⟩
  replace hBB := hBB.trans (hq.mono hBB.size)
  clear hq
  go_wp2_with fail
  refine (H6.out _).mono ?_
  rintro e w6 ⟨rfl, hq⟩
  replace hBB := hBB.trans (hq.mono hBB.size)
  clear hq
  go_wp2_with fail
  have q0 := held2_here (Held.new w6 24 #[.int .i64 K, .string Y])
  go_region_held (fun w' => (w'.cell? ⟨w6.heap.size, 0, none⟩ = some (.int .i64 K) ∧ w'.cell? ⟨w6.heap.size, 1, none⟩ = some (.string Y)) ∧ Held w6 24 #[.int .i64 K, .string Y] w')
    (first | exact q0 | assumption | exact held2_on (by assumption) hq)
    (first
      | (go_at_call 9; ((with_reducible refine (fixed_any _).mono ?_); rintro e w' ⟨rfl, hq⟩))
      | (go_at_call 18; ((with_reducible refine (H8.out _).mono ?_); rintro e w' ⟨rfl, hq⟩))
      | (go_at_call 10; ((with_reducible refine (H7.out _).mono ?_); rintro e w' ⟨rfl, hq⟩))
      | (go_at_call 10; ((with_reducible refine (H9.out _).mono ?_); rintro e w' ⟨rfl, hq⟩)))
  all_goals
    rename_i hH
    have hB := hBB.trans (hH.2.below.mono hBB.size)
    go_wp2
    go_ret
    exact ⟨rfl, hB⟩
end Go.Proofs.Ytpelohmondhiiaa
