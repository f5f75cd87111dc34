/-
  The walks of FlowPorts, a way each; no condition.
-/
import Derived.Test.YtpelohmondhiiaaMk
import Derived.Test.YtpelohmondhiiaaMl
namespace Go.Proofs.Ytpelohmondhiiaa
open Go.Joins Go.ChangeShapes Go.WideShapes Go.ChangeAt Go.RowKit Go.Deep
open Go.ChangeMaps (open_string)

set_option maxRecDepth 100000 in
set_option maxHeartbeats 1600000 in
theorem portsA_ss (v : Int) (src dst : ByteArray) (proto hops cls id flags off label : Int) (opt body : ByteArray) (asrc adst aseq aack aflags awin aurg : Int) (aopt : ByteArray) (anosum : Bool) (bsrc bdst bseq back bflags bwin burg : Int) (bopt : ByteArray) (bnosum : Bool) (w : World) (ab : ByteArray) (hca : ab.size ≤ 300) (bb : ByteArray) (hcb : bb.size ≤ 300) (S T : ByteArray) (E D : Int) (hE : (E != 0) = true)
    (A1 : ∀ W, Calls Try.prog 16 #[.agg #[.int .i64 v, .string src, .string dst, .int .i64 proto, .int .i64 hops, .int .i64 cls, .int .i64 id, .int .i64 flags, .int .i64 off, .int .i64 label, .string opt, .string ⟨#[]⟩], .agg #[.int .i64 asrc, .int .i64 adst, .int .u32 aseq, .int .u32 aack, .int .i64 aflags, .int .i64 awin, .int .i64 aurg, .string aopt, .string ab, .bool anosum]] W fun e w' => e = .returned (.tuple #[.string S, .int .i64 E]) ∧ Below W.heap.size W w')
    (A2 : ∀ W, Calls Try.prog 16 #[.agg #[.int .i64 v, .string src, .string dst, .int .i64 proto, .int .i64 hops, .int .i64 cls, .int .i64 id, .int .i64 flags, .int .i64 off, .int .i64 label, .string opt, .string ⟨#[]⟩], .agg #[.int .i64 bsrc, .int .i64 bdst, .int .u32 bseq, .int .u32 back, .int .i64 bflags, .int .i64 bwin, .int .i64 burg, .string bopt, .string bb, .bool bnosum]] W fun e w' => e = .returned (.tuple #[.string T, .int .i64 D]) ∧ Below W.heap.size W w') :
    Calls Try.prog 8 #[.agg #[.int .i64 v, .string src, .string dst, .int .i64 proto, .int .i64 hops, .int .i64 cls, .int .i64 id, .int .i64 flags, .int .i64 off, .int .i64 label, .string opt, .string body], .agg #[.int .i64 asrc, .int .i64 adst, .int .u32 aseq, .int .u32 aack, .int .i64 aflags, .int .i64 awin, .int .i64 aurg, .string aopt, .string ab, .bool anosum], .agg #[.int .i64 bsrc, .int .i64 bdst, .int .u32 bseq, .int .u32 back, .int .i64 bflags, .int .i64 bwin, .int .i64 burg, .string bopt, .string bb, .bool bnosum]] w fun e w' => e = .returned (.bool true) ∧ Below w.heap.size w w' := by
  have H1 := Lib.hid A1
  have H2 := Lib.hid A2
  clear A1 A2
  go_enter Try.func8, Try.ntmps8
  go_wp2_with fail
  refine (H1.out _).mono ?_
  rintro e w1 ⟨rfl, hq⟩
  have h1 := (Tri.new w #[.int .i64 v, .string src, .string dst, .int .i64 proto, .int .i64 hops, .int .i64 cls, .int .i64 id, .int .i64 flags, .int .i64 off, .int .i64 label, .string opt, .string ⟨#[]⟩] #[.int .i64 asrc, .int .i64 adst, .int .u32 aseq, .int .u32 aack, .int .i64 aflags, .int .i64 awin, .int .i64 aurg, .string aopt, .string ab, .bool anosum] #[.int .i64 bsrc, .int .i64 bdst, .int .u32 bseq, .int .u32 back, .int .i64 bflags, .int .i64 bwin, .int .i64 burg, .string bopt, .string bb, .bool bnosum]).next hq
  clear hq
  have c0 := h1.p.cell 0
  have c1 := h1.p.cell 1
  have c2 := h1.p.cell 2
  have c3 := h1.p.cell 3
  have c4 := h1.p.cell 4
  have c5 := h1.p.cell 5
  have c6 := h1.p.cell 6
  have c7 := h1.p.cell 7
  have c8 := h1.p.cell 8
  have c9 := h1.p.cell 9
  have c10 := h1.p.cell 10
  have c11 := h1.p.cell 11
  simp only [List.getElem?_toArray, List.getElem?_cons_zero, List.getElem?_cons_succ] at c0 c1 c2 c3 c4 c5 c6 c7 c8 c9 c10 c11
  have fr := h1.p.frozen
  have x0 := h1.a.cell 0
  have x1 := h1.a.cell 1
  have y0 := h1.b.cell 0
  have y1 := h1.b.cell 1
  have y2 := h1.b.cell 2
  have y3 := h1.b.cell 3
  have y4 := h1.b.cell 4
  have y5 := h1.b.cell 5
  have y6 := h1.b.cell 6
  have y7 := h1.b.cell 7
  have y8 := h1.b.cell 8
  have y9 := h1.b.cell 9
  simp only [List.getElem?_toArray, List.getElem?_cons_zero, List.getElem?_cons_succ] at x0 x1 y0 y1 y2 y3 y4 y5 y6 y7 y8 y9
  go_wp2_with fail
  refine (H2.out _).mono ?_
  rintro e w2 ⟨rfl, hq⟩
  have h2 := h1.next hq
  clear hq h1 c0 c1 c2 c3 c4 c5 c6 c7 c8 c9 c10 c11 fr x0 x1 y0 y1 y2 y3 y4 y5 y6 y7 y8 y9
  have h1 := h2
  clear h2
  go_wp2_with fail
  have hBB := h1.below
  refine (fixed_any _).mono ?_
  rintro e wf ⟨rfl, hq⟩
  have hB := hBB.trans (hq.mono hBB.size)
  clear hq
  go_wp2_with fail
  go_ret
  exact ⟨rfl, hB⟩
set_option maxRecDepth 100000 in
set_option maxHeartbeats 1600000 in
theorem portsB_ss (v : Int) (src dst : ByteArray) (proto hops cls id flags off label : Int) (opt body : ByteArray) (asrc adst aseq aack aflags awin aurg : Int) (aopt : ByteArray) (anosum : Bool) (bsrc bdst bseq back bflags bwin burg : Int) (bopt : ByteArray) (bnosum : Bool) (w : World) (ab : ByteArray) (hca : ab.size ≤ 300) (bb : ByteArray) (hcb : bb.size ≤ 300) (S T : ByteArray) (E : Int) (hE : (E != 0) = true)
    (A1 : ∀ W, Calls Try.prog 16 #[.agg #[.int .i64 v, .string src, .string dst, .int .i64 proto, .int .i64 hops, .int .i64 cls, .int .i64 id, .int .i64 flags, .int .i64 off, .int .i64 label, .string opt, .string ⟨#[]⟩], .agg #[.int .i64 asrc, .int .i64 adst, .int .u32 aseq, .int .u32 aack, .int .i64 aflags, .int .i64 awin, .int .i64 aurg, .string aopt, .string ab, .bool anosum]] W fun e w' => e = .returned (.tuple #[.string S, .int .i64 0]) ∧ Below W.heap.size W w')
    (A2 : ∀ W, Calls Try.prog 16 #[.agg #[.int .i64 v, .string src, .string dst, .int .i64 proto, .int .i64 hops, .int .i64 cls, .int .i64 id, .int .i64 flags, .int .i64 off, .int .i64 label, .string opt, .string ⟨#[]⟩], .agg #[.int .i64 bsrc, .int .i64 bdst, .int .u32 bseq, .int .u32 back, .int .i64 bflags, .int .i64 bwin, .int .i64 burg, .string bopt, .string bb, .bool bnosum]] W fun e w' => e = .returned (.tuple #[.string T, .int .i64 E]) ∧ Below W.heap.size W w') :
    Calls Try.prog 8 #[.agg #[.int .i64 v, .string src, .string dst, .int .i64 proto, .int .i64 hops, .int .i64 cls, .int .i64 id, .int .i64 flags, .int .i64 off, .int .i64 label, .string opt, .string body], .agg #[.int .i64 asrc, .int .i64 adst, .int .u32 aseq, .int .u32 aack, .int .i64 aflags, .int .i64 awin, .int .i64 aurg, .string aopt, .string ab, .bool anosum], .agg #[.int .i64 bsrc, .int .i64 bdst, .int .u32 bseq, .int .u32 back, .int .i64 bflags, .int .i64 bwin, .int .i64 burg, .string bopt, .string bb, .bool bnosum]] w fun e w' => e = .returned (.bool true) ∧ Below w.heap.size w w' := by
  have H1 := Lib.hid A1
  have H2 := Lib.hid A2
  clear A1 A2
  go_enter Try.func8, Try.ntmps8
  go_wp2_with fail
  refine (H1.out _).mono ?_
  rintro e w1 ⟨rfl, hq⟩
  have h1 := (Tri.new w #[.int .i64 v, .string src, .string dst, .int .i64 proto, .int .i64 hops, .int .i64 cls, .int .i64 id, .int .i64 flags, .int .i64 off, .int .i64 label, .string opt, .string ⟨#[]⟩] #[.int .i64 asrc, .int .i64 adst, .int .u32 aseq, .int .u32 aack, .int .i64 aflags, .int .i64 awin, .int .i64 aurg, .string aopt, .string ab, .bool anosum] #[.int .i64 bsrc, .int .i64 bdst, .int .u32 bseq, .int .u32 back, .int .i64 bflags, .int .i64 bwin, .int .i64 burg, .string bopt, .string bb, .bool bnosum]).next hq
  clear hq
  have c0 := h1.p.cell 0
  have c1 := h1.p.cell 1
  have c2 := h1.p.cell 2
  have c3 := h1.p.cell 3
  have c4 := h1.p.cell 4
  have c5 := h1.p.cell 5
  have c6 := h1.p.cell 6
  have c7 := h1.p.cell 7
  have c8 := h1.p.cell 8
  have c9 := h1.p.cell 9
  have c10 := h1.p.cell 10
  have c11 := h1.p.cell 11
  simp only [List.getElem?_toArray, List.getElem?_cons_zero, List.getElem?_cons_succ] at c0 c1 c2 c3 c4 c5 c6 c7 c8 c9 c10 c11
  have fr := h1.p.frozen
  have x0 := h1.a.cell 0
  have x1 := h1.a.cell 1
  have y0 := h1.b.cell 0
  have y1 := h1.b.cell 1
  have y2 := h1.b.cell 2
  have y3 := h1.b.cell 3
  have y4 := h1.b.cell 4
  have y5 := h1.b.cell 5
  have y6 := h1.b.cell 6
  have y7 := h1.b.cell 7
  have y8 := h1.b.cell 8
  have y9 := h1.b.cell 9
  simp only [List.getElem?_toArray, List.getElem?_cons_zero, List.getElem?_cons_succ] at x0 x1 y0 y1 y2 y3 y4 y5 y6 y7 y8 y9
  go_wp2_with fail
  refine (H2.out _).mono ?_
  rintro e w2 ⟨rfl, hq⟩
  have h2 := h1.next hq
  clear hq h1 c0 c1 c2 c3 c4 c5 c6 c7 c8 c9 c10 c11 fr x0 x1 y0 y1 y2 y3 y4 y5 y6 y7 y8 y9
  have h1 := h2
  clear h2
  go_wp2_with fail
  have hBB := h1.below
  refine (fixed_any _).mono ?_
  rintro e wf ⟨rfl, hq⟩
  have hB := hBB.trans (hq.mono hBB.size)
  clear hq
  go_wp2_with fail
  go_ret
  exact ⟨rfl, hB⟩
set_option maxRecDepth 100000 in
set_option maxHeartbeats 1600000 in
theorem portsC_ss (v : Int) (src dst : ByteArray) (proto hops cls id flags off label : Int) (opt body : ByteArray) (asrc adst aseq aack aflags awin aurg : Int) (aopt : ByteArray) (anosum : Bool) (bsrc bdst bseq back bflags bwin burg : Int) (bopt : ByteArray) (bnosum : Bool) (w : World) (ab : ByteArray) (hca : ab.size ≤ 300) (bb : ByteArray) (hcb : bb.size ≤ 300) (S T : ByteArray) (U R : ByteArray) (F D : Int) (hF : (F != 0) = true)
    (A1 : ∀ W, Calls Try.prog 16 #[.agg #[.int .i64 v, .string src, .string dst, .int .i64 proto, .int .i64 hops, .int .i64 cls, .int .i64 id, .int .i64 flags, .int .i64 off, .int .i64 label, .string opt, .string ⟨#[]⟩], .agg #[.int .i64 asrc, .int .i64 adst, .int .u32 aseq, .int .u32 aack, .int .i64 aflags, .int .i64 awin, .int .i64 aurg, .string aopt, .string ab, .bool anosum]] W fun e w' => e = .returned (.tuple #[.string S, .int .i64 0]) ∧ Below W.heap.size W w')
    (A2 : ∀ W, Calls Try.prog 16 #[.agg #[.int .i64 v, .string src, .string dst, .int .i64 proto, .int .i64 hops, .int .i64 cls, .int .i64 id, .int .i64 flags, .int .i64 off, .int .i64 label, .string opt, .string ⟨#[]⟩], .agg #[.int .i64 bsrc, .int .i64 bdst, .int .u32 bseq, .int .u32 back, .int .i64 bflags, .int .i64 bwin, .int .i64 burg, .string bopt, .string bb, .bool bnosum]] W fun e w' => e = .returned (.tuple #[.string T, .int .i64 0]) ∧ Below W.heap.size W w')
    (A3 : ∀ W, Calls Try.prog 17 #[.agg #[.int .i64 v, .string src, .string dst, .int .i64 proto, .int .i64 hops, .int .i64 cls, .int .i64 id, .int .i64 flags, .int .i64 off, .int .i64 label, .string opt, .string S]] W fun e w' => e = .returned (.tuple #[.string U, .int .i64 F]) ∧ Below W.heap.size W w')
    (A4 : ∀ W, Calls Try.prog 17 #[.agg #[.int .i64 v, .string src, .string dst, .int .i64 proto, .int .i64 hops, .int .i64 cls, .int .i64 id, .int .i64 flags, .int .i64 off, .int .i64 label, .string opt, .string T]] W fun e w' => e = .returned (.tuple #[.string R, .int .i64 D]) ∧ Below W.heap.size W w') :
    Calls Try.prog 8 #[.agg #[.int .i64 v, .string src, .string dst, .int .i64 proto, .int .i64 hops, .int .i64 cls, .int .i64 id, .int .i64 flags, .int .i64 off, .int .i64 label, .string opt, .string body], .agg #[.int .i64 asrc, .int .i64 adst, .int .u32 aseq, .int .u32 aack, .int .i64 aflags, .int .i64 awin, .int .i64 aurg, .string aopt, .string ab, .bool anosum], .agg #[.int .i64 bsrc, .int .i64 bdst, .int .u32 bseq, .int .u32 back, .int .i64 bflags, .int .i64 bwin, .int .i64 burg, .string bopt, .string bb, .bool bnosum]] w fun e w' => e = .returned (.bool true) ∧ Below w.heap.size w w' := by
  have H1 := Lib.hid A1
  have H2 := Lib.hid A2
  have H3 := Lib.hid A3
  have H4 := Lib.hid A4
  clear A1 A2 A3 A4
  go_enter Try.func8, Try.ntmps8
  go_wp2_with fail
  refine (H1.out _).mono ?_
  rintro e w1 ⟨rfl, hq⟩
  have h1 := (Tri.new w #[.int .i64 v, .string src, .string dst, .int .i64 proto, .int .i64 hops, .int .i64 cls, .int .i64 id, .int .i64 flags, .int .i64 off, .int .i64 label, .string opt, .string ⟨#[]⟩] #[.int .i64 asrc, .int .i64 adst, .int .u32 aseq, .int .u32 aack, .int .i64 aflags, .int .i64 awin, .int .i64 aurg, .string aopt, .string ab, .bool anosum] #[.int .i64 bsrc, .int .i64 bdst, .int .u32 bseq, .int .u32 back, .int .i64 bflags, .int .i64 bwin, .int .i64 burg, .string bopt, .string bb, .bool bnosum]).next hq
  clear hq
  have c0 := h1.p.cell 0
  have c1 := h1.p.cell 1
  have c2 := h1.p.cell 2
  have c3 := h1.p.cell 3
  have c4 := h1.p.cell 4
  have c5 := h1.p.cell 5
  have c6 := h1.p.cell 6
  have c7 := h1.p.cell 7
  have c8 := h1.p.cell 8
  have c9 := h1.p.cell 9
  have c10 := h1.p.cell 10
  have c11 := h1.p.cell 11
  simp only [List.getElem?_toArray, List.getElem?_cons_zero, List.getElem?_cons_succ] at c0 c1 c2 c3 c4 c5 c6 c7 c8 c9 c10 c11
  have fr := h1.p.frozen
  have x0 := h1.a.cell 0
  have x1 := h1.a.cell 1
  have y0 := h1.b.cell 0
  have y1 := h1.b.cell 1
  have y2 := h1.b.cell 2
  have y3 := h1.b.cell 3
  have y4 := h1.b.cell 4
  have y5 := h1.b.cell 5
  have y6 := h1.b.cell 6
  have y7 := h1.b.cell 7
  have y8 := h1.b.cell 8
  have y9 := h1.b.cell 9
  simp only [List.getElem?_toArray, List.getElem?_cons_zero, List.getElem?_cons_succ] at x0 x1 y0 y1 y2 y3 y4 y5 y6 y7 y8 y9
  go_wp2_with fail
  refine (H2.out _).mono ?_
  rintro e w2 ⟨rfl, hq⟩
  have h2 := h1.next hq
  clear hq h1 c0 c1 c2 c3 c4 c5 c6 c7 c8 c9 c10 c11 fr x0 x1 y0 y1 y2 y3 y4 y5 y6 y7 y8 y9
  have h1 := h2
  clear h2
  have c0 := h1.p.cell 0
  have c1 := h1.p.cell 1
  have c2 := h1.p.cell 2
  have c3 := h1.p.cell 3
  have c4 := h1.p.cell 4
  have c5 := h1.p.cell 5
  have c6 := h1.p.cell 6
  have c7 := h1.p.cell 7
  have c8 := h1.p.cell 8
  have c9 := h1.p.cell 9
  have c10 := h1.p.cell 10
  have c11 := h1.p.cell 11
  simp only [List.getElem?_toArray, List.getElem?_cons_zero, List.getElem?_cons_succ] at c0 c1 c2 c3 c4 c5 c6 c7 c8 c9 c10 c11
  have fr := h1.p.frozen
  have x0 := h1.a.cell 0
  have x1 := h1.a.cell 1
  have y0 := h1.b.cell 0
  have y1 := h1.b.cell 1
  have y2 := h1.b.cell 2
  have y3 := h1.b.cell 3
  have y4 := h1.b.cell 4
  have y5 := h1.b.cell 5
  have y6 := h1.b.cell 6
  have y7 := h1.b.cell 7
  have y8 := h1.b.cell 8
  have y9 := h1.b.cell 9
  simp only [List.getElem?_toArray, List.getElem?_cons_zero, List.getElem?_cons_succ] at x0 x1 y0 y1 y2 y3 y4 y5 y6 y7 y8 y9
  go_wp2_with fail
  refine (H3.out _).mono ?_
  rintro e w3 ⟨rfl, hq⟩
  have h2 : Tri w #[.int .i64 v, .string src, .string dst, .int .i64 proto, .int .i64 hops, .int .i64 cls, .int .i64 id, .int .i64 flags, .int .i64 off, .int .i64 label, .string opt, .string S] #[.int .i64 asrc, .int .i64 adst, .int .u32 aseq, .int .u32 aack, .int .i64 aflags, .int .i64 awin, .int .i64 aurg, .string aopt, .string ab, .bool anosum] #[.int .i64 bsrc, .int .i64 bdst, .int .u32 bseq, .int .u32 back, .int .i64 bflags, .int .i64 bwin, .int .i64 burg, .string bopt, .string bb, .bool bnosum] w3 := (h1.put 11 (.string S) rfl).next hq
  clear hq h1 c0 c1 c2 c3 c4 c5 c6 c7 c8 c9 c10 c11 fr x0 x1 y0 y1 y2 y3 y4 y5 y6 y7 y8 y9
  have h1 := h2
  clear h2
  have c0 := h1.p.cell 0
  have c1 := h1.p.cell 1
  have c2 := h1.p.cell 2
  have c3 := h1.p.cell 3
  have c4 := h1.p.cell 4
  have c5 := h1.p.cell 5
  have c6 := h1.p.cell 6
  have c7 := h1.p.cell 7
  have c8 := h1.p.cell 8
  have c9 := h1.p.cell 9
  have c10 := h1.p.cell 10
  have c11 := h1.p.cell 11
  simp only [List.getElem?_toArray, List.getElem?_cons_zero, List.getElem?_cons_succ] at c0 c1 c2 c3 c4 c5 c6 c7 c8 c9 c10 c11
  have fr := h1.p.frozen
  have x0 := h1.a.cell 0
  have x1 := h1.a.cell 1
  have y0 := h1.b.cell 0
  have y1 := h1.b.cell 1
  have y2 := h1.b.cell 2
  have y3 := h1.b.cell 3
  have y4 := h1.b.cell 4
  have y5 := h1.b.cell 5
  have y6 := h1.b.cell 6
  have y7 := h1.b.cell 7
  have y8 := h1.b.cell 8
  have y9 := h1.b.cell 9
  simp only [List.getElem?_toArray, List.getElem?_cons_zero, List.getElem?_cons_succ] at x0 x1 y0 y1 y2 y3 y4 y5 y6 y7 y8 y9
  go_wp2_with fail
  refine (H4.out _).mono ?_
  rintro e w4 ⟨rfl, hq⟩
  have h2 : Tri w #[.int .i64 v, .string src, .string dst, .int .i64 proto, .int .i64 hops, .int .i64 cls, .int .i64 id, .int .i64 flags, .int .i64 off, .int .i64 label, .string opt, .string T] #[.int .i64 asrc, .int .i64 adst, .int .u32 aseq, .int .u32 aack, .int .i64 aflags, .int .i64 awin, .int .i64 aurg, .string aopt, .string ab, .bool anosum] #[.int .i64 bsrc, .int .i64 bdst, .int .u32 bseq, .int .u32 back, .int .i64 bflags, .int .i64 bwin, .int .i64 burg, .string bopt, .string bb, .bool bnosum] w4 := (h1.put 11 (.string T) rfl).next hq
  clear hq h1 c0 c1 c2 c3 c4 c5 c6 c7 c8 c9 c10 c11 fr x0 x1 y0 y1 y2 y3 y4 y5 y6 y7 y8 y9
  have h1 := h2
  clear h2
  go_wp2_with fail
  have hBB := h1.below
  refine (fixed_any _).mono ?_
  rintro e wf ⟨rfl, hq⟩
  have hB := hBB.trans (hq.mono hBB.size)
  clear hq
  go_wp2_with fail
  go_ret
  exact ⟨rfl, hB⟩
set_option maxRecDepth 100000 in
set_option maxHeartbeats 1600000 in
theorem portsD_ss (v : Int) (src dst : ByteArray) (proto hops cls id flags off label : Int) (opt body : ByteArray) (asrc adst aseq aack aflags awin aurg : Int) (aopt : ByteArray) (anosum : Bool) (bsrc bdst bseq back bflags bwin burg : Int) (bopt : ByteArray) (bnosum : Bool) (w : World) (ab : ByteArray) (hca : ab.size ≤ 300) (bb : ByteArray) (hcb : bb.size ≤ 300) (S T : ByteArray) (U R : ByteArray) (F : Int) (hF : (F != 0) = true)
    (A1 : ∀ W, Calls Try.prog 16 #[.agg #[.int .i64 v, .string src, .string dst, .int .i64 proto, .int .i64 hops, .int .i64 cls, .int .i64 id, .int .i64 flags, .int .i64 off, .int .i64 label, .string opt, .string ⟨#[]⟩], .agg #[.int .i64 asrc, .int .i64 adst, .int .u32 aseq, .int .u32 aack, .int .i64 aflags, .int .i64 awin, .int .i64 aurg, .string aopt, .string ab, .bool anosum]] W fun e w' => e = .returned (.tuple #[.string S, .int .i64 0]) ∧ Below W.heap.size W w')
    (A2 : ∀ W, Calls Try.prog 16 #[.agg #[.int .i64 v, .string src, .string dst, .int .i64 proto, .int .i64 hops, .int .i64 cls, .int .i64 id, .int .i64 flags, .int .i64 off, .int .i64 label, .string opt, .string ⟨#[]⟩], .agg #[.int .i64 bsrc, .int .i64 bdst, .int .u32 bseq, .int .u32 back, .int .i64 bflags, .int .i64 bwin, .int .i64 burg, .string bopt, .string bb, .bool bnosum]] W fun e w' => e = .returned (.tuple #[.string T, .int .i64 0]) ∧ Below W.heap.size W w')
    (A3 : ∀ W, Calls Try.prog 17 #[.agg #[.int .i64 v, .string src, .string dst, .int .i64 proto, .int .i64 hops, .int .i64 cls, .int .i64 id, .int .i64 flags, .int .i64 off, .int .i64 label, .string opt, .string S]] W fun e w' => e = .returned (.tuple #[.string U, .int .i64 0]) ∧ Below W.heap.size W w')
    (A4 : ∀ W, Calls Try.prog 17 #[.agg #[.int .i64 v, .string src, .string dst, .int .i64 proto, .int .i64 hops, .int .i64 cls, .int .i64 id, .int .i64 flags, .int .i64 off, .int .i64 label, .string opt, .string T]] W fun e w' => e = .returned (.tuple #[.string R, .int .i64 F]) ∧ Below W.heap.size W w') :
    Calls Try.prog 8 #[.agg #[.int .i64 v, .string src, .string dst, .int .i64 proto, .int .i64 hops, .int .i64 cls, .int .i64 id, .int .i64 flags, .int .i64 off, .int .i64 label, .string opt, .string body], .agg #[.int .i64 asrc, .int .i64 adst, .int .u32 aseq, .int .u32 aack, .int .i64 aflags, .int .i64 awin, .int .i64 aurg, .string aopt, .string ab, .bool anosum], .agg #[.int .i64 bsrc, .int .i64 bdst, .int .u32 bseq, .int .u32 back, .int .i64 bflags, .int .i64 bwin, .int .i64 burg, .string bopt, .string bb, .bool bnosum]] w fun e w' => e = .returned (.bool true) ∧ Below w.heap.size w w' := by
  have H1 := Lib.hid A1
  have H2 := Lib.hid A2
  have H3 := Lib.hid A3
  have H4 := Lib.hid A4
  clear A1 A2 A3 A4
  go_enter Try.func8, Try.ntmps8
  go_wp2_with fail
  refine (H1.out _).mono ?_
  rintro e w1 ⟨rfl, hq⟩
  have h1 := (Tri.new w #[.int .i64 v, .string src, .string dst, .int .i64 proto, .int .i64 hops, .int .i64 cls, .int .i64 id, .int .i64 flags, .int .i64 off, .int .i64 label, .string opt, .string ⟨#[]⟩] #[.int .i64 asrc, .int .i64 adst, .int .u32 aseq, .int .u32 aack, .int .i64 aflags, .int .i64 awin, .int .i64 aurg, .string aopt, .string ab, .bool anosum] #[.int .i64 bsrc, .int .i64 bdst, .int .u32 bseq, .int .u32 back, .int .i64 bflags, .int .i64 bwin, .int .i64 burg, .string bopt, .string bb, .bool bnosum]).next hq
  clear hq
  have c0 := h1.p.cell 0
  have c1 := h1.p.cell 1
  have c2 := h1.p.cell 2
  have c3 := h1.p.cell 3
  have c4 := h1.p.cell 4
  have c5 := h1.p.cell 5
  have c6 := h1.p.cell 6
  have c7 := h1.p.cell 7
  have c8 := h1.p.cell 8
  have c9 := h1.p.cell 9
  have c10 := h1.p.cell 10
  have c11 := h1.p.cell 11
  simp only [List.getElem?_toArray, List.getElem?_cons_zero, List.getElem?_cons_succ] at c0 c1 c2 c3 c4 c5 c6 c7 c8 c9 c10 c11
  have fr := h1.p.frozen
  have x0 := h1.a.cell 0
  have x1 := h1.a.cell 1
  have y0 := h1.b.cell 0
  have y1 := h1.b.cell 1
  have y2 := h1.b.cell 2
  have y3 := h1.b.cell 3
  have y4 := h1.b.cell 4
  have y5 := h1.b.cell 5
  have y6 := h1.b.cell 6
  have y7 := h1.b.cell 7
  have y8 := h1.b.cell 8
  have y9 := h1.b.cell 9
  simp only [List.getElem?_toArray, List.getElem?_cons_zero, List.getElem?_cons_succ] at x0 x1 y0 y1 y2 y3 y4 y5 y6 y7 y8 y9
  go_wp2_with fail
  refine (H2.out _).mono ?_
  rintro e w2 ⟨rfl, hq⟩
  have h2 := h1.next hq
  clear hq h1 c0 c1 c2 c3 c4 c5 c6 c7 c8 c9 c10 c11 fr x0 x1 y0 y1 y2 y3 y4 y5 y6 y7 y8 y9
  have h1 := h2
  clear h2
  have c0 := h1.p.cell 0
  have c1 := h1.p.cell 1
  have c2 := h1.p.cell 2
  have c3 := h1.p.cell 3
  have c4 := h1.p.cell 4
  have c5 := h1.p.cell 5
  have c6 := h1.p.cell 6
  have c7 := h1.p.cell 7
  have c8 := h1.p.cell 8
  have c9 := h1.p.cell 9
  have c10 := h1.p.cell 10
  have c11 := h1.p.cell 11
  simp only [List.getElem?_toArray, List.getElem?_cons_zero, List.getElem?_cons_succ] at c0 c1 c2 c3 c4 c5 c6 c7 c8 c9 c10 c11
  have fr := h1.p.frozen
  have x0 := h1.a.cell 0
  have x1 := h1.a.cell 1
  have y0 := h1.b.cell 0
  have y1 := h1.b.cell 1
  have y2 := h1.b.cell 2
  have y3 := h1.b.cell 3
  have y4 := h1.b.cell 4
  have y5 := h1.b.cell 5
  have y6 := h1.b.cell 6
  have y7 := h1.b.cell 7
  have y8 := h1.b.cell 8
  have y9 := h1.b.cell 9
  simp only [List.getElem?_toArray, List.getElem?_cons_zero, List.getElem?_cons_succ] at x0 x1 y0 y1 y2 y3 y4 y5 y6 y7 y8 y9
  go_wp2_with fail
  refine (H3.out _).mono ?_
  rintro e w3 ⟨rfl, hq⟩
  have h2 : Tri w #[.int .i64 v, .string src, .string dst, .int .i64 proto, .int .i64 hops, .int .i64 cls, .int .i64 id, .int .i64 flags, .int .i64 off, .int .i64 label, .string opt, .string S] #[.int .i64 asrc, .int .i64 adst, .int .u32 aseq, .int .u32 aack, .int .i64 aflags, .int .i64 awin, .int .i64 aurg, .string aopt, .string ab, .bool anosum] #[.int .i64 bsrc, .int .i64 bdst, .int .u32 bseq, .int .u32 back, .int .i64 bflags, .int .i64 bwin, .int .i64 burg, .string bopt, .string bb, .bool bnosum] w3 := (h1.put 11 (.string S) rfl).next hq
  clear hq h1 c0 c1 c2 c3 c4 c5 c6 c7 c8 c9 c10 c11 fr x0 x1 y0 y1 y2 y3 y4 y5 y6 y7 y8 y9
  have h1 := h2
  clear h2
  have c0 := h1.p.cell 0
  have c1 := h1.p.cell 1
  have c2 := h1.p.cell 2
  have c3 := h1.p.cell 3
  have c4 := h1.p.cell 4
  have c5 := h1.p.cell 5
  have c6 := h1.p.cell 6
  have c7 := h1.p.cell 7
  have c8 := h1.p.cell 8
  have c9 := h1.p.cell 9
  have c10 := h1.p.cell 10
  have c11 := h1.p.cell 11
  simp only [List.getElem?_toArray, List.getElem?_cons_zero, List.getElem?_cons_succ] at c0 c1 c2 c3 c4 c5 c6 c7 c8 c9 c10 c11
  have fr := h1.p.frozen
  have x0 := h1.a.cell 0
  have x1 := h1.a.cell 1
  have y0 := h1.b.cell 0
  have y1 := h1.b.cell 1
  have y2 := h1.b.cell 2
  have y3 := h1.b.cell 3
  have y4 := h1.b.cell 4
  have y5 := h1.b.cell 5
  have y6 := h1.b.cell 6
  have y7 := h1.b.cell 7
  have y8 := h1.b.cell 8
  have y9 := h1.b.cell 9
  simp only [List.getElem?_toArray, List.getElem?_cons_zero, List.getElem?_cons_succ] at x0 x1 y0 y1 y2 y3 y4 y5 y6 y7 y8 y9
  go_wp2_with fail
  refine (H4.out _).mono ?_
  rintro e w4 ⟨rfl, hq⟩
  have h2 : Tri w #[.int .i64 v, .string src, .string dst, .int .i64 proto, .int .i64 hops, .int .i64 cls, .int .i64 id, .int .i64 flags, .int .i64 off, .int .i64 label, .string opt, .string T] #[.int .i64 asrc, .int .i64 adst, .int .u32 aseq, .int .u32 aack, .int .i64 aflags, .int .i64 awin, .int .i64 aurg, .string aopt, .string ab, .bool anosum] #[.int .i64 bsrc, .int .i64 bdst, .int .u32 bseq, .int .u32 back, .int .i64 bflags, .int .i64 bwin, .int .i64 burg, .string bopt, .string bb, .bool bnosum] w4 := (h1.put 11 (.string T) rfl).next hq
  clear hq h1 c0 c1 c2 c3 c4 c5 c6 c7 c8 c9 c10 c11 fr x0 x1 y0 y1 y2 y3 y4 y5 y6 y7 y8 y9
  have h1 := h2
  clear h2
  go_wp2_with fail
  have hBB := h1.below
  refine (fixed_any _).mono ?_
  rintro e wf ⟨rfl, hq⟩
  have hB := hBB.trans (hq.mono hBB.size)
  clear hq
  go_wp2_with fail
  go_ret
  exact ⟨rfl, hB⟩
set_option maxRecDepth 100000 in
set_option maxHeartbeats 1600000 in
theorem portsE4q_ss (src dst : ByteArray) (proto hops cls id flags off label : Int) (opt body : ByteArray) (asrc adst aseq aack aflags awin aurg : Int) (aopt : ByteArray) (anosum : Bool) (bsrc bdst bseq back bflags bwin burg : Int) (bopt : ByteArray) (bnosum : Bool) (w : World) (ab : ByteArray) (hca : ab.size ≤ 300) (bb : ByteArray) (hcb : bb.size ≤ 300) (S T : ByteArray) (U R : ByteArray) (a b : ByteArray) (K : Int) (Y : ByteArray) (g1 : (asrc == bsrc) = true) (g2 : (adst == bdst) = true)
    (A1 : ∀ W, Calls Try.prog 16 #[.agg #[.int .i64 4, .string src, .string dst, .int .i64 proto, .int .i64 hops, .int .i64 cls, .int .i64 id, .int .i64 flags, .int .i64 off, .int .i64 label, .string opt, .string ⟨#[]⟩], .agg #[.int .i64 asrc, .int .i64 adst, .int .u32 aseq, .int .u32 aack, .int .i64 aflags, .int .i64 awin, .int .i64 aurg, .string aopt, .string ab, .bool anosum]] W fun e w' => e = .returned (.tuple #[.string S, .int .i64 0]) ∧ Below W.heap.size W w')
    (A2 : ∀ W, Calls Try.prog 16 #[.agg #[.int .i64 4, .string src, .string dst, .int .i64 proto, .int .i64 hops, .int .i64 cls, .int .i64 id, .int .i64 flags, .int .i64 off, .int .i64 label, .string opt, .string ⟨#[]⟩], .agg #[.int .i64 bsrc, .int .i64 bdst, .int .u32 bseq, .int .u32 back, .int .i64 bflags, .int .i64 bwin, .int .i64 burg, .string bopt, .string bb, .bool bnosum]] W fun e w' => e = .returned (.tuple #[.string T, .int .i64 0]) ∧ Below W.heap.size W w')
    (A3 : ∀ W, Calls Try.prog 17 #[.agg #[.int .i64 4, .string src, .string dst, .int .i64 proto, .int .i64 hops, .int .i64 cls, .int .i64 id, .int .i64 flags, .int .i64 off, .int .i64 label, .string opt, .string S]] W fun e w' => e = .returned (.tuple #[.string U, .int .i64 0]) ∧ Below W.heap.size W w')
    (A4 : ∀ W, Calls Try.prog 17 #[.agg #[.int .i64 4, .string src, .string dst, .int .i64 proto, .int .i64 hops, .int .i64 cls, .int .i64 id, .int .i64 flags, .int .i64 off, .int .i64 label, .string opt, .string T]] W fun e w' => e = .returned (.tuple #[.string R, .int .i64 0]) ∧ Below W.heap.size W w')
    (A5 : ∀ W, Calls Try.prog 18 #[.int .i64 2048, .string U] W fun e w' => e = .returned (.string a) ∧ Below W.heap.size W w')
    (A6 : ∀ W, Calls Try.prog 10 #[.string a] W fun e w' => e = .returned (.agg #[.int .i64 K, .string Y]) ∧ Below W.heap.size W w')
    (A7 : ∀ W, Calls Try.prog 18 #[.int .i64 2048, .string R] W fun e w' => e = .returned (.string b) ∧ Below W.heap.size W w')
    (A8 : ∀ W, Calls Try.prog 10 #[.string b] W fun e w' => e = .returned (.agg #[.int .i64 K, .string Y]) ∧ Below W.heap.size W w') :
    Calls Try.prog 8 #[.agg #[.int .i64 4, .string src, .string dst, .int .i64 proto, .int .i64 hops, .int .i64 cls, .int .i64 id, .int .i64 flags, .int .i64 off, .int .i64 label, .string opt, .string body], .agg #[.int .i64 asrc, .int .i64 adst, .int .u32 aseq, .int .u32 aack, .int .i64 aflags, .int .i64 awin, .int .i64 aurg, .string aopt, .string ab, .bool anosum], .agg #[.int .i64 bsrc, .int .i64 bdst, .int .u32 bseq, .int .u32 back, .int .i64 bflags, .int .i64 bwin, .int .i64 burg, .string bopt, .string bb, .bool bnosum]] w fun e w' => e = .returned (.bool true) ∧ Below w.heap.size w w' := by
  have H1 := Lib.hid A1
  have H2 := Lib.hid A2
  have H3 := Lib.hid A3
  have H4 := Lib.hid A4
  have H5 := Lib.hid A5
  have H6 := Lib.hid A6
  have H7 := Lib.hid A7
  have H8 := Lib.hid A8
  clear A1 A2 A3 A4 A5 A6 A7 A8
  go_enter Try.func8, Try.ntmps8
  go_wp2_with fail
  refine (H1.out _).mono ?_
  rintro e w1 ⟨rfl, hq⟩
  have h1 := (Tri.new w #[.int .i64 4, .string src, .string dst, .int .i64 proto, .int .i64 hops, .int .i64 cls, .int .i64 id, .int .i64 flags, .int .i64 off, .int .i64 label, .string opt, .string ⟨#[]⟩] #[.int .i64 asrc, .int .i64 adst, .int .u32 aseq, .int .u32 aack, .int .i64 aflags, .int .i64 awin, .int .i64 aurg, .string aopt, .string ab, .bool anosum] #[.int .i64 bsrc, .int .i64 bdst, .int .u32 bseq, .int .u32 back, .int .i64 bflags, .int .i64 bwin, .int .i64 burg, .string bopt, .string bb, .bool bnosum]).next hq
  clear hq
  have c0 := h1.p.cell 0
  have c1 := h1.p.cell 1
  have c2 := h1.p.cell 2
  have c3 := h1.p.cell 3
  have c4 := h1.p.cell 4
  have c5 := h1.p.cell 5
  have c6 := h1.p.cell 6
  have c7 := h1.p.cell 7
  have c8 := h1.p.cell 8
  have c9 := h1.p.cell 9
  have c10 := h1.p.cell 10
  have c11 := h1.p.cell 11
  simp only [List.getElem?_toArray, List.getElem?_cons_zero, List.getElem?_cons_succ] at c0 c1 c2 c3 c4 c5 c6 c7 c8 c9 c10 c11
  have fr := h1.p.frozen
  have x0 := h1.a.cell 0
  have x1 := h1.a.cell 1
  have y0 := h1.b.cell 0
  have y1 := h1.b.cell 1
  have y2 := h1.b.cell 2
  have y3 := h1.b.cell 3
  have y4 := h1.b.cell 4
  have y5 := h1.b.cell 5
  have y6 := h1.b.cell 6
  have y7 := h1.b.cell 7
  have y8 := h1.b.cell 8
  have y9 := h1.b.cell 9
  simp only [List.getElem?_toArray, List.getElem?_cons_zero, List.getElem?_cons_succ] at x0 x1 y0 y1 y2 y3 y4 y5 y6 y7 y8 y9
  go_wp2_with fail
  refine (H2.out _).mono ?_
  rintro e w2 ⟨rfl, hq⟩
  have h2 := h1.next hq
  clear hq h1 c0 c1 c2 c3 c4 c5 c6 c7 c8 c9 c10 c11 fr x0 x1 y0 y1 y2 y3 y4 y5 y6 y7 y8 y9
  have h1 := h2
  clear h2
  have c0 := h1.p.cell 0
  have c1 := h1.p.cell 1
  have c2 := h1.p.cell 2
  have c3 := h1.p.cell 3
  have c4 := h1.p.cell 4
  have c5 := h1.p.cell 5
  have c6 := h1.p.cell 6
  have c7 := h1.p.cell 7
  have c8 := h1.p.cell 8
  have c9 := h1.p.cell 9
  have c10 := h1.p.cell 10
  have c11 := h1.p.cell 11
  simp only [List.getElem?_toArray, List.getElem?_cons_zero, List.getElem?_cons_succ] at c0 c1 c2 c3 c4 c5 c6 c7 c8 c9 c10 c11
  have fr := h1.p.frozen
  have x0 := h1.a.cell 0
  have x1 := h1.a.cell 1
  have y0 := h1.b.cell 0
  have y1 := h1.b.cell 1
  have y2 := h1.b.cell 2
  have y3 := h1.b.cell 3
  have y4 := h1.b.cell 4
  have y5 := h1.b.cell 5
  have y6 := h1.b.cell 6
  have y7 := h1.b.cell 7
  have y8 := h1.b.cell 8
  have y9 := h1.b.cell 9
  simp only [List.getElem?_toArray, List.getElem?_cons_zero, List.getElem?_cons_succ] at x0 x1 y0 y1 y2 y3 y4 y5 y6 y7 y8 y9
  go_wp2_with fail
  refine (H3.out _).mono ?_
  rintro e w3 ⟨rfl, hq⟩
  have h2 : Tri w #[.int .i64 4, .string src, .string dst, .int .i64 proto, .int .i64 hops, .int .i64 cls, .int .i64 id, .int .i64 flags, .int .i64 off, .int .i64 label, .string opt, .string S] #[.int .i64 asrc, .int .i64 adst, .int .u32 aseq, .int .u32 aack, .int .i64 aflags, .int .i64 awin, .int .i64 aurg, .string aopt, .string ab, .bool anosum] #[.int .i64 bsrc, .int .i64 bdst, .int .u32 bseq, .int .u32 back, .int .i64 bflags, .int .i64 bwin, .int .i64 burg, .string bopt, .string bb, .bool bnosum] w3 := (h1.put 11 (.string S) rfl).next hq
  clear hq h1 c0 c1 c2 c3 c4 c5 c6 c7 c8 c9 c10 c11 fr x0 x1 y0 y1 y2 y3 y4 y5 y6 y7 y8 y9
  have h1 := h2
  clear h2
  have c0 := h1.p.cell 0
  have c1 := h1.p.cell 1
  have c2 := h1.p.cell 2
  have c3 := h1.p.cell 3
  have c4 := h1.p.cell 4
  have c5 := h1.p.cell 5
  have c6 := h1.p.cell 6
  have c7 := h1.p.cell 7
  have c8 := h1.p.cell 8
  have c9 := h1.p.cell 9
  have c10 := h1.p.cell 10
  have c11 := h1.p.cell 11
  simp only [List.getElem?_toArray, List.getElem?_cons_zero, List.getElem?_cons_succ] at c0 c1 c2 c3 c4 c5 c6 c7 c8 c9 c10 c11
  have fr := h1.p.frozen
  have x0 := h1.a.cell 0
  have x1 := h1.a.cell 1
  have y0 := h1.b.cell 0
  have y1 := h1.b.cell 1
  have y2 := h1.b.cell 2
  have y3 := h1.b.cell 3
  have y4 := h1.b.cell 4
  have y5 := h1.b.cell 5
  have y6 := h1.b.cell 6
  have y7 := h1.b.cell 7
  have y8 := h1.b.cell 8
  have y9 := h1.b.cell 9
  simp only [List.getElem?_toArray, List.getElem?_cons_zero, List.getElem?_cons_succ] at x0 x1 y0 y1 y2 y3 y4 y5 y6 y7 y8 y9
  go_wp2_with fail
  refine (H4.out _).mono ?_
  rintro e w4 ⟨rfl, hq⟩
  have h2 : Tri w #[.int .i64 4, .string src, .string dst, .int .i64 proto, .int .i64 hops, .int .i64 cls, .int .i64 id, .int .i64 flags, .int .i64 off, .int .i64 label, .string opt, .string T] #[.int .i64 asrc, .int .i64 adst, .int .u32 aseq, .int .u32 aack, .int .i64 aflags, .int .i64 awin, .int .i64 aurg, .string aopt, .string ab, .bool anosum] #[.int .i64 bsrc, .int .i64 bdst, .int .u32 bseq, .int .u32 back, .int .i64 bflags, .int .i64 bwin, .int .i64 burg, .string bopt, .string bb, .bool bnosum] w4 := (h1.put 11 (.string T) rfl).next hq
  clear hq h1 c0 c1 c2 c3 c4 c5 c6 c7 c8 c9 c10 c11 fr x0 x1 y0 y1 y2 y3 y4 y5 y6 y7 y8 y9
  have h1 := h2
  clear h2
  have c0 := h1.p.cell 0
  have c1 := h1.p.cell 1
  have c2 := h1.p.cell 2
  have c3 := h1.p.cell 3
  have c4 := h1.p.cell 4
  have c5 := h1.p.cell 5
  have c6 := h1.p.cell 6
  have c7 := h1.p.cell 7
  have c8 := h1.p.cell 8
  have c9 := h1.p.cell 9
  have c10 := h1.p.cell 10
  have c11 := h1.p.cell 11
  simp only [List.getElem?_toArray, List.getElem?_cons_zero, List.getElem?_cons_succ] at c0 c1 c2 c3 c4 c5 c6 c7 c8 c9 c10 c11
  have fr := h1.p.frozen
  have x0 := h1.a.cell 0
  have x1 := h1.a.cell 1
  have y0 := h1.b.cell 0
  have y1 := h1.b.cell 1
  have y2 := h1.b.cell 2
  have y3 := h1.b.cell 3
  have y4 := h1.b.cell 4
  have y5 := h1.b.cell 5
  have y6 := h1.b.cell 6
  have y7 := h1.b.cell 7
  have y8 := h1.b.cell 8
  have y9 := h1.b.cell 9
  simp only [List.getElem?_toArray, List.getElem?_cons_zero, List.getElem?_cons_succ] at x0 x1 y0 y1 y2 y3 y4 y5 y6 y7 y8 y9
  go_wp2_with fail
  have hBB := h1.below
  clear h1 c0 c1 c2 c3 c4 c5 c6 c7 c8 c9 c10 c11 fr x0 x1 y0 y1 y2 y3 y4 y5 y6 y7 y8 y9
  refine (H5.out _).mono ?_
  rintro e w5 ⟨rfl, hq⟩
  replace hBB := hBB.trans (hq.mono hBB.size)
  clear hq
  go_wp2_with fail
  refine (H6.out _).mono ?_
  rintro e w6 ⟨rfl, hq⟩
  replace hBB := hBB.trans (hq.mono hBB.size)
  clear hq
  go_wp2_with fail
  refine (H7.out _).mono ?_
  rintro e w7 ⟨rfl, hq⟩
  replace hBB := hBB.trans (hq.mono hBB.size)
  clear hq
  go_wp2_with fail
  refine (H8.out _).mono ?_
  rintro e w8 ⟨rfl, hq⟩
  replace hBB := hBB.trans (hq.mono hBB.size)
  clear hq
  go_wp2_with fail
  refine (fixed_any _).mono ?_
  rintro e wf ⟨rfl, hq⟩
  have hB := hBB.trans (hq.mono hBB.size)
  clear hq
  go_wp2_with fail
  go_ret
  exact ⟨rfl, hB⟩
set_option maxRecDepth 100000 in
set_option maxHeartbeats 1600000 in
theorem portsE4x_ss (src dst : ByteArray) (proto hops cls id flags off label : Int) (opt body : ByteArray) (asrc adst aseq aack aflags awin aurg : Int) (aopt : ByteArray) (anosum : Bool) (bsrc bdst bseq back bflags bwin burg : Int) (bopt : ByteArray) (bnosum : Bool) (w : World) (ab : ByteArray) (hca : ab.size ≤ 300) (bb : ByteArray) (hcb : bb.size ≤ 300) (S T : ByteArray) (U R : ByteArray) (a b : ByteArray) (K : Int) (Y Z : ByteArray) (hy : (Y.toList == Z.toList) = false) (g1 : (asrc == bsrc) = false)
    (A1 : ∀ W, Calls Try.prog 16 #[.agg #[.int .i64 4, .string src, .string dst, .int .i64 proto, .int .i64 hops, .int .i64 cls, .int .i64 id, .int .i64 flags, .int .i64 off, .int .i64 label, .string opt, .string ⟨#[]⟩], .agg #[.int .i64 asrc, .int .i64 adst, .int .u32 aseq, .int .u32 aack, .int .i64 aflags, .int .i64 awin, .int .i64 aurg, .string aopt, .string ab, .bool anosum]] W fun e w' => e = .returned (.tuple #[.string S, .int .i64 0]) ∧ Below W.heap.size W w')
    (A2 : ∀ W, Calls Try.prog 16 #[.agg #[.int .i64 4, .string src, .string dst, .int .i64 proto, .int .i64 hops, .int .i64 cls, .int .i64 id, .int .i64 flags, .int .i64 off, .int .i64 label, .string opt, .string ⟨#[]⟩], .agg #[.int .i64 bsrc, .int .i64 bdst, .int .u32 bseq, .int .u32 back, .int .i64 bflags, .int .i64 bwin, .int .i64 burg, .string bopt, .string bb, .bool bnosum]] W fun e w' => e = .returned (.tuple #[.string T, .int .i64 0]) ∧ Below W.heap.size W w')
    (A3 : ∀ W, Calls Try.prog 17 #[.agg #[.int .i64 4, .string src, .string dst, .int .i64 proto, .int .i64 hops, .int .i64 cls, .int .i64 id, .int .i64 flags, .int .i64 off, .int .i64 label, .string opt, .string S]] W fun e w' => e = .returned (.tuple #[.string U, .int .i64 0]) ∧ Below W.heap.size W w')
    (A4 : ∀ W, Calls Try.prog 17 #[.agg #[.int .i64 4, .string src, .string dst, .int .i64 proto, .int .i64 hops, .int .i64 cls, .int .i64 id, .int .i64 flags, .int .i64 off, .int .i64 label, .string opt, .string T]] W fun e w' => e = .returned (.tuple #[.string R, .int .i64 0]) ∧ Below W.heap.size W w')
    (A5 : ∀ W, Calls Try.prog 18 #[.int .i64 2048, .string U] W fun e w' => e = .returned (.string a) ∧ Below W.heap.size W w')
    (A6 : ∀ W, Calls Try.prog 10 #[.string a] W fun e w' => e = .returned (.agg #[.int .i64 K, .string Y]) ∧ Below W.heap.size W w')
    (A7 : ∀ W, Calls Try.prog 18 #[.int .i64 2048, .string R] W fun e w' => e = .returned (.string b) ∧ Below W.heap.size W w')
    (A8 : ∀ W, Calls Try.prog 10 #[.string b] W fun e w' => e = .returned (.agg #[.int .i64 K, .string Z]) ∧ Below W.heap.size W w') :
    Calls Try.prog 8 #[.agg #[.int .i64 4, .string src, .string dst, .int .i64 proto, .int .i64 hops, .int .i64 cls, .int .i64 id, .int .i64 flags, .int .i64 off, .int .i64 label, .string opt, .string body], .agg #[.int .i64 asrc, .int .i64 adst, .int .u32 aseq, .int .u32 aack, .int .i64 aflags, .int .i64 awin, .int .i64 aurg, .string aopt, .string ab, .bool anosum], .agg #[.int .i64 bsrc, .int .i64 bdst, .int .u32 bseq, .int .u32 back, .int .i64 bflags, .int .i64 bwin, .int .i64 burg, .string bopt, .string bb, .bool bnosum]] w fun e w' => e = .returned (.bool true) ∧ Below w.heap.size w w' := by
  have H1 := Lib.hid A1
  have H2 := Lib.hid A2
  have H3 := Lib.hid A3
  have H4 := Lib.hid A4
  have H5 := Lib.hid A5
  have H6 := Lib.hid A6
  have H7 := Lib.hid A7
  have H8 := Lib.hid A8
  clear A1 A2 A3 A4 A5 A6 A7 A8
  go_enter Try.func8, Try.ntmps8
  go_wp2_with fail
  refine (H1.out _).mono ?_
  rintro e w1 ⟨rfl, hq⟩
  have h1 := (Tri.new w #[.int .i64 4, .string src, .string dst, .int .i64 proto, .int .i64 hops, .int .i64 cls, .int .i64 id, .int .i64 flags, .int .i64 off, .int .i64 label, .string opt, .string ⟨#[]⟩] #[.int .i64 asrc, .int .i64 adst, .int .u32 aseq, .int .u32 aack, .int .i64 aflags, .int .i64 awin, .int .i64 aurg, .string aopt, .string ab, .bool anosum] #[.int .i64 bsrc, .int .i64 bdst, .int .u32 bseq, .int .u32 back, .int .i64 bflags, .int .i64 bwin, .int .i64 burg, .string bopt, .string bb, .bool bnosum]).next hq
  clear hq
  have c0 := h1.p.cell 0
  have c1 := h1.p.cell 1
  have c2 := h1.p.cell 2
  have c3 := h1.p.cell 3
  have c4 := h1.p.cell 4
  have c5 := h1.p.cell 5
  have c6 := h1.p.cell 6
  have c7 := h1.p.cell 7
  have c8 := h1.p.cell 8
  have c9 := h1.p.cell 9
  have c10 := h1.p.cell 10
  have c11 := h1.p.cell 11
  simp only [List.getElem?_toArray, List.getElem?_cons_zero, List.getElem?_cons_succ] at c0 c1 c2 c3 c4 c5 c6 c7 c8 c9 c10 c11
  have fr := h1.p.frozen
  have x0 := h1.a.cell 0
  have x1 := h1.a.cell 1
  have y0 := h1.b.cell 0
  have y1 := h1.b.cell 1
  have y2 := h1.b.cell 2
  have y3 := h1.b.cell 3
  have y4 := h1.b.cell 4
  have y5 := h1.b.cell 5
  have y6 := h1.b.cell 6
  have y7 := h1.b.cell 7
  have y8 := h1.b.cell 8
  have y9 := h1.b.cell 9
  simp only [List.getElem?_toArray, List.getElem?_cons_zero, List.getElem?_cons_succ] at x0 x1 y0 y1 y2 y3 y4 y5 y6 y7 y8 y9
  go_wp2_with fail
  refine (H2.out _).mono ?_
  rintro e w2 ⟨rfl, hq⟩
  have h2 := h1.next hq
  clear hq h1 c0 c1 c2 c3 c4 c5 c6 c7 c8 c9 c10 c11 fr x0 x1 y0 y1 y2 y3 y4 y5 y6 y7 y8 y9
  have h1 := h2
  clear h2
  have c0 := h1.p.cell 0
  have c1 := h1.p.cell 1
  have c2 := h1.p.cell 2
  have c3 := h1.p.cell 3
  have c4 := h1.p.cell 4
  have c5 := h1.p.cell 5
  have c6 := h1.p.cell 6
  have c7 := h1.p.cell 7
  have c8 := h1.p.cell 8
  have c9 := h1.p.cell 9
  have c10 := h1.p.cell 10
  have c11 := h1.p.cell 11
  simp only [List.getElem?_toArray, List.getElem?_cons_zero, List.getElem?_cons_succ] at c0 c1 c2 c3 c4 c5 c6 c7 c8 c9 c10 c11
  have fr := h1.p.frozen
  have x0 := h1.a.cell 0
  have x1 := h1.a.cell 1
  have y0 := h1.b.cell 0
  have y1 := h1.b.cell 1
  have y2 := h1.b.cell 2
  have y3 := h1.b.cell 3
  have y4 := h1.b.cell 4
  have y5 := h1.b.cell 5
  have y6 := h1.b.cell 6
  have y7 := h1.b.cell 7
  have y8 := h1.b.cell 8
  have y9 := h1.b.cell 9
  simp only [List.getElem?_toArray, List.getElem?_cons_zero, List.getElem?_cons_succ] at x0 x1 y0 y1 y2 y3 y4 y5 y6 y7 y8 y9
  go_wp2_with fail
  refine (H3.out _).mono ?_
  rintro e w3 ⟨rfl, hq⟩
  have h2 : Tri w #[.int .i64 4, .string src, .string dst, .int .i64 proto, .int .i64 hops, .int .i64 cls, .int .i64 id, .int .i64 flags, .int .i64 off, .int .i64 label, .string opt, .string S] #[.int .i64 asrc, .int .i64 adst, .int .u32 aseq, .int .u32 aack, .int .i64 aflags, .int .i64 awin, .int .i64 aurg, .string aopt, .string ab, .bool anosum] #[.int .i64 bsrc, .int .i64 bdst, .int .u32 bseq, .int .u32 back, .int .i64 bflags, .int .i64 bwin, .int .i64 burg, .string bopt, .string bb, .bool bnosum] w3 := (h1.put 11 (.string S) rfl).next hq
  clear hq h1 c0 c1 c2 c3 c4 c5 c6 c7 c8 c9 c10 c11 fr x0 x1 y0 y1 y2 y3 y4 y5 y6 y7 y8 y9
  have h1 := h2
  clear h2
  have c0 := h1.p.cell 0
  have c1 := h1.p.cell 1
  have c2 := h1.p.cell 2
  have c3 := h1.p.cell 3
  have c4 := h1.p.cell 4
  have c5 := h1.p.cell 5
  have c6 := h1.p.cell 6
  have c7 := h1.p.cell 7
  have c8 := h1.p.cell 8
  have c9 := h1.p.cell 9
  have c10 := h1.p.cell 10
  have c11 := h1.p.cell 11
  simp only [List.getElem?_toArray, List.getElem?_cons_zero, List.getElem?_cons_succ] at c0 c1 c2 c3 c4 c5 c6 c7 c8 c9 c10 c11
  have fr := h1.p.frozen
  have x0 := h1.a.cell 0
  have x1 := h1.a.cell 1
  have y0 := h1.b.cell 0
  have y1 := h1.b.cell 1
  have y2 := h1.b.cell 2
  have y3 := h1.b.cell 3
  have y4 := h1.b.cell 4
  have y5 := h1.b.cell 5
  have y6 := h1.b.cell 6
  have y7 := h1.b.cell 7
  have y8 := h1.b.cell 8
  have y9 := h1.b.cell 9
  simp only [List.getElem?_toArray, List.getElem?_cons_zero, List.getElem?_cons_succ] at x0 x1 y0 y1 y2 y3 y4 y5 y6 y7 y8 y9
  go_wp2_with fail
  refine (H4.out _).mono ?_
  rintro e w4 ⟨rfl, hq⟩
  have h2 : Tri w #[.int .i64 4, .string src, .string dst, .int .i64 proto, .int .i64 hops, .int .i64 cls, .int .i64 id, .int .i64 flags, .int .i64 off, .int .i64 label, .string opt, .string T] #[.int .i64 asrc, .int .i64 adst, .int .u32 aseq, .int .u32 aack, .int .i64 aflags, .int .i64 awin, .int .i64 aurg, .string aopt, .string ab, .bool anosum] #[.int .i64 bsrc, .int .i64 bdst, .int .u32 bseq, .int .u32 back, .int .i64 bflags, .int .i64 bwin, .int .i64 burg, .string bopt, .string bb, .bool bnosum] w4 := (h1.put 11 (.string T) rfl).next hq
  clear hq h1 c0 c1 c2 c3 c4 c5 c6 c7 c8 c9 c10 c11 fr x0 x1 y0 y1 y2 y3 y4 y5 y6 y7 y8 y9
  have h1 := h2
  clear h2
  have c0 := h1.p.cell 0
  have c1 := h1.p.cell 1
  have c2 := h1.p.cell 2
  have c3 := h1.p.cell 3
  have c4 := h1.p.cell 4
  have c5 := h1.p.cell 5
  have c6 := h1.p.cell 6
  have c7 := h1.p.cell 7
  have c8 := h1.p.cell 8
  have c9 := h1.p.cell 9
  have c10 := h1.p.cell 10
  have c11 := h1.p.cell 11
  simp only [List.getElem?_toArray, List.getElem?_cons_zero, List.getElem?_cons_succ] at c0 c1 c2 c3 c4 c5 c6 c7 c8 c9 c10 c11
  have fr := h1.p.frozen
  have x0 := h1.a.cell 0
  have x1 := h1.a.cell 1
  have y0 := h1.b.cell 0
  have y1 := h1.b.cell 1
  have y2 := h1.b.cell 2
  have y3 := h1.b.cell 3
  have y4 := h1.b.cell 4
  have y5 := h1.b.cell 5
  have y6 := h1.b.cell 6
  have y7 := h1.b.cell 7
  have y8 := h1.b.cell 8
  have y9 := h1.b.cell 9
  simp only [List.getElem?_toArray, List.getElem?_cons_zero, List.getElem?_cons_succ] at x0 x1 y0 y1 y2 y3 y4 y5 y6 y7 y8 y9
  go_wp2_with fail
  have hBB := h1.below
  clear h1 c0 c1 c2 c3 c4 c5 c6 c7 c8 c9 c10 c11 fr x0 x1 y0 y1 y2 y3 y4 y5 y6 y7 y8 y9
  refine (H5.out _).mono ?_
  rintro e w5 ⟨rfl, hq⟩
  replace hBB := hBB.trans (hq.mono hBB.size)
  clear hq
  go_wp2_with fail
  refine (H6.out _).mono ?_
  rintro e w6 ⟨rfl, hq⟩
  replace hBB := hBB.trans (hq.mono hBB.size)
  clear hq
  go_wp2_with fail
  refine (H7.out _).mono ?_
  rintro e w7 ⟨rfl, hq⟩
  replace hBB := hBB.trans (hq.mono hBB.size)
  clear hq
  go_wp2_with fail
  refine (H8.out _).mono ?_
  rintro e w8 ⟨rfl, hq⟩
  replace hBB := hBB.trans (hq.mono hBB.size)
  clear hq
  go_wp2_with fail
  refine (fixed_any _).mono ?_
  rintro e wf ⟨rfl, hq⟩
  have hB := hBB.trans (hq.mono hBB.size)
  clear hq
  go_wp2_with fail
  go_ret
  exact ⟨rfl, hB⟩
set_option maxRecDepth 100000 in
set_option maxHeartbeats 1600000 in
theorem portsE4y_ss (src dst : ByteArray) (proto hops cls id flags off label : Int) (opt body : ByteArray) (asrc adst aseq aack aflags awin aurg : Int) (aopt : ByteArray) (anosum : Bool) (bsrc bdst bseq back bflags bwin burg : Int) (bopt : ByteArray) (bnosum : Bool) (w : World) (ab : ByteArray) (hca : ab.size ≤ 300) (bb : ByteArray) (hcb : bb.size ≤ 300) (S T : ByteArray) (U R : ByteArray) (a b : ByteArray) (K : Int) (Y Z : ByteArray) (hy : (Y.toList == Z.toList) = false) (g1 : (asrc == bsrc) = true) (g2 : (adst == bdst) = false)
    (A1 : ∀ W, Calls Try.prog 16 #[.agg #[.int .i64 4, .string src, .string dst, .int .i64 proto, .int .i64 hops, .int .i64 cls, .int .i64 id, .int .i64 flags, .int .i64 off, .int .i64 label, .string opt, .string ⟨#[]⟩], .agg #[.int .i64 asrc, .int .i64 adst, .int .u32 aseq, .int .u32 aack, .int .i64 aflags, .int .i64 awin, .int .i64 aurg, .string aopt, .string ab, .bool anosum]] W fun e w' => e = .returned (.tuple #[.string S, .int .i64 0]) ∧ Below W.heap.size W w')
    (A2 : ∀ W, Calls Try.prog 16 #[.agg #[.int .i64 4, .string src, .string dst, .int .i64 proto, .int .i64 hops, .int .i64 cls, .int .i64 id, .int .i64 flags, .int .i64 off, .int .i64 label, .string opt, .string ⟨#[]⟩], .agg #[.int .i64 bsrc, .int .i64 bdst, .int .u32 bseq, .int .u32 back, .int .i64 bflags, .int .i64 bwin, .int .i64 burg, .string bopt, .string bb, .bool bnosum]] W fun e w' => e = .returned (.tuple #[.string T, .int .i64 0]) ∧ Below W.heap.size W w')
    (A3 : ∀ W, Calls Try.prog 17 #[.agg #[.int .i64 4, .string src, .string dst, .int .i64 proto, .int .i64 hops, .int .i64 cls, .int .i64 id, .int .i64 flags, .int .i64 off, .int .i64 label, .string opt, .string S]] W fun e w' => e = .returned (.tuple #[.string U, .int .i64 0]) ∧ Below W.heap.size W w')
    (A4 : ∀ W, Calls Try.prog 17 #[.agg #[.int .i64 4, .string src, .string dst, .int .i64 proto, .int .i64 hops, .int .i64 cls, .int .i64 id, .int .i64 flags, .int .i64 off, .int .i64 label, .string opt, .string T]] W fun e w' => e = .returned (.tuple #[.string R, .int .i64 0]) ∧ Below W.heap.size W w')
    (A5 : ∀ W, Calls Try.prog 18 #[.int .i64 2048, .string U] W fun e w' => e = .returned (.string a) ∧ Below W.heap.size W w')
    (A6 : ∀ W, Calls Try.prog 10 #[.string a] W fun e w' => e = .returned (.agg #[.int .i64 K, .string Y]) ∧ Below W.heap.size W w')
    (A7 : ∀ W, Calls Try.prog 18 #[.int .i64 2048, .string R] W fun e w' => e = .returned (.string b) ∧ Below W.heap.size W w')
    (A8 : ∀ W, Calls Try.prog 10 #[.string b] W fun e w' => e = .returned (.agg #[.int .i64 K, .string Z]) ∧ Below W.heap.size W w') :
    Calls Try.prog 8 #[.agg #[.int .i64 4, .string src, .string dst, .int .i64 proto, .int .i64 hops, .int .i64 cls, .int .i64 id, .int .i64 flags, .int .i64 off, .int .i64 label, .string opt, .string body], .agg #[.int .i64 asrc, .int .i64 adst, .int .u32 aseq, .int .u32 aack, .int .i64 aflags, .int .i64 awin, .int .i64 aurg, .string aopt, .string ab, .bool anosum], .agg #[.int .i64 bsrc, .int .i64 bdst, .int .u32 bseq, .int .u32 back, .int .i64 bflags, .int .i64 bwin, .int .i64 burg, .string bopt, .string bb, .bool bnosum]] w fun e w' => e = .returned (.bool true) ∧ Below w.heap.size w w' := by
  have H1 := Lib.hid A1
  have H2 := Lib.hid A2
  have H3 := Lib.hid A3
  have H4 := Lib.hid A4
  have H5 := Lib.hid A5
  have H6 := Lib.hid A6
  have H7 := Lib.hid A7
  have H8 := Lib.hid A8
  clear A1 A2 A3 A4 A5 A6 A7 A8
  go_enter Try.func8, Try.ntmps8
  go_wp2_with fail
  refine (H1.out _).mono ?_
  rintro e w1 ⟨rfl, hq⟩
  have h1 := (Tri.new w #[.int .i64 4, .string src, .string dst, .int .i64 proto, .int .i64 hops, .int .i64 cls, .int .i64 id, .int .i64 flags, .int .i64 off, .int .i64 label, .string opt, .string ⟨#[]⟩] #[.int .i64 asrc, .int .i64 adst, .int .u32 aseq, .int .u32 aack, .int .i64 aflags, .int .i64 awin, .int .i64 aurg, .string aopt, .string ab, .bool anosum] #[.int .i64 bsrc, .int .i64 bdst, .int .u32 bseq, .int .u32 back, .int .i64 bflags, .int .i64 bwin, .int .i64 burg, .string bopt, .string bb, .bool bnosum]).next hq
  clear hq
  have c0 := h1.p.cell 0
  have c1 := h1.p.cell 1
  have c2 := h1.p.cell 2
  have c3 := h1.p.cell 3
  have c4 := h1.p.cell 4
  have c5 := h1.p.cell 5
  have c6 := h1.p.cell 6
  have c7 := h1.p.cell 7
  have c8 := h1.p.cell 8
  have c9 := h1.p.cell 9
  have c10 := h1.p.cell 10
  have c11 := h1.p.cell 11
  simp only [List.getElem?_toArray, List.getElem?_cons_zero, List.getElem?_cons_succ] at c0 c1 c2 c3 c4 c5 c6 c7 c8 c9 c10 c11
  have fr := h1.p.frozen
  have x0 := h1.a.cell 0
  have x1 := h1.a.cell 1
  have y0 := h1.b.cell 0
  have y1 := h1.b.cell 1
  have y2 := h1.b.cell 2
  have y3 := h1.b.cell 3
  have y4 := h1.b.cell 4
  have y5 := h1.b.cell 5
  have y6 := h1.b.cell 6
  have y7 := h1.b.cell 7
  have y8 := h1.b.cell 8
  have y9 := h1.b.cell 9
  simp only [List.getElem?_toArray, List.getElem?_cons_zero, List.getElem?_cons_succ] at x0 x1 y0 y1 y2 y3 y4 y5 y6 y7 y8 y9
  go_wp2_with fail
  refine (H2.out _).mono ?_
  rintro e w2 ⟨rfl, hq⟩
  have h2 := h1.next hq
  clear hq h1 c0 c1 c2 c3 c4 c5 c6 c7 c8 c9 c10 c11 fr x0 x1 y0 y1 y2 y3 y4 y5 y6 y7 y8 y9
  have h1 := h2
  clear h2
  have c0 := h1.p.cell 0
  have c1 := h1.p.cell 1
  have c2 := h1.p.cell 2
  have c3 := h1.p.cell 3
  have c4 := h1.p.cell 4
  have c5 := h1.p.cell 5
  have c6 := h1.p.cell 6
  have c7 := h1.p.cell 7
  have c8 := h1.p.cell 8
  have c9 := h1.p.cell 9
  have c10 := h1.p.cell 10
  have c11 := h1.p.cell 11
  simp only [List.getElem?_toArray, List.getElem?_cons_zero, List.getElem?_cons_succ] at c0 c1 c2 c3 c4 c5 c6 c7 c8 c9 c10 c11
  have fr := h1.p.frozen
  have x0 := h1.a.cell 0
  have x1 := h1.a.cell 1
  have y0 := h1.b.cell 0
  have y1 := h1.b.cell 1
  have y2 := h1.b.cell 2
  have y3 := h1.b.cell 3
  have y4 := h1.b.cell 4
  have y5 := h1.b.cell 5
  have y6 := h1.b.cell 6
  have y7 := h1.b.cell 7
  have y8 := h1.b.cell 8
  have y9 := h1.b.cell 9
  simp only [List.getElem?_toArray, List.getElem?_cons_zero, List.getElem?_cons_succ] at x0 x1 y0 y1 y2 y3 y4 y5 y6 y7 y8 y9
  go_wp2_with fail
  refine (H3.out _).mono ?_
  rintro e w3 ⟨rfl, hq⟩
  have h2 : Tri w #[.int .i64 4, .string src, .string dst, .int .i64 proto, .int .i64 hops, .int .i64 cls, .int .i64 id, .int .i64 flags, .int .i64 off, .int .i64 label, .string opt, .string S] #[.int .i64 asrc, .int .i64 adst, .int .u32 aseq, .int .u32 aack, .int .i64 aflags, .int .i64 awin, .int .i64 aurg, .string aopt, .string ab, .bool anosum] #[.int .i64 bsrc, .int .i64 bdst, .int .u32 bseq, .int .u32 back, .int .i64 bflags, .int .i64 bwin, .int .i64 burg, .string bopt, .string bb, .bool bnosum] w3 := (h1.put 11 (.string S) rfl).next hq
  clear hq h1 c0 c1 c2 c3 c4 c5 c6 c7 c8 c9 c10 c11 fr x0 x1 y0 y1 y2 y3 y4 y5 y6 y7 y8 y9
  have h1 := h2
  clear h2
  have c0 := h1.p.cell 0
  have c1 := h1.p.cell 1
  have c2 := h1.p.cell 2
  have c3 := h1.p.cell 3
  have c4 := h1.p.cell 4
  have c5 := h1.p.cell 5
  have c6 := h1.p.cell 6
  have c7 := h1.p.cell 7
  have c8 := h1.p.cell 8
  have c9 := h1.p.cell 9
  have c10 := h1.p.cell 10
  have c11 := h1.p.cell 11
  simp only [List.getElem?_toArray, List.getElem?_cons_zero, List.getElem?_cons_succ] at c0 c1 c2 c3 c4 c5 c6 c7 c8 c9 c10 c11
  have fr := h1.p.frozen
  have x0 := h1.a.cell 0
  have x1 := h1.a.cell 1
  have y0 := h1.b.cell 0
  have y1 := h1.b.cell 1
  have y2 := h1.b.cell 2
  have y3 := h1.b.cell 3
  have y4 := h1.b.cell 4
  have y5 := h1.b.cell 5
  have y6 := h1.b.cell 6
  have y7 := h1.b.cell 7
  have y8 := h1.b.cell 8
  have y9 := h1.b.cell 9
  simp only [List.getElem?_toArray, List.getElem?_cons_zero, List.getElem?_cons_succ] at x0 x1 y0 y1 y2 y3 y4 y5 y6 y7 y8 y9
  go_wp2_with fail
  refine (H4.out _).mono ?_
  rintro e w4 ⟨rfl, hq⟩
  have h2 : Tri w #[.int .i64 4, .string src, .string dst, .int .i64 proto, .int .i64 hops, .int .i64 cls, .int .i64 id, .int .i64 flags, .int .i64 off, .int .i64 label, .string opt, .string T] #[.int .i64 asrc, .int .i64 adst, .int .u32 aseq, .int .u32 aack, .int .i64 aflags, .int .i64 awin, .int .i64 aurg, .string aopt, .string ab, .bool anosum] #[.int .i64 bsrc, .int .i64 bdst, .int .u32 bseq, .int .u32 back, .int .i64 bflags, .int .i64 bwin, .int .i64 burg, .string bopt, .string bb, .bool bnosum] w4 := (h1.put 11 (.string T) rfl).next hq
  clear hq h1 c0 c1 c2 c3 c4 c5 c6 c7 c8 c9 c10 c11 fr x0 x1 y0 y1 y2 y3 y4 y5 y6 y7 y8 y9
  have h1 := h2
  clear h2
  have c0 := h1.p.cell 0
  have c1 := h1.p.cell 1
  have c2 := h1.p.cell 2
  have c3 := h1.p.cell 3
  have c4 := h1.p.cell 4
  have c5 := h1.p.cell 5
  have c6 := h1.p.cell 6
  have c7 := h1.p.cell 7
  have c8 := h1.p.cell 8
  have c9 := h1.p.cell 9
  have c10 := h1.p.cell 10
  have c11 := h1.p.cell 11
  simp only [List.getElem?_toArray, List.getElem?_cons_zero, List.getElem?_cons_succ] at c0 c1 c2 c3 c4 c5 c6 c7 c8 c9 c10 c11
  have fr := h1.p.frozen
  have x0 := h1.a.cell 0
  have x1 := h1.a.cell 1
  have y0 := h1.b.cell 0
  have y1 := h1.b.cell 1
  have y2 := h1.b.cell 2
  have y3 := h1.b.cell 3
  have y4 := h1.b.cell 4
  have y5 := h1.b.cell 5
  have y6 := h1.b.cell 6
  have y7 := h1.b.cell 7
  have y8 := h1.b.cell 8
  have y9 := h1.b.cell 9
  simp only [List.getElem?_toArray, List.getElem?_cons_zero, List.getElem?_cons_succ] at x0 x1 y0 y1 y2 y3 y4 y5 y6 y7 y8 y9
  go_wp2_with fail
  have hBB := h1.below
  clear h1 c0 c1 c2 c3 c4 c5 c6 c7 c8 c9 c10 c11 fr x0 x1 y0 y1 y2 y3 y4 y5 y6 y7 y8 y9
  refine (H5.out _).mono ?_
  rintro e w5 ⟨rfl, hq⟩
  replace hBB := hBB.trans (hq.mono hBB.size)
  clear hq
  go_wp2_with fail
  refine (H6.out _).mono ?_
  rintro e w6 ⟨rfl, hq⟩
  replace hBB := hBB.trans (hq.mono hBB.size)
  clear hq
  go_wp2_with fail
  refine (H7.out _).mono ?_
  rintro e w7 ⟨rfl, hq⟩
  replace hBB := hBB.trans (hq.mono hBB.size)
  clear hq
  go_wp2_with fail
  refine (H8.out _).mono ?_
  rintro e w8 ⟨rfl, hq⟩
  replace hBB := hBB.trans (hq.mono hBB.size)
  clear hq
  go_wp2_with fail
  refine (fixed_any _).mono ?_
  rintro e wf ⟨rfl, hq⟩
  have hB := hBB.trans (hq.mono hBB.size)
  clear hq
  go_wp2_with fail
  go_ret
  exact ⟨rfl, hB⟩
set_option maxRecDepth 100000 in
set_option maxHeartbeats 1600000 in
theorem portsE6q_ss (src dst : ByteArray) (proto hops cls id flags off label : Int) (opt body : ByteArray) (asrc adst aseq aack aflags awin aurg : Int) (aopt : ByteArray) (anosum : Bool) (bsrc bdst bseq back bflags bwin burg : Int) (bopt : ByteArray) (bnosum : Bool) (w : World) (ab : ByteArray) (hca : ab.size ≤ 300) (bb : ByteArray) (hcb : bb.size ≤ 300) (S T : ByteArray) (U R : ByteArray) (a b : ByteArray) (K : Int) (Y : ByteArray) (g1 : (asrc == bsrc) = true) (g2 : (adst == bdst) = true)
    (A1 : ∀ W, Calls Try.prog 16 #[.agg #[.int .i64 6, .string src, .string dst, .int .i64 proto, .int .i64 hops, .int .i64 cls, .int .i64 id, .int .i64 flags, .int .i64 off, .int .i64 label, .string opt, .string ⟨#[]⟩], .agg #[.int .i64 asrc, .int .i64 adst, .int .u32 aseq, .int .u32 aack, .int .i64 aflags, .int .i64 awin, .int .i64 aurg, .string aopt, .string ab, .bool anosum]] W fun e w' => e = .returned (.tuple #[.string S, .int .i64 0]) ∧ Below W.heap.size W w')
    (A2 : ∀ W, Calls Try.prog 16 #[.agg #[.int .i64 6, .string src, .string dst, .int .i64 proto, .int .i64 hops, .int .i64 cls, .int .i64 id, .int .i64 flags, .int .i64 off, .int .i64 label, .string opt, .string ⟨#[]⟩], .agg #[.int .i64 bsrc, .int .i64 bdst, .int .u32 bseq, .int .u32 back, .int .i64 bflags, .int .i64 bwin, .int .i64 burg, .string bopt, .string bb, .bool bnosum]] W fun e w' => e = .returned (.tuple #[.string T, .int .i64 0]) ∧ Below W.heap.size W w')
    (A3 : ∀ W, Calls Try.prog 17 #[.agg #[.int .i64 6, .string src, .string dst, .int .i64 proto, .int .i64 hops, .int .i64 cls, .int .i64 id, .int .i64 flags, .int .i64 off, .int .i64 label, .string opt, .string S]] W fun e w' => e = .returned (.tuple #[.string U, .int .i64 0]) ∧ Below W.heap.size W w')
    (A4 : ∀ W, Calls Try.prog 17 #[.agg #[.int .i64 6, .string src, .string dst, .int .i64 proto, .int .i64 hops, .int .i64 cls, .int .i64 id, .int .i64 flags, .int .i64 off, .int .i64 label, .string opt, .string T]] W fun e w' => e = .returned (.tuple #[.string R, .int .i64 0]) ∧ Below W.heap.size W w')
    (A5 : ∀ W, Calls Try.prog 18 #[.int .i64 34525, .string U] W fun e w' => e = .returned (.string a) ∧ Below W.heap.size W w')
    (A6 : ∀ W, Calls Try.prog 10 #[.string a] W fun e w' => e = .returned (.agg #[.int .i64 K, .string Y]) ∧ Below W.heap.size W w')
    (A7 : ∀ W, Calls Try.prog 18 #[.int .i64 34525, .string R] W fun e w' => e = .returned (.string b) ∧ Below W.heap.size W w')
    (A8 : ∀ W, Calls Try.prog 10 #[.string b] W fun e w' => e = .returned (.agg #[.int .i64 K, .string Y]) ∧ Below W.heap.size W w') :
    Calls Try.prog 8 #[.agg #[.int .i64 6, .string src, .string dst, .int .i64 proto, .int .i64 hops, .int .i64 cls, .int .i64 id, .int .i64 flags, .int .i64 off, .int .i64 label, .string opt, .string body], .agg #[.int .i64 asrc, .int .i64 adst, .int .u32 aseq, .int .u32 aack, .int .i64 aflags, .int .i64 awin, .int .i64 aurg, .string aopt, .string ab, .bool anosum], .agg #[.int .i64 bsrc, .int .i64 bdst, .int .u32 bseq, .int .u32 back, .int .i64 bflags, .int .i64 bwin, .int .i64 burg, .string bopt, .string bb, .bool bnosum]] w fun e w' => e = .returned (.bool true) ∧ Below w.heap.size w w' := by
  have H1 := Lib.hid A1
  have H2 := Lib.hid A2
  have H3 := Lib.hid A3
  have H4 := Lib.hid A4
  have H5 := Lib.hid A5
  have H6 := Lib.hid A6
  have H7 := Lib.hid A7
  have H8 := Lib.hid A8
  clear A1 A2 A3 A4 A5 A6 A7 A8
  go_enter Try.func8, Try.ntmps8
  go_wp2_with fail
  refine (H1.out _).mono ?_
  rintro e w1 ⟨rfl, hq⟩
  have h1 := (Tri.new w #[.int .i64 6, .string src, .string dst, .int .i64 proto, .int .i64 hops, .int .i64 cls, .int .i64 id, .int .i64 flags, .int .i64 off, .int .i64 label, .string opt, .string ⟨#[]⟩] #[.int .i64 asrc, .int .i64 adst, .int .u32 aseq, .int .u32 aack, .int .i64 aflags, .int .i64 awin, .int .i64 aurg, .string aopt, .string ab, .bool anosum] #[.int .i64 bsrc, .int .i64 bdst, .int .u32 bseq, .int .u32 back, .int .i64 bflags, .int .i64 bwin, .int .i64 burg, .string bopt, .string bb, .bool bnosum]).next hq
  clear hq
  have c0 := h1.p.cell 0
  have c1 := h1.p.cell 1
  have c2 := h1.p.cell 2
  have c3 := h1.p.cell 3
  have c4 := h1.p.cell 4
  have c5 := h1.p.cell 5
  have c6 := h1.p.cell 6
  have c7 := h1.p.cell 7
  have c8 := h1.p.cell 8
  have c9 := h1.p.cell 9
  have c10 := h1.p.cell 10
  have c11 := h1.p.cell 11
  simp only [List.getElem?_toArray, List.getElem?_cons_zero, List.getElem?_cons_succ] at c0 c1 c2 c3 c4 c5 c6 c7 c8 c9 c10 c11
  have fr := h1.p.frozen
  have x0 := h1.a.cell 0
  have x1 := h1.a.cell 1
  have y0 := h1.b.cell 0
  have y1 := h1.b.cell 1
  have y2 := h1.b.cell 2
  have y3 := h1.b.cell 3
  have y4 := h1.b.cell 4
  have y5 := h1.b.cell 5
  have y6 := h1.b.cell 6
  have y7 := h1.b.cell 7
  have y8 := h1.b.cell 8
  have y9 := h1.b.cell 9
  simp only [List.getElem?_toArray, List.getElem?_cons_zero, List.getElem?_cons_succ] at x0 x1 y0 y1 y2 y3 y4 y5 y6 y7 y8 y9
  go_wp2_with fail
  refine (H2.out _).mono ?_
  rintro e w2 ⟨rfl, hq⟩
  have h2 := h1.next hq
  clear hq h1 c0 c1 c2 c3 c4 c5 c6 c7 c8 c9 c10 c11 fr x0 x1 y0 y1 y2 y3 y4 y5 y6 y7 y8 y9
  have h1 := h2
  clear h2
  have c0 := h1.p.cell 0
  have c1 := h1.p.cell 1
  have c2 := h1.p.cell 2
  have c3 := h1.p.cell 3
  have c4 := h1.p.cell 4
  have c5 := h1.p.cell 5
  have c6 := h1.p.cell 6
  have c7 := h1.p.cell 7
  have c8 := h1.p.cell 8
  have c9 := h1.p.cell 9
  have c10 := h1.p.cell 10
  have c11 := h1.p.cell 11
  simp only [List.getElem?_toArray, List.getElem?_cons_zero, List.getElem?_cons_succ] at c0 c1 c2 c3 c4 c5 c6 c7 c8 c9 c10 c11
  have fr := h1.p.frozen
  have x0 := h1.a.cell 0
  have x1 := h1.a.cell 1
  have y0 := h1.b.cell 0
  have y1 := h1.b.cell 1
  have y2 := h1.b.cell 2
  have y3 := h1.b.cell 3
  have y4 := h1.b.cell 4
  have y5 := h1.b.cell 5
  have y6 := h1.b.cell 6
  have y7 := h1.b.cell 7
  have y8 := h1.b.cell 8
  have y9 := h1.b.cell 9
  simp only [List.getElem?_toArray, List.getElem?_cons_zero, List.getElem?_cons_succ] at x0 x1 y0 y1 y2 y3 y4 y5 y6 y7 y8 y9
  go_wp2_with fail
  refine (H3.out _).mono ?_
  rintro e w3 ⟨rfl, hq⟩
  have h2 : Tri w #[.int .i64 6, .string src, .string dst, .int .i64 proto, .int .i64 hops, .int .i64 cls, .int .i64 id, .int .i64 flags, .int .i64 off, .int .i64 label, .string opt, .string S] #[.int .i64 asrc, .int .i64 adst, .int .u32 aseq, .int .u32 aack, .int .i64 aflags, .int .i64 awin, .int .i64 aurg, .string aopt, .string ab, .bool anosum] #[.int .i64 bsrc, .int .i64 bdst, .int .u32 bseq, .int .u32 back, .int .i64 bflags, .int .i64 bwin, .int .i64 burg, .string bopt, .string bb, .bool bnosum] w3 := (h1.put 11 (.string S) rfl).next hq
  clear hq h1 c0 c1 c2 c3 c4 c5 c6 c7 c8 c9 c10 c11 fr x0 x1 y0 y1 y2 y3 y4 y5 y6 y7 y8 y9
  have h1 := h2
  clear h2
  have c0 := h1.p.cell 0
  have c1 := h1.p.cell 1
  have c2 := h1.p.cell 2
  have c3 := h1.p.cell 3
  have c4 := h1.p.cell 4
  have c5 := h1.p.cell 5
  have c6 := h1.p.cell 6
  have c7 := h1.p.cell 7
  have c8 := h1.p.cell 8
  have c9 := h1.p.cell 9
  have c10 := h1.p.cell 10
  have c11 := h1.p.cell 11
  simp only [List.getElem?_toArray, List.getElem?_cons_zero, List.getElem?_cons_succ] at c0 c1 c2 c3 c4 c5 c6 c7 c8 c9 c10 c11
  have fr := h1.p.frozen
  have x0 := h1.a.cell 0
  have x1 := h1.a.cell 1
  have y0 := h1.b.cell 0
  have y1 := h1.b.cell 1
  have y2 := h1.b.cell 2
  have y3 := h1.b.cell 3
  have y4 := h1.b.cell 4
  have y5 := h1.b.cell 5
  have y6 := h1.b.cell 6
  have y7 := h1.b.cell 7
  have y8 := h1.b.cell 8
  have y9 := h1.b.cell 9
  simp only [List.getElem?_toArray, List.getElem?_cons_zero, List.getElem?_cons_succ] at x0 x1 y0 y1 y2 y3 y4 y5 y6 y7 y8 y9
  go_wp2_with fail
  refine (H4.out _).mono ?_
  rintro e w4 ⟨rfl, hq⟩
  have h2 : Tri w #[.int .i64 6, .string src, .string dst, .int .i64 proto, .int .i64 hops, .int .i64 cls, .int .i64 id, .int .i64 flags, .int .i64 off, .int .i64 label, .string opt, .string T] #[.int .i64 asrc, .int .i64 adst, .int .u32 aseq, .int .u32 aack, .int .i64 aflags, .int .i64 awin, .int .i64 aurg, .string aopt, .string ab, .bool anosum] #[.int .i64 bsrc, .int .i64 bdst, .int .u32 bseq, .int .u32 back, .int .i64 bflags, .int .i64 bwin, .int .i64 burg, .string bopt, .string bb, .bool bnosum] w4 := (h1.put 11 (.string T) rfl).next hq
  clear hq h1 c0 c1 c2 c3 c4 c5 c6 c7 c8 c9 c10 c11 fr x0 x1 y0 y1 y2 y3 y4 y5 y6 y7 y8 y9
  have h1 := h2
  clear h2
  have c0 := h1.p.cell 0
  have c1 := h1.p.cell 1
  have c2 := h1.p.cell 2
  have c3 := h1.p.cell 3
  have c4 := h1.p.cell 4
  have c5 := h1.p.cell 5
  have c6 := h1.p.cell 6
  have c7 := h1.p.cell 7
  have c8 := h1.p.cell 8
  have c9 := h1.p.cell 9
  have c10 := h1.p.cell 10
  have c11 := h1.p.cell 11
  simp only [List.getElem?_toArray, List.getElem?_cons_zero, List.getElem?_cons_succ] at c0 c1 c2 c3 c4 c5 c6 c7 c8 c9 c10 c11
  have fr := h1.p.frozen
  have x0 := h1.a.cell 0
  have x1 := h1.a.cell 1
  have y0 := h1.b.cell 0
  have y1 := h1.b.cell 1
  have y2 := h1.b.cell 2
  have y3 := h1.b.cell 3
  have y4 := h1.b.cell 4
  have y5 := h1.b.cell 5
  have y6 := h1.b.cell 6
  have y7 := h1.b.cell 7
  have y8 := h1.b.cell 8
  have y9 := h1.b.cell 9
  simp only [List.getElem?_toArray, List.getElem?_cons_zero, List.getElem?_cons_succ] at x0 x1 y0 y1 y2 y3 y4 y5 y6 y7 y8 y9
  go_wp2_with fail
  have hBB := h1.below
  clear h1 c0 c1 c2 c3 c4 c5 c6 c7 c8 c9 c10 c11 fr x0 x1 y0 y1 y2 y3 y4 y5 y6 y7 y8 y9
  refine (H5.out _).mono ?_
  rintro e w5 ⟨rfl, hq⟩
  replace hBB := hBB.trans (hq.mono hBB.size)
  clear hq
  go_wp2_with fail
  refine (H6.out _).mono ?_
  rintro e w6 ⟨rfl, hq⟩
  replace hBB := hBB.trans (hq.mono hBB.size)
  clear hq
  go_wp2_with fail
  refine (H7.out _).mono ?_
  rintro e w7 ⟨rfl, hq⟩
  replace hBB := hBB.trans (hq.mono hBB.size)
  clear hq
  go_wp2_with fail
  refine (H8.out _).mono ?_
  rintro e w8 ⟨rfl, hq⟩
  replace hBB := hBB.trans (hq.mono hBB.size)
  clear hq
  go_wp2_with fail
  refine (fixed_any _).mono ?_
  rintro e wf ⟨rfl, hq⟩
  have hB := hBB.trans (hq.mono hBB.size)
  clear hq
  go_wp2_with fail
  go_ret
  exact ⟨rfl, hB⟩
set_option maxRecDepth 100000 in
set_option maxHeartbeats 1600000 in
theorem portsE6x_ss (src dst : ByteArray) (proto hops cls id flags off label : Int) (opt body : ByteArray) (asrc adst aseq aack aflags awin aurg : Int) (aopt : ByteArray) (anosum : Bool) (bsrc bdst bseq back bflags bwin burg : Int) (bopt : ByteArray) (bnosum : Bool) (w : World) (ab : ByteArray) (hca : ab.size ≤ 300) (bb : ByteArray) (hcb : bb.size ≤ 300) (S T : ByteArray) (U R : ByteArray) (a b : ByteArray) (K : Int) (Y Z : ByteArray) (hy : (Y.toList == Z.toList) = false) (g1 : (asrc == bsrc) = false)
    (A1 : ∀ W, Calls Try.prog 16 #[.agg #[.int .i64 6, .string src, .string dst, .int .i64 proto, .int .i64 hops, .int .i64 cls, .int .i64 id, .int .i64 flags, .int .i64 off, .int .i64 label, .string opt, .string ⟨#[]⟩], .agg #[.int .i64 asrc, .int .i64 adst, .int .u32 aseq, .int .u32 aack, .int .i64 aflags, .int .i64 awin, .int .i64 aurg, .string aopt, .string ab, .bool anosum]] W fun e w' => e = .returned (.tuple #[.string S, .int .i64 0]) ∧ Below W.heap.size W w')
    (A2 : ∀ W, Calls Try.prog 16 #[.agg #[.int .i64 6, .string src, .string dst, .int .i64 proto, .int .i64 hops, .int .i64 cls, .int .i64 id, .int .i64 flags, .int .i64 off, .int .i64 label, .string opt, .string ⟨#[]⟩], .agg #[.int .i64 bsrc, .int .i64 bdst, .int .u32 bseq, .int .u32 back, .int .i64 bflags, .int .i64 bwin, .int .i64 burg, .string bopt, .string bb, .bool bnosum]] W fun e w' => e = .returned (.tuple #[.string T, .int .i64 0]) ∧ Below W.heap.size W w')
    (A3 : ∀ W, Calls Try.prog 17 #[.agg #[.int .i64 6, .string src, .string dst, .int .i64 proto, .int .i64 hops, .int .i64 cls, .int .i64 id, .int .i64 flags, .int .i64 off, .int .i64 label, .string opt, .string S]] W fun e w' => e = .returned (.tuple #[.string U, .int .i64 0]) ∧ Below W.heap.size W w')
    (A4 : ∀ W, Calls Try.prog 17 #[.agg #[.int .i64 6, .string src, .string dst, .int .i64 proto, .int .i64 hops, .int .i64 cls, .int .i64 id, .int .i64 flags, .int .i64 off, .int .i64 label, .string opt, .string T]] W fun e w' => e = .returned (.tuple #[.string R, .int .i64 0]) ∧ Below W.heap.size W w')
    (A5 : ∀ W, Calls Try.prog 18 #[.int .i64 34525, .string U] W fun e w' => e = .returned (.string a) ∧ Below W.heap.size W w')
    (A6 : ∀ W, Calls Try.prog 10 #[.string a] W fun e w' => e = .returned (.agg #[.int .i64 K, .string Y]) ∧ Below W.heap.size W w')
    (A7 : ∀ W, Calls Try.prog 18 #[.int .i64 34525, .string R] W fun e w' => e = .returned (.string b) ∧ Below W.heap.size W w')
    (A8 : ∀ W, Calls Try.prog 10 #[.string b] W fun e w' => e = .returned (.agg #[.int .i64 K, .string Z]) ∧ Below W.heap.size W w') :
    Calls Try.prog 8 #[.agg #[.int .i64 6, .string src, .string dst, .int .i64 proto, .int .i64 hops, .int .i64 cls, .int .i64 id, .int .i64 flags, .int .i64 off, .int .i64 label, .string opt, .string body], .agg #[.int .i64 asrc, .int .i64 adst, .int .u32 aseq, .int .u32 aack, .int .i64 aflags, .int .i64 awin, .int .i64 aurg, .string aopt, .string ab, .bool anosum], .agg #[.int .i64 bsrc, .int .i64 bdst, .int .u32 bseq, .int .u32 back, .int .i64 bflags, .int .i64 bwin, .int .i64 burg, .string bopt, .string bb, .bool bnosum]] w fun e w' => e = .returned (.bool true) ∧ Below w.heap.size w w' := by
  have H1 := Lib.hid A1
  have H2 := Lib.hid A2
  have H3 := Lib.hid A3
  have H4 := Lib.hid A4
  have H5 := Lib.hid A5
  have H6 := Lib.hid A6
  have H7 := Lib.hid A7
  have H8 := Lib.hid A8
  clear A1 A2 A3 A4 A5 A6 A7 A8
  go_enter Try.func8, Try.ntmps8
  go_wp2_with fail
  refine (H1.out _).mono ?_
  rintro e w1 ⟨rfl, hq⟩
  have h1 := (Tri.new w #[.int .i64 6, .string src, .string dst, .int .i64 proto, .int .i64 hops, .int .i64 cls, .int .i64 id, .int .i64 flags, .int .i64 off, .int .i64 label, .string opt, .string ⟨#[]⟩] #[.int .i64 asrc, .int .i64 adst, .int .u32 aseq, .int .u32 aack, .int .i64 aflags, .int .i64 awin, .int .i64 aurg, .string aopt, .string ab, .bool anosum] #[.int .i64 bsrc, .int .i64 bdst, .int .u32 bseq, .int .u32 back, .int .i64 bflags, .int .i64 bwin, .int .i64 burg, .string bopt, .string bb, .bool bnosum]).next hq
  clear hq
  have c0 := h1.p.cell 0
  have c1 := h1.p.cell 1
  have c2 := h1.p.cell 2
  have c3 := h1.p.cell 3
  have c4 := h1.p.cell 4
  have c5 := h1.p.cell 5
  have c6 := h1.p.cell 6
  have c7 := h1.p.cell 7
  have c8 := h1.p.cell 8
  have c9 := h1.p.cell 9
  have c10 := h1.p.cell 10
  have c11 := h1.p.cell 11
  simp only [List.getElem?_toArray, List.getElem?_cons_zero, List.getElem?_cons_succ] at c0 c1 c2 c3 c4 c5 c6 c7 c8 c9 c10 c11
  have fr := h1.p.frozen
  have x0 := h1.a.cell 0
  have x1 := h1.a.cell 1
  have y0 := h1.b.cell 0
  have y1 := h1.b.cell 1
  have y2 := h1.b.cell 2
  have y3 := h1.b.cell 3
  have y4 := h1.b.cell 4
  have y5 := h1.b.cell 5
  have y6 := h1.b.cell 6
  have y7 := h1.b.cell 7
  have y8 := h1.b.cell 8
  have y9 := h1.b.cell 9
  simp only [List.getElem?_toArray, List.getElem?_cons_zero, List.getElem?_cons_succ] at x0 x1 y0 y1 y2 y3 y4 y5 y6 y7 y8 y9
  go_wp2_with fail
  refine (H2.out _).mono ?_
  rintro e w2 ⟨rfl, hq⟩
  have h2 := h1.next hq
  clear hq h1 c0 c1 c2 c3 c4 c5 c6 c7 c8 c9 c10 c11 fr x0 x1 y0 y1 y2 y3 y4 y5 y6 y7 y8 y9
  have h1 := h2
  clear h2
  have c0 := h1.p.cell 0
  have c1 := h1.p.cell 1
  have c2 := h1.p.cell 2
  have c3 := h1.p.cell 3
  have c4 := h1.p.cell 4
  have c5 := h1.p.cell 5
  have c6 := h1.p.cell 6
  have c7 := h1.p.cell 7
  have c8 := h1.p.cell 8
  have c9 := h1.p.cell 9
  have c10 := h1.p.cell 10
  have c11 := h1.p.cell 11
  simp only [List.getElem?_toArray, List.getElem?_cons_zero, List.getElem?_cons_succ] at c0 c1 c2 c3 c4 c5 c6 c7 c8 c9 c10 c11
  have fr := h1.p.frozen
  have x0 := h1.a.cell 0
  have x1 := h1.a.cell 1
  have y0 := h1.b.cell 0
  have y1 := h1.b.cell 1
  have y2 := h1.b.cell 2
  have y3 := h1.b.cell 3
  have y4 := h1.b.cell 4
  have y5 := h1.b.cell 5
  have y6 := h1.b.cell 6
  have y7 := h1.b.cell 7
  have y8 := h1.b.cell 8
  have y9 := h1.b.cell 9
  simp only [List.getElem?_toArray, List.getElem?_cons_zero, List.getElem?_cons_succ] at x0 x1 y0 y1 y2 y3 y4 y5 y6 y7 y8 y9
  go_wp2_with fail
  refine (H3.out _).mono ?_
  rintro e w3 ⟨rfl, hq⟩
  have h2 : Tri w #[.int .i64 6, .string src, .string dst, .int .i64 proto, .int .i64 hops, .int .i64 cls, .int .i64 id, .int .i64 flags, .int .i64 off, .int .i64 label, .string opt, .string S] #[.int .i64 asrc, .int .i64 adst, .int .u32 aseq, .int .u32 aack, .int .i64 aflags, .int .i64 awin, .int .i64 aurg, .string aopt, .string ab, .bool anosum] #[.int .i64 bsrc, .int .i64 bdst, .int .u32 bseq, .int .u32 back, .int .i64 bflags, .int .i64 bwin, .int .i64 burg, .string bopt, .string bb, .bool bnosum] w3 := (h1.put 11 (.string S) rfl).next hq
  clear hq h1 c0 c1 c2 c3 c4 c5 c6 c7 c8 c9 c10 c11 fr x0 x1 y0 y1 y2 y3 y4 y5 y6 y7 y8 y9
  have h1 := h2
  clear h2
  have c0 := h1.p.cell 0
  have c1 := h1.p.cell 1
  have c2 := h1.p.cell 2
  have c3 := h1.p.cell 3
  have c4 := h1.p.cell 4
  have c5 := h1.p.cell 5
  have c6 := h1.p.cell 6
  have c7 := h1.p.cell 7
  have c8 := h1.p.cell 8
  have c9 := h1.p.cell 9
  have c10 := h1.p.cell 10
  have c11 := h1.p.cell 11
  simp only [List.getElem?_toArray, List.getElem?_cons_zero, List.getElem?_cons_succ] at c0 c1 c2 c3 c4 c5 c6 c7 c8 c9 c10 c11
  have fr := h1.p.frozen
  have x0 := h1.a.cell 0
  have x1 := h1.a.cell 1
  have y0 := h1.b.cell 0
  have y1 := h1.b.cell 1
  have y2 := h1.b.cell 2
  have y3 := h1.b.cell 3
  have y4 := h1.b.cell 4
  have y5 := h1.b.cell 5
  have y6 := h1.b.cell 6
  have y7 := h1.b.cell 7
  have y8 := h1.b.cell 8
  have y9 := h1.b.cell 9
  simp only [List.getElem?_toArray, List.getElem?_cons_zero, List.getElem?_cons_succ] at x0 x1 y0 y1 y2 y3 y4 y5 y6 y7 y8 y9
  go_wp2_with fail
  refine (H4.out _).mono ?_
  rintro e w4 ⟨rfl, hq⟩
  have h2 : Tri w #[.int .i64 6, .string src, .string dst, .int .i64 proto, .int .i64 hops, .int .i64 cls, .int .i64 id, .int .i64 flags, .int .i64 off, .int .i64 label, .string opt, .string T] #[.int .i64 asrc, .int .i64 adst, .int .u32 aseq, .int .u32 aack, .int .i64 aflags, .int .i64 awin, .int .i64 aurg, .string aopt, .string ab, .bool anosum] #[.int .i64 bsrc, .int .i64 bdst, .int .u32 bseq, .int .u32 back, .int .i64 bflags, .int .i64 bwin, .int .i64 burg, .string bopt, .string bb, .bool bnosum] w4 := (h1.put 11 (.string T) rfl).next hq
  clear hq h1 c0 c1 c2 c3 c4 c5 c6 c7 c8 c9 c10 c11 fr x0 x1 y0 y1 y2 y3 y4 y5 y6 y7 y8 y9
  have h1 := h2
  clear h2
  have c0 := h1.p.cell 0
  have c1 := h1.p.cell 1
  have c2 := h1.p.cell 2
  have c3 := h1.p.cell 3
  have c4 := h1.p.cell 4
  have c5 := h1.p.cell 5
  have c6 := h1.p.cell 6
  have c7 := h1.p.cell 7
  have c8 := h1.p.cell 8
  have c9 := h1.p.cell 9
  have c10 := h1.p.cell 10
  have c11 := h1.p.cell 11
  simp only [List.getElem?_toArray, List.getElem?_cons_zero, List.getElem?_cons_succ] at c0 c1 c2 c3 c4 c5 c6 c7 c8 c9 c10 c11
  have fr := h1.p.frozen
  have x0 := h1.a.cell 0
  have x1 := h1.a.cell 1
  have y0 := h1.b.cell 0
  have y1 := h1.b.cell 1
  have y2 := h1.b.cell 2
  have y3 := h1.b.cell 3
  have y4 := h1.b.cell 4
  have y5 := h1.b.cell 5
  have y6 := h1.b.cell 6
  have y7 := h1.b.cell 7
  have y8 := h1.b.cell 8
  have y9 := h1.b.cell 9
  simp only [List.getElem?_toArray, List.getElem?_cons_zero, List.getElem?_cons_succ] at x0 x1 y0 y1 y2 y3 y4 y5 y6 y7 y8 y9
  go_wp2_with fail
  have hBB := h1.below
  clear h1 c0 c1 c2 c3 c4 c5 c6 c7 c8 c9 c10 c11 fr x0 x1 y0 y1 y2 y3 y4 y5 y6 y7 y8 y9
  refine (H5.out _).mono ?_
  rintro e w5 ⟨rfl, hq⟩
  replace hBB := hBB.trans (hq.mono hBB.size)
  clear hq
  go_wp2_with fail
  refine (H6.out _).mono ?_
  rintro e w6 ⟨rfl, hq⟩
  replace hBB := hBB.trans (hq.mono hBB.size)
  clear hq
  go_wp2_with fail
  refine (H7.out _).mono ?_
  rintro e w7 ⟨rfl, hq⟩
  replace hBB := hBB.trans (hq.mono hBB.size)
  clear hq
  go_wp2_with fail
  refine (H8.out _).mono ?_
  rintro e w8 ⟨rfl, hq⟩
  replace hBB := hBB.trans (hq.mono hBB.size)
  clear hq
  go_wp2_with fail
  refine (fixed_any _).mono ?_
  rintro e wf ⟨rfl, hq⟩
  have hB := hBB.trans (hq.mono hBB.size)
  clear hq
  go_wp2_with fail
  go_ret
  exact ⟨rfl, hB⟩
set_option maxRecDepth 100000 in
set_option maxHeartbeats 1600000 in
theorem portsE6y_ss (src dst : ByteArray) (proto hops cls id flags off label : Int) (opt body : ByteArray) (asrc adst aseq aack aflags awin aurg : Int) (aopt : ByteArray) (anosum : Bool) (bsrc bdst bseq back bflags bwin burg : Int) (bopt : ByteArray) (bnosum : Bool) (w : World) (ab : ByteArray) (hca : ab.size ≤ 300) (bb : ByteArray) (hcb : bb.size ≤ 300) (S T : ByteArray) (U R : ByteArray) (a b : ByteArray) (K : Int) (Y Z : ByteArray) (hy : (Y.toList == Z.toList) = false) (g1 : (asrc == bsrc) = true) (g2 : (adst == bdst) = false)
    (A1 : ∀ W, Calls Try.prog 16 #[.agg #[.int .i64 6, .string src, .string dst, .int .i64 proto, .int .i64 hops, .int .i64 cls, .int .i64 id, .int .i64 flags, .int .i64 off, .int .i64 label, .string opt, .string ⟨#[]⟩], .agg #[.int .i64 asrc, .int .i64 adst, .int .u32 aseq, .int .u32 aack, .int .i64 aflags, .int .i64 awin, .int .i64 aurg, .string aopt, .string ab, .bool anosum]] W fun e w' => e = .returned (.tuple #[.string S, .int .i64 0]) ∧ Below W.heap.size W w')
    (A2 : ∀ W, Calls Try.prog 16 #[.agg #[.int .i64 6, .string src, .string dst, .int .i64 proto, .int .i64 hops, .int .i64 cls, .int .i64 id, .int .i64 flags, .int .i64 off, .int .i64 label, .string opt, .string ⟨#[]⟩], .agg #[.int .i64 bsrc, .int .i64 bdst, .int .u32 bseq, .int .u32 back, .int .i64 bflags, .int .i64 bwin, .int .i64 burg, .string bopt, .string bb, .bool bnosum]] W fun e w' => e = .returned (.tuple #[.string T, .int .i64 0]) ∧ Below W.heap.size W w')
    (A3 : ∀ W, Calls Try.prog 17 #[.agg #[.int .i64 6, .string src, .string dst, .int .i64 proto, .int .i64 hops, .int .i64 cls, .int .i64 id, .int .i64 flags, .int .i64 off, .int .i64 label, .string opt, .string S]] W fun e w' => e = .returned (.tuple #[.string U, .int .i64 0]) ∧ Below W.heap.size W w')
    (A4 : ∀ W, Calls Try.prog 17 #[.agg #[.int .i64 6, .string src, .string dst, .int .i64 proto, .int .i64 hops, .int .i64 cls, .int .i64 id, .int .i64 flags, .int .i64 off, .int .i64 label, .string opt, .string T]] W fun e w' => e = .returned (.tuple #[.string R, .int .i64 0]) ∧ Below W.heap.size W w')
    (A5 : ∀ W, Calls Try.prog 18 #[.int .i64 34525, .string U] W fun e w' => e = .returned (.string a) ∧ Below W.heap.size W w')
    (A6 : ∀ W, Calls Try.prog 10 #[.string a] W fun e w' => e = .returned (.agg #[.int .i64 K, .string Y]) ∧ Below W.heap.size W w')
    (A7 : ∀ W, Calls Try.prog 18 #[.int .i64 34525, .string R] W fun e w' => e = .returned (.string b) ∧ Below W.heap.size W w')
    (A8 : ∀ W, Calls Try.prog 10 #[.string b] W fun e w' => e = .returned (.agg #[.int .i64 K, .string Z]) ∧ Below W.heap.size W w') :
    Calls Try.prog 8 #[.agg #[.int .i64 6, .string src, .string dst, .int .i64 proto, .int .i64 hops, .int .i64 cls, .int .i64 id, .int .i64 flags, .int .i64 off, .int .i64 label, .string opt, .string body], .agg #[.int .i64 asrc, .int .i64 adst, .int .u32 aseq, .int .u32 aack, .int .i64 aflags, .int .i64 awin, .int .i64 aurg, .string aopt, .string ab, .bool anosum], .agg #[.int .i64 bsrc, .int .i64 bdst, .int .u32 bseq, .int .u32 back, .int .i64 bflags, .int .i64 bwin, .int .i64 burg, .string bopt, .string bb, .bool bnosum]] w fun e w' => e = .returned (.bool true) ∧ Below w.heap.size w w' := by
  have H1 := Lib.hid A1
  have H2 := Lib.hid A2
  have H3 := Lib.hid A3
  have H4 := Lib.hid A4
  have H5 := Lib.hid A5
  have H6 := Lib.hid A6
  have H7 := Lib.hid A7
  have H8 := Lib.hid A8
  clear A1 A2 A3 A4 A5 A6 A7 A8
  go_enter Try.func8, Try.ntmps8
  go_wp2_with fail
  refine (H1.out _).mono ?_
  rintro e w1 ⟨rfl, hq⟩
  have h1 := (Tri.new w #[.int .i64 6, .string src, .string dst, .int .i64 proto, .int .i64 hops, .int .i64 cls, .int .i64 id, .int .i64 flags, .int .i64 off, .int .i64 label, .string opt, .string ⟨#[]⟩] #[.int .i64 asrc, .int .i64 adst, .int .u32 aseq, .int .u32 aack, .int .i64 aflags, .int .i64 awin, .int .i64 aurg, .string aopt, .string ab, .bool anosum] #[.int .i64 bsrc, .int .i64 bdst, .int .u32 bseq, .int .u32 back, .int .i64 bflags, .int .i64 bwin, .int .i64 burg, .string bopt, .string bb, .bool bnosum]).next hq
  clear hq
  have c0 := h1.p.cell 0
  have c1 := h1.p.cell 1
  have c2 := h1.p.cell 2
  have c3 := h1.p.cell 3
  have c4 := h1.p.cell 4
  have c5 := h1.p.cell 5
  have c6 := h1.p.cell 6
  have c7 := h1.p.cell 7
  have c8 := h1.p.cell 8
  have c9 := h1.p.cell 9
  have c10 := h1.p.cell 10
  have c11 := h1.p.cell 11
  simp only [List.getElem?_toArray, List.getElem?_cons_zero, List.getElem?_cons_succ] at c0 c1 c2 c3 c4 c5 c6 c7 c8 c9 c10 c11
  have fr := h1.p.frozen
  have x0 := h1.a.cell 0
  have x1 := h1.a.cell 1
  have y0 := h1.b.cell 0
  have y1 := h1.b.cell 1
  have y2 := h1.b.cell 2
  have y3 := h1.b.cell 3
  have y4 := h1.b.cell 4
  have y5 := h1.b.cell 5
  have y6 := h1.b.cell 6
  have y7 := h1.b.cell 7
  have y8 := h1.b.cell 8
  have y9 := h1.b.cell 9
  simp only [List.getElem?_toArray, List.getElem?_cons_zero, List.getElem?_cons_succ] at x0 x1 y0 y1 y2 y3 y4 y5 y6 y7 y8 y9
  go_wp2_with fail
  refine (H2.out _).mono ?_
  rintro e w2 ⟨rfl, hq⟩
  have h2 := h1.next hq
  clear hq h1 c0 c1 c2 c3 c4 c5 c6 c7 c8 c9 c10 c11 fr x0 x1 y0 y1 y2 y3 y4 y5 y6 y7 y8 y9
  have h1 := h2
  clear h2
  have c0 := h1.p.cell 0
  have c1 := h1.p.cell 1
  have c2 := h1.p.cell 2
  have c3 := h1.p.cell 3
  have c4 := h1.p.cell 4
  have c5 := h1.p.cell 5
  have c6 := h1.p.cell 6
  have c7 := h1.p.cell 7
  have c8 := h1.p.cell 8
  have c9 := h1.p.cell 9
  have c10 := h1.p.cell 10
  have c11 := h1.p.cell 11
  simp only [List.getElem?_toArray, List.getElem?_cons_zero, List.getElem?_cons_succ] at c0 c1 c2 c3 c4 c5 c6 c7 c8 c9 c10 c11
  have fr := h1.p.frozen
  have x0 := h1.a.cell 0
  have x1 := h1.a.cell 1
  have y0 := h1.b.cell 0
  have y1 := h1.b.cell 1
  have y2 := h1.b.cell 2
  have y3 := h1.b.cell 3
  have y4 := h1.b.cell 4
  have y5 := h1.b.cell 5
  have y6 := h1.b.cell 6
  have y7 := h1.b.cell 7
  have y8 := h1.b.cell 8
  have y9 := h1.b.cell 9
  simp only [List.getElem?_toArray, List.getElem?_cons_zero, List.getElem?_cons_succ] at x0 x1 y0 y1 y2 y3 y4 y5 y6 y7 y8 y9
  go_wp2_with fail
  refine (H3.out _).mono ?_
  rintro e w3 ⟨rfl, hq⟩
  have h2 : Tri w #[.int .i64 6, .string src, .string dst, .int .i64 proto, .int .i64 hops, .int .i64 cls, .int .i64 id, .int .i64 flags, .int .i64 off, .int .i64 label, .string opt, .string S] #[.int .i64 asrc, .int .i64 adst, .int .u32 aseq, .int .u32 aack, .int .i64 aflags, .int .i64 awin, .int .i64 aurg, .string aopt, .string ab, .bool anosum] #[.int .i64 bsrc, .int .i64 bdst, .int .u32 bseq, .int .u32 back, .int .i64 bflags, .int .i64 bwin, .int .i64 burg, .string bopt, .string bb, .bool bnosum] w3 := (h1.put 11 (.string S) rfl).next hq
  clear hq h1 c0 c1 c2 c3 c4 c5 c6 c7 c8 c9 c10 c11 fr x0 x1 y0 y1 y2 y3 y4 y5 y6 y7 y8 y9
  have h1 := h2
  clear h2
  have c0 := h1.p.cell 0
  have c1 := h1.p.cell 1
  have c2 := h1.p.cell 2
  have c3 := h1.p.cell 3
  have c4 := h1.p.cell 4
  have c5 := h1.p.cell 5
  have c6 := h1.p.cell 6
  have c7 := h1.p.cell 7
  have c8 := h1.p.cell 8
  have c9 := h1.p.cell 9
  have c10 := h1.p.cell 10
  have c11 := h1.p.cell 11
  simp only [List.getElem?_toArray, List.getElem?_cons_zero, List.getElem?_cons_succ] at c0 c1 c2 c3 c4 c5 c6 c7 c8 c9 c10 c11
  have fr := h1.p.frozen
  have x0 := h1.a.cell 0
  have x1 := h1.a.cell 1
  have y0 := h1.b.cell 0
  have y1 := h1.b.cell 1
  have y2 := h1.b.cell 2
  have y3 := h1.b.cell 3
  have y4 := h1.b.cell 4
  have y5 := h1.b.cell 5
  have y6 := h1.b.cell 6
  have y7 := h1.b.cell 7
  have y8 := h1.b.cell 8
  have y9 := h1.b.cell 9
  simp only [List.getElem?_toArray, List.getElem?_cons_zero, List.getElem?_cons_succ] at x0 x1 y0 y1 y2 y3 y4 y5 y6 y7 y8 y9
  go_wp2_with fail
  refine (H4.out _).mono ?_
  rintro e w4 ⟨rfl, hq⟩
  have h2 : Tri w #[.int .i64 6, .string src, .string dst, .int .i64 proto, .int .i64 hops, .int .i64 cls, .int .i64 id, .int .i64 flags, .int .i64 off, .int .i64 label, .string opt, .string T] #[.int .i64 asrc, .int .i64 adst, .int .u32 aseq, .int .u32 aack, .int .i64 aflags, .int .i64 awin, .int .i64 aurg, .string aopt, .string ab, .bool anosum] #[.int .i64 bsrc, .int .i64 bdst, .int .u32 bseq, .int .u32 back, .int .i64 bflags, .int .i64 bwin, .int .i64 burg, .string bopt, .string bb, .bool bnosum] w4 := (h1.put 11 (.string T) rfl).next hq
  clear hq h1 c0 c1 c2 c3 c4 c5 c6 c7 c8 c9 c10 c11 fr x0 x1 y0 y1 y2 y3 y4 y5 y6 y7 y8 y9
  have h1 := h2
  clear h2
  have c0 := h1.p.cell 0
  have c1 := h1.p.cell 1
  have c2 := h1.p.cell 2
  have c3 := h1.p.cell 3
  have c4 := h1.p.cell 4
  have c5 := h1.p.cell 5
  have c6 := h1.p.cell 6
  have c7 := h1.p.cell 7
  have c8 := h1.p.cell 8
  have c9 := h1.p.cell 9
  have c10 := h1.p.cell 10
  have c11 := h1.p.cell 11
  simp only [List.getElem?_toArray, List.getElem?_cons_zero, List.getElem?_cons_succ] at c0 c1 c2 c3 c4 c5 c6 c7 c8 c9 c10 c11
  have fr := h1.p.frozen
  have x0 := h1.a.cell 0
  have x1 := h1.a.cell 1
  have y0 := h1.b.cell 0
  have y1 := h1.b.cell 1
  have y2 := h1.b.cell 2
  have y3 := h1.b.cell 3
  have y4 := h1.b.cell 4
  have y5 := h1.b.cell 5
  have y6 := h1.b.cell 6
  have y7 := h1.b.cell 7
  have y8 := h1.b.cell 8
  have y9 := h1.b.cell 9
  simp only [List.getElem?_toArray, List.getElem?_cons_zero, List.getElem?_cons_succ] at x0 x1 y0 y1 y2 y3 y4 y5 y6 y7 y8 y9
  go_wp2_with fail
  have hBB := h1.below
  clear h1 c0 c1 c2 c3 c4 c5 c6 c7 c8 c9 c10 c11 fr x0 x1 y0 y1 y2 y3 y4 y5 y6 y7 y8 y9
  refine (H5.out _).mono ?_
  rintro e w5 ⟨rfl, hq⟩
  replace hBB := hBB.trans (hq.mono hBB.size)
  clear hq
  go_wp2_with fail
  refine (H6.out _).mono ?_
  rintro e w6 ⟨rfl, hq⟩
  replace hBB := hBB.trans (hq.mono hBB.size)
  clear hq
  go_wp2_with fail
  refine (H7.out _).mono ?_
  rintro e w7 ⟨rfl, hq⟩
  replace hBB := hBB.trans (hq.mono hBB.size)
  clear hq
  go_wp2_with fail
  refine (H8.out _).mono ?_
  rintro e w8 ⟨rfl, hq⟩
  replace hBB := hBB.trans (hq.mono hBB.size)
  clear hq
  go_wp2_with fail
  refine (fixed_any _).mono ?_
  rintro e wf ⟨rfl, hq⟩
  have hB := hBB.trans (hq.mono hBB.size)
  clear hq
  go_wp2_with fail
  go_ret
  exact ⟨rfl, hB⟩
end Go.Proofs.Ytpelohmondhiiaa
