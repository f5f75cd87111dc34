/-
  The document's Offload.
-/
import Derived.Test.YtalkpllmcigjnaaMm
import Derived.Test.YtalkpllmcigjnaaMr
import Derived.Test.YtalkpllmcigjnaaMg
import Derived.Test.YtalkpllmcigjnaaMf
import Derived.Test.YtalkpllmcigjnaaMa
import Derived.Deep.RegionHeld3
namespace Go.Proofs.Ytalkpllmcigjnaa
open Go.RowKit

theorem ro_results (w : World) (tmps : Array Value) (gf : Nat) {x : ByteArray} (h2 : tmps[2]?.getD undef = .pointer (some ⟨gf, 0, none⟩)) (h3 : tmps[3]?.getD undef = .string x) (h : Hd)
    (hF : Blk w gf 23 (hdL h)) : (results Try.f18 tmps).run Try.prog w = .ok (.tuple #[.agg (hdL h), .string x]) w := by
  have c0 := hF.cell 0
  have c1 := hF.cell 1
  have c2 := hF.cell 2
  have c3 := hF.cell 3
  have c4 := hF.cell 4
  have c5 := hF.cell 5
  have c6 := hF.cell 6
  simp only [hdL] at c0 c1 c2 c3 c4 c5 c6
  simp [results, Try.results18, go_sem, h2, h3, c0, c1, c2, c3, c4, c5, c6, hdL]
set_option maxRecDepth 100000 in
set_option maxHeartbeats 6400000 in
theorem ro_no (s : ByteArray) (w : World) (d r : ByteArray) (vl pr ty : Int) (b : ByteArray) (v : Int) (src dst : ByteArray) (proto hops cls id flags off label : Int) (opt body : ByteArray) (gsrc gdst gseq gack gflags gwin gurgent : Int) (gopt gbody : ByteArray) (ns : Bool) (E G H : Int) (e0 g0 h0 b4 v4 b6 v6 : Bool) (k1 : (E == 0) = e0) (k2 : (G == 0) = g0) (k3 : (H == 0) = h0) (k4 : (ty == 2048) = b4) (k5 : (v == 4) = v4) (k6 : (ty == 34525) = b6) (k7 : (v == 6) = v6) (hval : (e0 && g0 && h0 && !ns && (b4 && v4 || b6 && v6)) = false)
    (A34 : ∀ W, Calls Try.prog 34 #[.string s] W fun e w' => e = .returned (.tuple #[.agg #[.string d, .string r, .int .i64 vl, .int .i64 pr, .int .i64 ty, .string b], .int .i64 E]) ∧ Below W.heap.size W w') 
    (A35 : ∀ W, Calls Try.prog 35 #[.string b] W fun e w' => e = .returned (.tuple #[.agg #[.int .i64 v, .string src, .string dst, .int .i64 proto, .int .i64 hops, .int .i64 cls, .int .i64 id, .int .i64 flags, .int .i64 off, .int .i64 label, .string opt, .string body], .int .i64 G]) ∧ Below W.heap.size W w') 
    (A36 : ∀ W, Calls Try.prog 36 #[.agg #[.int .i64 v, .string src, .string dst, .int .i64 proto, .int .i64 hops, .int .i64 cls, .int .i64 id, .int .i64 flags, .int .i64 off, .int .i64 label, .string opt, .string body]] W fun e w' => e = .returned (.tuple #[.agg #[.int .i64 gsrc, .int .i64 gdst, .int .u32 gseq, .int .u32 gack, .int .i64 gflags, .int .i64 gwin, .int .i64 gurgent, .string gopt, .string gbody, .bool ns], .int .i64 H]) ∧ Below W.heap.size W w')  : Calls Try.prog 18 #[.string s] w (OffIs w .zero s) := by
  have H34 := Lib.hid A34
  have H35 := Lib.hid A35
  have H36 := Lib.hid A36
  clear A34 A35 A36
  cases e0
  · go_enter Try.func18, Try.ntmps18
    go_wp2_with fail
    refine (H34.out _).mono ?_
    rintro e w1 ⟨rfl, hq⟩
    have hS1 := (Held.new w 23 #[.int .i64 0, .int .i64 0, .int .i64 0, .int .i64 0, .int .i64 0, .int .i64 0, .int .i64 0]).next hq
    have hz1 := hS1.blk.lt
    clear hq
    go_wp2_with fail
    refine (H35.out _).mono ?_
    rintro e w2 ⟨rfl, hq⟩
    have hS2 : Held w 23 #[.int .i64 0, .int .i64 0, .int .i64 0, .int .i64 0, .int .i64 0, .int .i64 0, .int .i64 0] w2 := ⟨(hS1.blk.alloc _).same (hq.block _ (by simp; omega)), (hS1.below.alloc (by omega) _).trans (hq.mono (by simp; omega))⟩
    have hE2 : Blk w2 w1.heap.size 44 #[.string d, .string r, .int .i64 vl, .int .i64 pr, .int .i64 ty, .string b] := (Blk.new w1 44 _).same (hq.block _ (by simp))
    have hzE := hE2.lt
    clear hq hS1
    go_wp2_with fail
    refine (H36.out _).mono ?_
    rintro e w3 ⟨rfl, hq⟩
    have hS : Held w 23 #[.int .i64 0, .int .i64 0, .int .i64 0, .int .i64 0, .int .i64 0, .int .i64 0, .int .i64 0] w3 := ⟨(hS2.blk.alloc _).same (hq.block _ (by simp; omega)), (hS2.below.alloc (by omega) _).trans (hq.mono (by simp; omega))⟩
    have hE : Blk w3 w1.heap.size 44 #[.string d, .string r, .int .i64 vl, .int .i64 pr, .int .i64 ty, .string b] := (hE2.alloc _).same (hq.block _ (by simp; omega))
    have hP : Blk w3 w2.heap.size 36 #[.int .i64 v, .string src, .string dst, .int .i64 proto, .int .i64 hops, .int .i64 cls, .int .i64 id, .int .i64 flags, .int .i64 off, .int .i64 label, .string opt, .string body] := (Blk.new w2 36 _).same (hq.block _ (by simp))
    clear hq hS2 hE2
    have f4 : w3.cell? ⟨w1.heap.size, 4, none⟩ = some (.int .i64 ty) := hE.cell 4
    have p0 : w3.cell? ⟨w2.heap.size, 0, none⟩ = some (.int .i64 v) := hP.cell 0
    have r0 : w3.cell? ⟨w.heap.size, 0, none⟩ = some (.int .i64 0) := hS.blk.cell 0
    have r1 : w3.cell? ⟨w.heap.size, 1, none⟩ = some (.int .i64 0) := hS.blk.cell 1
    have r2 : w3.cell? ⟨w.heap.size, 2, none⟩ = some (.int .i64 0) := hS.blk.cell 2
    have r3 : w3.cell? ⟨w.heap.size, 3, none⟩ = some (.int .i64 0) := hS.blk.cell 3
    have r4 : w3.cell? ⟨w.heap.size, 4, none⟩ = some (.int .i64 0) := hS.blk.cell 4
    have r5 : w3.cell? ⟨w.heap.size, 5, none⟩ = some (.int .i64 0) := hS.blk.cell 5
    have r6 : w3.cell? ⟨w.heap.size, 6, none⟩ = some (.int .i64 0) := hS.blk.cell 6
    have fr := hS.blk.frozen
    have hz := hS.blk.lt
    have hzf := hE.lt
    have hzp := hP.lt
    have hB := hS.below
    have hne0 : w.heap.size ≠ w3.heap.size := by omega
    have hne1 : w1.heap.size ≠ w3.heap.size := by omega
    have hne2 : w2.heap.size ≠ w3.heap.size := by omega
    go_wp2_with fail
    exact bodyPost_ret (v := .tuple #[.agg (hdL .zero), .string s]) (ro_results _ _ w.heap.size rfl rfl .zero ((set7 hS.blk (.int .i64 0) (.int .i64 0) (.int .i64 0) (.int .i64 0) (.int .i64 0) (.int .i64 0) (.int .i64 0)).alloc _)) rfl ⟨rfl, (below7 hB (Nat.le_refl _) (.int .i64 0) (.int .i64 0) (.int .i64 0) (.int .i64 0) (.int .i64 0) (.int .i64 0) (.int .i64 0)).alloc (by simp; omega) _⟩
  · cases g0
    · go_enter Try.func18, Try.ntmps18
      go_wp2_with fail
      refine (H34.out _).mono ?_
      rintro e w1 ⟨rfl, hq⟩
      have hS1 := (Held.new w 23 #[.int .i64 0, .int .i64 0, .int .i64 0, .int .i64 0, .int .i64 0, .int .i64 0, .int .i64 0]).next hq
      have hz1 := hS1.blk.lt
      clear hq
      go_wp2_with fail
      refine (H35.out _).mono ?_
      rintro e w2 ⟨rfl, hq⟩
      have hS2 : Held w 23 #[.int .i64 0, .int .i64 0, .int .i64 0, .int .i64 0, .int .i64 0, .int .i64 0, .int .i64 0] w2 := ⟨(hS1.blk.alloc _).same (hq.block _ (by simp; omega)), (hS1.below.alloc (by omega) _).trans (hq.mono (by simp; omega))⟩
      have hE2 : Blk w2 w1.heap.size 44 #[.string d, .string r, .int .i64 vl, .int .i64 pr, .int .i64 ty, .string b] := (Blk.new w1 44 _).same (hq.block _ (by simp))
      have hzE := hE2.lt
      clear hq hS1
      go_wp2_with fail
      refine (H36.out _).mono ?_
      rintro e w3 ⟨rfl, hq⟩
      have hS : Held w 23 #[.int .i64 0, .int .i64 0, .int .i64 0, .int .i64 0, .int .i64 0, .int .i64 0, .int .i64 0] w3 := ⟨(hS2.blk.alloc _).same (hq.block _ (by simp; omega)), (hS2.below.alloc (by omega) _).trans (hq.mono (by simp; omega))⟩
      have hE : Blk w3 w1.heap.size 44 #[.string d, .string r, .int .i64 vl, .int .i64 pr, .int .i64 ty, .string b] := (hE2.alloc _).same (hq.block _ (by simp; omega))
      have hP : Blk w3 w2.heap.size 36 #[.int .i64 v, .string src, .string dst, .int .i64 proto, .int .i64 hops, .int .i64 cls, .int .i64 id, .int .i64 flags, .int .i64 off, .int .i64 label, .string opt, .string body] := (Blk.new w2 36 _).same (hq.block _ (by simp))
      clear hq hS2 hE2
      have f4 : w3.cell? ⟨w1.heap.size, 4, none⟩ = some (.int .i64 ty) := hE.cell 4
      have p0 : w3.cell? ⟨w2.heap.size, 0, none⟩ = some (.int .i64 v) := hP.cell 0
      have r0 : w3.cell? ⟨w.heap.size, 0, none⟩ = some (.int .i64 0) := hS.blk.cell 0
      have r1 : w3.cell? ⟨w.heap.size, 1, none⟩ = some (.int .i64 0) := hS.blk.cell 1
      have r2 : w3.cell? ⟨w.heap.size, 2, none⟩ = some (.int .i64 0) := hS.blk.cell 2
      have r3 : w3.cell? ⟨w.heap.size, 3, none⟩ = some (.int .i64 0) := hS.blk.cell 3
      have r4 : w3.cell? ⟨w.heap.size, 4, none⟩ = some (.int .i64 0) := hS.blk.cell 4
      have r5 : w3.cell? ⟨w.heap.size, 5, none⟩ = some (.int .i64 0) := hS.blk.cell 5
      have r6 : w3.cell? ⟨w.heap.size, 6, none⟩ = some (.int .i64 0) := hS.blk.cell 6
      have fr := hS.blk.frozen
      have hz := hS.blk.lt
      have hzf := hE.lt
      have hzp := hP.lt
      have hB := hS.below
      have hne0 : w.heap.size ≠ w3.heap.size := by omega
      have hne1 : w1.heap.size ≠ w3.heap.size := by omega
      have hne2 : w2.heap.size ≠ w3.heap.size := by omega
      go_wp2_with fail
      exact bodyPost_ret (v := .tuple #[.agg (hdL .zero), .string s]) (ro_results _ _ w.heap.size rfl rfl .zero ((set7 hS.blk (.int .i64 0) (.int .i64 0) (.int .i64 0) (.int .i64 0) (.int .i64 0) (.int .i64 0) (.int .i64 0)).alloc _)) rfl ⟨rfl, (below7 hB (Nat.le_refl _) (.int .i64 0) (.int .i64 0) (.int .i64 0) (.int .i64 0) (.int .i64 0) (.int .i64 0) (.int .i64 0)).alloc (by simp; omega) _⟩
    · cases h0
      · go_enter Try.func18, Try.ntmps18
        go_wp2_with fail
        refine (H34.out _).mono ?_
        rintro e w1 ⟨rfl, hq⟩
        have hS1 := (Held.new w 23 #[.int .i64 0, .int .i64 0, .int .i64 0, .int .i64 0, .int .i64 0, .int .i64 0, .int .i64 0]).next hq
        have hz1 := hS1.blk.lt
        clear hq
        go_wp2_with fail
        refine (H35.out _).mono ?_
        rintro e w2 ⟨rfl, hq⟩
        have hS2 : Held w 23 #[.int .i64 0, .int .i64 0, .int .i64 0, .int .i64 0, .int .i64 0, .int .i64 0, .int .i64 0] w2 := ⟨(hS1.blk.alloc _).same (hq.block _ (by simp; omega)), (hS1.below.alloc (by omega) _).trans (hq.mono (by simp; omega))⟩
        have hE2 : Blk w2 w1.heap.size 44 #[.string d, .string r, .int .i64 vl, .int .i64 pr, .int .i64 ty, .string b] := (Blk.new w1 44 _).same (hq.block _ (by simp))
        have hzE := hE2.lt
        clear hq hS1
        go_wp2_with fail
        refine (H36.out _).mono ?_
        rintro e w3 ⟨rfl, hq⟩
        have hS : Held w 23 #[.int .i64 0, .int .i64 0, .int .i64 0, .int .i64 0, .int .i64 0, .int .i64 0, .int .i64 0] w3 := ⟨(hS2.blk.alloc _).same (hq.block _ (by simp; omega)), (hS2.below.alloc (by omega) _).trans (hq.mono (by simp; omega))⟩
        have hE : Blk w3 w1.heap.size 44 #[.string d, .string r, .int .i64 vl, .int .i64 pr, .int .i64 ty, .string b] := (hE2.alloc _).same (hq.block _ (by simp; omega))
        have hP : Blk w3 w2.heap.size 36 #[.int .i64 v, .string src, .string dst, .int .i64 proto, .int .i64 hops, .int .i64 cls, .int .i64 id, .int .i64 flags, .int .i64 off, .int .i64 label, .string opt, .string body] := (Blk.new w2 36 _).same (hq.block _ (by simp))
        clear hq hS2 hE2
        have f4 : w3.cell? ⟨w1.heap.size, 4, none⟩ = some (.int .i64 ty) := hE.cell 4
        have p0 : w3.cell? ⟨w2.heap.size, 0, none⟩ = some (.int .i64 v) := hP.cell 0
        have r0 : w3.cell? ⟨w.heap.size, 0, none⟩ = some (.int .i64 0) := hS.blk.cell 0
        have r1 : w3.cell? ⟨w.heap.size, 1, none⟩ = some (.int .i64 0) := hS.blk.cell 1
        have r2 : w3.cell? ⟨w.heap.size, 2, none⟩ = some (.int .i64 0) := hS.blk.cell 2
        have r3 : w3.cell? ⟨w.heap.size, 3, none⟩ = some (.int .i64 0) := hS.blk.cell 3
        have r4 : w3.cell? ⟨w.heap.size, 4, none⟩ = some (.int .i64 0) := hS.blk.cell 4
        have r5 : w3.cell? ⟨w.heap.size, 5, none⟩ = some (.int .i64 0) := hS.blk.cell 5
        have r6 : w3.cell? ⟨w.heap.size, 6, none⟩ = some (.int .i64 0) := hS.blk.cell 6
        have fr := hS.blk.frozen
        have hz := hS.blk.lt
        have hzf := hE.lt
        have hzp := hP.lt
        have hB := hS.below
        have hne0 : w.heap.size ≠ w3.heap.size := by omega
        have hne1 : w1.heap.size ≠ w3.heap.size := by omega
        have hne2 : w2.heap.size ≠ w3.heap.size := by omega
        go_wp2_with fail
        exact bodyPost_ret (v := .tuple #[.agg (hdL .zero), .string s]) (ro_results _ _ w.heap.size rfl rfl .zero ((set7 hS.blk (.int .i64 0) (.int .i64 0) (.int .i64 0) (.int .i64 0) (.int .i64 0) (.int .i64 0) (.int .i64 0)).alloc _)) rfl ⟨rfl, (below7 hB (Nat.le_refl _) (.int .i64 0) (.int .i64 0) (.int .i64 0) (.int .i64 0) (.int .i64 0) (.int .i64 0) (.int .i64 0)).alloc (by simp; omega) _⟩
      · cases ns
        · cases b4
          · cases b6
            · go_enter Try.func18, Try.ntmps18
              go_wp2_with fail
              refine (H34.out _).mono ?_
              rintro e w1 ⟨rfl, hq⟩
              have hS1 := (Held.new w 23 #[.int .i64 0, .int .i64 0, .int .i64 0, .int .i64 0, .int .i64 0, .int .i64 0, .int .i64 0]).next hq
              have hz1 := hS1.blk.lt
              clear hq
              go_wp2_with fail
              refine (H35.out _).mono ?_
              rintro e w2 ⟨rfl, hq⟩
              have hS2 : Held w 23 #[.int .i64 0, .int .i64 0, .int .i64 0, .int .i64 0, .int .i64 0, .int .i64 0, .int .i64 0] w2 := ⟨(hS1.blk.alloc _).same (hq.block _ (by simp; omega)), (hS1.below.alloc (by omega) _).trans (hq.mono (by simp; omega))⟩
              have hE2 : Blk w2 w1.heap.size 44 #[.string d, .string r, .int .i64 vl, .int .i64 pr, .int .i64 ty, .string b] := (Blk.new w1 44 _).same (hq.block _ (by simp))
              have hzE := hE2.lt
              clear hq hS1
              go_wp2_with fail
              refine (H36.out _).mono ?_
              rintro e w3 ⟨rfl, hq⟩
              have hS : Held w 23 #[.int .i64 0, .int .i64 0, .int .i64 0, .int .i64 0, .int .i64 0, .int .i64 0, .int .i64 0] w3 := ⟨(hS2.blk.alloc _).same (hq.block _ (by simp; omega)), (hS2.below.alloc (by omega) _).trans (hq.mono (by simp; omega))⟩
              have hE : Blk w3 w1.heap.size 44 #[.string d, .string r, .int .i64 vl, .int .i64 pr, .int .i64 ty, .string b] := (hE2.alloc _).same (hq.block _ (by simp; omega))
              have hP : Blk w3 w2.heap.size 36 #[.int .i64 v, .string src, .string dst, .int .i64 proto, .int .i64 hops, .int .i64 cls, .int .i64 id, .int .i64 flags, .int .i64 off, .int .i64 label, .string opt, .string body] := (Blk.new w2 36 _).same (hq.block _ (by simp))
              clear hq hS2 hE2
              have f4 : w3.cell? ⟨w1.heap.size, 4, none⟩ = some (.int .i64 ty) := hE.cell 4
              have p0 : w3.cell? ⟨w2.heap.size, 0, none⟩ = some (.int .i64 v) := hP.cell 0
              have r0 : w3.cell? ⟨w.heap.size, 0, none⟩ = some (.int .i64 0) := hS.blk.cell 0
              have r1 : w3.cell? ⟨w.heap.size, 1, none⟩ = some (.int .i64 0) := hS.blk.cell 1
              have r2 : w3.cell? ⟨w.heap.size, 2, none⟩ = some (.int .i64 0) := hS.blk.cell 2
              have r3 : w3.cell? ⟨w.heap.size, 3, none⟩ = some (.int .i64 0) := hS.blk.cell 3
              have r4 : w3.cell? ⟨w.heap.size, 4, none⟩ = some (.int .i64 0) := hS.blk.cell 4
              have r5 : w3.cell? ⟨w.heap.size, 5, none⟩ = some (.int .i64 0) := hS.blk.cell 5
              have r6 : w3.cell? ⟨w.heap.size, 6, none⟩ = some (.int .i64 0) := hS.blk.cell 6
              have fr := hS.blk.frozen
              have hz := hS.blk.lt
              have hzf := hE.lt
              have hzp := hP.lt
              have hB := hS.below
              have hne0 : w.heap.size ≠ w3.heap.size := by omega
              have hne1 : w1.heap.size ≠ w3.heap.size := by omega
              have hne2 : w2.heap.size ≠ w3.heap.size := by omega
              go_wp2_with fail
              exact bodyPost_ret (v := .tuple #[.agg (hdL .zero), .string s]) (ro_results _ _ w.heap.size rfl rfl .zero ((set7 hS.blk (.int .i64 0) (.int .i64 0) (.int .i64 0) (.int .i64 0) (.int .i64 0) (.int .i64 0) (.int .i64 0)).alloc _)) rfl ⟨rfl, (below7 hB (Nat.le_refl _) (.int .i64 0) (.int .i64 0) (.int .i64 0) (.int .i64 0) (.int .i64 0) (.int .i64 0) (.int .i64 0)).alloc (by simp; omega) _⟩
            · cases v6
              · go_enter Try.func18, Try.ntmps18
                go_wp2_with fail
                refine (H34.out _).mono ?_
                rintro e w1 ⟨rfl, hq⟩
                have hS1 := (Held.new w 23 #[.int .i64 0, .int .i64 0, .int .i64 0, .int .i64 0, .int .i64 0, .int .i64 0, .int .i64 0]).next hq
                have hz1 := hS1.blk.lt
                clear hq
                go_wp2_with fail
                refine (H35.out _).mono ?_
                rintro e w2 ⟨rfl, hq⟩
                have hS2 : Held w 23 #[.int .i64 0, .int .i64 0, .int .i64 0, .int .i64 0, .int .i64 0, .int .i64 0, .int .i64 0] w2 := ⟨(hS1.blk.alloc _).same (hq.block _ (by simp; omega)), (hS1.below.alloc (by omega) _).trans (hq.mono (by simp; omega))⟩
                have hE2 : Blk w2 w1.heap.size 44 #[.string d, .string r, .int .i64 vl, .int .i64 pr, .int .i64 ty, .string b] := (Blk.new w1 44 _).same (hq.block _ (by simp))
                have hzE := hE2.lt
                clear hq hS1
                go_wp2_with fail
                refine (H36.out _).mono ?_
                rintro e w3 ⟨rfl, hq⟩
                have hS : Held w 23 #[.int .i64 0, .int .i64 0, .int .i64 0, .int .i64 0, .int .i64 0, .int .i64 0, .int .i64 0] w3 := ⟨(hS2.blk.alloc _).same (hq.block _ (by simp; omega)), (hS2.below.alloc (by omega) _).trans (hq.mono (by simp; omega))⟩
                have hE : Blk w3 w1.heap.size 44 #[.string d, .string r, .int .i64 vl, .int .i64 pr, .int .i64 ty, .string b] := (hE2.alloc _).same (hq.block _ (by simp; omega))
                have hP : Blk w3 w2.heap.size 36 #[.int .i64 v, .string src, .string dst, .int .i64 proto, .int .i64 hops, .int .i64 cls, .int .i64 id, .int .i64 flags, .int .i64 off, .int .i64 label, .string opt, .string body] := (Blk.new w2 36 _).same (hq.block _ (by simp))
                clear hq hS2 hE2
                have f4 : w3.cell? ⟨w1.heap.size, 4, none⟩ = some (.int .i64 ty) := hE.cell 4
                have p0 : w3.cell? ⟨w2.heap.size, 0, none⟩ = some (.int .i64 v) := hP.cell 0
                have r0 : w3.cell? ⟨w.heap.size, 0, none⟩ = some (.int .i64 0) := hS.blk.cell 0
                have r1 : w3.cell? ⟨w.heap.size, 1, none⟩ = some (.int .i64 0) := hS.blk.cell 1
                have r2 : w3.cell? ⟨w.heap.size, 2, none⟩ = some (.int .i64 0) := hS.blk.cell 2
                have r3 : w3.cell? ⟨w.heap.size, 3, none⟩ = some (.int .i64 0) := hS.blk.cell 3
                have r4 : w3.cell? ⟨w.heap.size, 4, none⟩ = some (.int .i64 0) := hS.blk.cell 4
                have r5 : w3.cell? ⟨w.heap.size, 5, none⟩ = some (.int .i64 0) := hS.blk.cell 5
                have r6 : w3.cell? ⟨w.heap.size, 6, none⟩ = some (.int .i64 0) := hS.blk.cell 6
                have fr := hS.blk.frozen
                have hz := hS.blk.lt
                have hzf := hE.lt
                have hzp := hP.lt
                have hB := hS.below
                have hne0 : w.heap.size ≠ w3.heap.size := by omega
                have hne1 : w1.heap.size ≠ w3.heap.size := by omega
                have hne2 : w2.heap.size ≠ w3.heap.size := by omega
                go_wp2_with fail
                exact bodyPost_ret (v := .tuple #[.agg (hdL .zero), .string s]) (ro_results _ _ w.heap.size rfl rfl .zero ((set7 hS.blk (.int .i64 0) (.int .i64 0) (.int .i64 0) (.int .i64 0) (.int .i64 0) (.int .i64 0) (.int .i64 0)).alloc _)) rfl ⟨rfl, (below7 hB (Nat.le_refl _) (.int .i64 0) (.int .i64 0) (.int .i64 0) (.int .i64 0) (.int .i64 0) (.int .i64 0) (.int .i64 0)).alloc (by simp; omega) _⟩
              · simp at hval
          · cases v4
            · cases b6
              · go_enter Try.func18, Try.ntmps18
                go_wp2_with fail
                refine (H34.out _).mono ?_
                rintro e w1 ⟨rfl, hq⟩
                have hS1 := (Held.new w 23 #[.int .i64 0, .int .i64 0, .int .i64 0, .int .i64 0, .int .i64 0, .int .i64 0, .int .i64 0]).next hq
                have hz1 := hS1.blk.lt
                clear hq
                go_wp2_with fail
                refine (H35.out _).mono ?_
                rintro e w2 ⟨rfl, hq⟩
                have hS2 : Held w 23 #[.int .i64 0, .int .i64 0, .int .i64 0, .int .i64 0, .int .i64 0, .int .i64 0, .int .i64 0] w2 := ⟨(hS1.blk.alloc _).same (hq.block _ (by simp; omega)), (hS1.below.alloc (by omega) _).trans (hq.mono (by simp; omega))⟩
                have hE2 : Blk w2 w1.heap.size 44 #[.string d, .string r, .int .i64 vl, .int .i64 pr, .int .i64 ty, .string b] := (Blk.new w1 44 _).same (hq.block _ (by simp))
                have hzE := hE2.lt
                clear hq hS1
                go_wp2_with fail
                refine (H36.out _).mono ?_
                rintro e w3 ⟨rfl, hq⟩
                have hS : Held w 23 #[.int .i64 0, .int .i64 0, .int .i64 0, .int .i64 0, .int .i64 0, .int .i64 0, .int .i64 0] w3 := ⟨(hS2.blk.alloc _).same (hq.block _ (by simp; omega)), (hS2.below.alloc (by omega) _).trans (hq.mono (by simp; omega))⟩
                have hE : Blk w3 w1.heap.size 44 #[.string d, .string r, .int .i64 vl, .int .i64 pr, .int .i64 ty, .string b] := (hE2.alloc _).same (hq.block _ (by simp; omega))
                have hP : Blk w3 w2.heap.size 36 #[.int .i64 v, .string src, .string dst, .int .i64 proto, .int .i64 hops, .int .i64 cls, .int .i64 id, .int .i64 flags, .int .i64 off, .int .i64 label, .string opt, .string body] := (Blk.new w2 36 _).same (hq.block _ (by simp))
                clear hq hS2 hE2
                have f4 : w3.cell? ⟨w1.heap.size, 4, none⟩ = some (.int .i64 ty) := hE.cell 4
                have p0 : w3.cell? ⟨w2.heap.size, 0, none⟩ = some (.int .i64 v) := hP.cell 0
                have r0 : w3.cell? ⟨w.heap.size, 0, none⟩ = some (.int .i64 0) := hS.blk.cell 0
                have r1 : w3.cell? ⟨w.heap.size, 1, none⟩ = some (.int .i64 0) := hS.blk.cell 1
                have r2 : w3.cell? ⟨w.heap.size, 2, none⟩ = some (.int .i64 0) := hS.blk.cell 2
                have r3 : w3.cell? ⟨w.heap.size, 3, none⟩ = some (.int .i64 0) := hS.blk.cell 3
                have r4 : w3.cell? ⟨w.heap.size, 4, none⟩ = some (.int .i64 0) := hS.blk.cell 4
                have r5 : w3.cell? ⟨w.heap.size, 5, none⟩ = some (.int .i64 0) := hS.blk.cell 5
                have r6 : w3.cell? ⟨w.heap.size, 6, none⟩ = some (.int .i64 0) := hS.blk.cell 6
                have fr := hS.blk.frozen
                have hz := hS.blk.lt
                have hzf := hE.lt
                have hzp := hP.lt
                have hB := hS.below
                have hne0 : w.heap.size ≠ w3.heap.size := by omega
                have hne1 : w1.heap.size ≠ w3.heap.size := by omega
                have hne2 : w2.heap.size ≠ w3.heap.size := by omega
                go_wp2_with fail
                exact bodyPost_ret (v := .tuple #[.agg (hdL .zero), .string s]) (ro_results _ _ w.heap.size rfl rfl .zero ((set7 hS.blk (.int .i64 0) (.int .i64 0) (.int .i64 0) (.int .i64 0) (.int .i64 0) (.int .i64 0) (.int .i64 0)).alloc _)) rfl ⟨rfl, (below7 hB (Nat.le_refl _) (.int .i64 0) (.int .i64 0) (.int .i64 0) (.int .i64 0) (.int .i64 0) (.int .i64 0) (.int .i64 0)).alloc (by simp; omega) _⟩
              · cases v6
                · go_enter Try.func18, Try.ntmps18
                  go_wp2_with fail
                  refine (H34.out _).mono ?_
                  rintro e w1 ⟨rfl, hq⟩
                  have hS1 := (Held.new w 23 #[.int .i64 0, .int .i64 0, .int .i64 0, .int .i64 0, .int .i64 0, .int .i64 0, .int .i64 0]).next hq
                  have hz1 := hS1.blk.lt
                  clear hq
                  go_wp2_with fail
                  refine (H35.out _).mono ?_
                  rintro e w2 ⟨rfl, hq⟩
                  have hS2 : Held w 23 #[.int .i64 0, .int .i64 0, .int .i64 0, .int .i64 0, .int .i64 0, .int .i64 0, .int .i64 0] w2 := ⟨(hS1.blk.alloc _).same (hq.block _ (by simp; omega)), (hS1.below.alloc (by omega) _).trans (hq.mono (by simp; omega))⟩
                  have hE2 : Blk w2 w1.heap.size 44 #[.string d, .string r, .int .i64 vl, .int .i64 pr, .int .i64 ty, .string b] := (Blk.new w1 44 _).same (hq.block _ (by simp))
                  have hzE := hE2.lt
                  clear hq hS1
                  go_wp2_with fail
                  refine (H36.out _).mono ?_
                  rintro e w3 ⟨rfl, hq⟩
                  have hS : Held w 23 #[.int .i64 0, .int .i64 0, .int .i64 0, .int .i64 0, .int .i64 0, .int .i64 0, .int .i64 0] w3 := ⟨(hS2.blk.alloc _).same (hq.block _ (by simp; omega)), (hS2.below.alloc (by omega) _).trans (hq.mono (by simp; omega))⟩
                  have hE : Blk w3 w1.heap.size 44 #[.string d, .string r, .int .i64 vl, .int .i64 pr, .int .i64 ty, .string b] := (hE2.alloc _).same (hq.block _ (by simp; omega))
                  have hP : Blk w3 w2.heap.size 36 #[.int .i64 v, .string src, .string dst, .int .i64 proto, .int .i64 hops, .int .i64 cls, .int .i64 id, .int .i64 flags, .int .i64 off, .int .i64 label, .string opt, .string body] := (Blk.new w2 36 _).same (hq.block _ (by simp))
                  clear hq hS2 hE2
                  have f4 : w3.cell? ⟨w1.heap.size, 4, none⟩ = some (.int .i64 ty) := hE.cell 4
                  have p0 : w3.cell? ⟨w2.heap.size, 0, none⟩ = some (.int .i64 v) := hP.cell 0
                  have r0 : w3.cell? ⟨w.heap.size, 0, none⟩ = some (.int .i64 0) := hS.blk.cell 0
                  have r1 : w3.cell? ⟨w.heap.size, 1, none⟩ = some (.int .i64 0) := hS.blk.cell 1
                  have r2 : w3.cell? ⟨w.heap.size, 2, none⟩ = some (.int .i64 0) := hS.blk.cell 2
                  have r3 : w3.cell? ⟨w.heap.size, 3, none⟩ = some (.int .i64 0) := hS.blk.cell 3
                  have r4 : w3.cell? ⟨w.heap.size, 4, none⟩ = some (.int .i64 0) := hS.blk.cell 4
                  have r5 : w3.cell? ⟨w.heap.size, 5, none⟩ = some (.int .i64 0) := hS.blk.cell 5
                  have r6 : w3.cell? ⟨w.heap.size, 6, none⟩ = some (.int .i64 0) := hS.blk.cell 6
                  have fr := hS.blk.frozen
                  have hz := hS.blk.lt
                  have hzf := hE.lt
                  have hzp := hP.lt
                  have hB := hS.below
                  have hne0 : w.heap.size ≠ w3.heap.size := by omega
                  have hne1 : w1.heap.size ≠ w3.heap.size := by omega
                  have hne2 : w2.heap.size ≠ w3.heap.size := by omega
                  go_wp2_with fail
                  exact bodyPost_ret (v := .tuple #[.agg (hdL .zero), .string s]) (ro_results _ _ w.heap.size rfl rfl .zero ((set7 hS.blk (.int .i64 0) (.int .i64 0) (.int .i64 0) (.int .i64 0) (.int .i64 0) (.int .i64 0) (.int .i64 0)).alloc _)) rfl ⟨rfl, (below7 hB (Nat.le_refl _) (.int .i64 0) (.int .i64 0) (.int .i64 0) (.int .i64 0) (.int .i64 0) (.int .i64 0) (.int .i64 0)).alloc (by simp; omega) _⟩
                · simp at hval
            · simp at hval
        · go_enter Try.func18, Try.ntmps18
          go_wp2_with fail
          refine (H34.out _).mono ?_
          rintro e w1 ⟨rfl, hq⟩
          have hS1 := (Held.new w 23 #[.int .i64 0, .int .i64 0, .int .i64 0, .int .i64 0, .int .i64 0, .int .i64 0, .int .i64 0]).next hq
          have hz1 := hS1.blk.lt
          clear hq
          go_wp2_with fail
          refine (H35.out _).mono ?_
          rintro e w2 ⟨rfl, hq⟩
          have hS2 : Held w 23 #[.int .i64 0, .int .i64 0, .int .i64 0, .int .i64 0, .int .i64 0, .int .i64 0, .int .i64 0] w2 := ⟨(hS1.blk.alloc _).same (hq.block _ (by simp; omega)), (hS1.below.alloc (by omega) _).trans (hq.mono (by simp; omega))⟩
          have hE2 : Blk w2 w1.heap.size 44 #[.string d, .string r, .int .i64 vl, .int .i64 pr, .int .i64 ty, .string b] := (Blk.new w1 44 _).same (hq.block _ (by simp))
          have hzE := hE2.lt
          clear hq hS1
          go_wp2_with fail
          refine (H36.out _).mono ?_
          rintro e w3 ⟨rfl, hq⟩
          have hS : Held w 23 #[.int .i64 0, .int .i64 0, .int .i64 0, .int .i64 0, .int .i64 0, .int .i64 0, .int .i64 0] w3 := ⟨(hS2.blk.alloc _).same (hq.block _ (by simp; omega)), (hS2.below.alloc (by omega) _).trans (hq.mono (by simp; omega))⟩
          have hE : Blk w3 w1.heap.size 44 #[.string d, .string r, .int .i64 vl, .int .i64 pr, .int .i64 ty, .string b] := (hE2.alloc _).same (hq.block _ (by simp; omega))
          have hP : Blk w3 w2.heap.size 36 #[.int .i64 v, .string src, .string dst, .int .i64 proto, .int .i64 hops, .int .i64 cls, .int .i64 id, .int .i64 flags, .int .i64 off, .int .i64 label, .string opt, .string body] := (Blk.new w2 36 _).same (hq.block _ (by simp))
          clear hq hS2 hE2
          have f4 : w3.cell? ⟨w1.heap.size, 4, none⟩ = some (.int .i64 ty) := hE.cell 4
          have p0 : w3.cell? ⟨w2.heap.size, 0, none⟩ = some (.int .i64 v) := hP.cell 0
          have r0 : w3.cell? ⟨w.heap.size, 0, none⟩ = some (.int .i64 0) := hS.blk.cell 0
          have r1 : w3.cell? ⟨w.heap.size, 1, none⟩ = some (.int .i64 0) := hS.blk.cell 1
          have r2 : w3.cell? ⟨w.heap.size, 2, none⟩ = some (.int .i64 0) := hS.blk.cell 2
          have r3 : w3.cell? ⟨w.heap.size, 3, none⟩ = some (.int .i64 0) := hS.blk.cell 3
          have r4 : w3.cell? ⟨w.heap.size, 4, none⟩ = some (.int .i64 0) := hS.blk.cell 4
          have r5 : w3.cell? ⟨w.heap.size, 5, none⟩ = some (.int .i64 0) := hS.blk.cell 5
          have r6 : w3.cell? ⟨w.heap.size, 6, none⟩ = some (.int .i64 0) := hS.blk.cell 6
          have fr := hS.blk.frozen
          have hz := hS.blk.lt
          have hzf := hE.lt
          have hzp := hP.lt
          have hB := hS.below
          have hne0 : w.heap.size ≠ w3.heap.size := by omega
          have hne1 : w1.heap.size ≠ w3.heap.size := by omega
          have hne2 : w2.heap.size ≠ w3.heap.size := by omega
          go_wp2_with fail
          exact bodyPost_ret (v := .tuple #[.agg (hdL .zero), .string s]) (ro_results _ _ w.heap.size rfl rfl .zero ((set7 hS.blk (.int .i64 0) (.int .i64 0) (.int .i64 0) (.int .i64 0) (.int .i64 0) (.int .i64 0) (.int .i64 0)).alloc _)) rfl ⟨rfl, (below7 hB (Nat.le_refl _) (.int .i64 0) (.int .i64 0) (.int .i64 0) (.int .i64 0) (.int .i64 0) (.int .i64 0) (.int .i64 0)).alloc (by simp; omega) _⟩
end Go.Proofs.Ytalkpllmcigjnaa
namespace Go.Proofs.Ytalkpllmcigjnaa
open Go.RowKit

set_option maxRecDepth 100000 in
set_option maxHeartbeats 6400000 in
theorem ro_yes_4 (s : ByteArray) (w : World) (d r : ByteArray) (vl pr : Int) (b : ByteArray) (src dst : ByteArray) (proto hops cls id flags off label : Int) (opt body : ByteArray) (gsrc gdst gseq gack gflags gwin gurgent : Int) (gopt gbody : ByteArray) (a : Nat) (ps : ByteArray) (sum : Int) (R : ByteArray) (hbs : body.size ≤ s.size) (hs : s.size ≤ 281474976710656) (ha : a ≤ 16) (hsum : 0 ≤ sum ∧ sum ≤ 65535)
    (A34 : ∀ W, Calls Try.prog 34 #[.string s] W fun e w' => e = .returned (.tuple #[.agg #[.string d, .string r, .int .i64 vl, .int .i64 pr, .int .i64 2048, .string b], .int .i64 0]) ∧ Below W.heap.size W w') 
    (A35 : ∀ W, Calls Try.prog 35 #[.string b] W fun e w' => e = .returned (.tuple #[.agg #[.int .i64 4, .string src, .string dst, .int .i64 proto, .int .i64 hops, .int .i64 cls, .int .i64 id, .int .i64 flags, .int .i64 off, .int .i64 label, .string opt, .string body], .int .i64 0]) ∧ Below W.heap.size W w') 
    (A36 : ∀ W, Calls Try.prog 36 #[.agg #[.int .i64 4, .string src, .string dst, .int .i64 proto, .int .i64 hops, .int .i64 cls, .int .i64 id, .int .i64 flags, .int .i64 off, .int .i64 label, .string opt, .string body]] W fun e w' => e = .returned (.tuple #[.agg #[.int .i64 gsrc, .int .i64 gdst, .int .u32 gseq, .int .u32 gack, .int .i64 gflags, .int .i64 gwin, .int .i64 gurgent, .string gopt, .string gbody, .bool false], .int .i64 0]) ∧ Below W.heap.size W w') 
    (A38 : ∀ W, Calls Try.prog 38 #[.agg #[.int .i64 4, .string src, .string dst, .int .i64 proto, .int .i64 hops, .int .i64 cls, .int .i64 id, .int .i64 flags, .int .i64 off, .int .i64 label, .string opt, .string body]] W fun e w' => e = .returned (.int .i64 a) ∧ Below W.heap.size W w')
    (A40 : ∀ W, Calls Try.prog 40 #[.agg #[.int .i64 4, .string src, .string dst, .int .i64 proto, .int .i64 hops, .int .i64 cls, .int .i64 id, .int .i64 flags, .int .i64 off, .int .i64 label, .string opt, .string body], .int .i64 body.size] W fun e w' => e = .returned (.string ps) ∧ Below W.heap.size W w')
    (A39 : ∀ W, Calls Try.prog 39 #[.int .u16 0, .string ps] W fun e w' => e = .returned (.int .u16 sum) ∧ W = w')
    (A37 : ∀ W, Calls Try.prog 37 #[.string s, .int .i64 ((s.size : Int) - body.size + a), .int .u64 sum, .int .i64 2, .bool true] W fun e w' => e = .returned (.tuple #[.string R, .int .i64 0]) ∧ Below W.heap.size W w') :
    Calls Try.prog 18 #[.string s] w (OffIs w ⟨1, 0, 0, 0, (s.size : Int) - body.size, a, 0⟩ R) := by
  have H34 := Lib.hid A34
  have H35 := Lib.hid A35
  have H36 := Lib.hid A36
  have H38 := Lib.hid A38
  have H39 := Lib.hid A39
  have H40 := Lib.hid A40
  obtain ⟨Y, hY, eY⟩ : ∃ Y : Int, (0 ≤ Y ∧ Y ≤ s.size) ∧ (s.size : Int) - body.size = Y := ⟨_, by omega, rfl⟩
  rw [eY] at A37 ⊢
  have wY : IntKind.i64.wrap Y = Y := IntWalk.i64_in _ (by omega)
  have wYa : IntKind.i64.wrap (Y + (a : Int)) = Y + (a : Int) := IntWalk.i64_in _ (by omega)
  have wS : IntKind.u64.wrap sum = sum := IntKind.wrap_u64 _ |>.trans (by omega)
  have H37 := Lib.hid A37
  clear A34 A35 A36 A38 A39 A40 A37
  go_enter Try.func18, Try.ntmps18
  go_wp2_with fail
  refine (H34.out _).mono ?_
  rintro e w1 ⟨rfl, hq⟩
  have hS1 := (Held.new w 23 #[.int .i64 0, .int .i64 0, .int .i64 0, .int .i64 0, .int .i64 0, .int .i64 0, .int .i64 0]).next hq
  have hz1 := hS1.blk.lt
  clear hq
  go_wp2_with fail
  refine (H35.out _).mono ?_
  rintro e w2 ⟨rfl, hq⟩
  have hS2 : Held w 23 #[.int .i64 0, .int .i64 0, .int .i64 0, .int .i64 0, .int .i64 0, .int .i64 0, .int .i64 0] w2 := ⟨(hS1.blk.alloc _).same (hq.block _ (by simp; omega)), (hS1.below.alloc (by omega) _).trans (hq.mono (by simp; omega))⟩
  have hE2 : Blk w2 w1.heap.size 44 #[.string d, .string r, .int .i64 vl, .int .i64 pr, .int .i64 2048, .string b] := (Blk.new w1 44 _).same (hq.block _ (by simp))
  have hzE := hE2.lt
  clear hq hS1
  go_wp2_with fail
  refine (H36.out _).mono ?_
  rintro e w3 ⟨rfl, hq⟩
  have hS : Held w 23 #[.int .i64 0, .int .i64 0, .int .i64 0, .int .i64 0, .int .i64 0, .int .i64 0, .int .i64 0] w3 := ⟨(hS2.blk.alloc _).same (hq.block _ (by simp; omega)), (hS2.below.alloc (by omega) _).trans (hq.mono (by simp; omega))⟩
  have hE : Blk w3 w1.heap.size 44 #[.string d, .string r, .int .i64 vl, .int .i64 pr, .int .i64 2048, .string b] := (hE2.alloc _).same (hq.block _ (by simp; omega))
  have hP : Blk w3 w2.heap.size 36 #[.int .i64 4, .string src, .string dst, .int .i64 proto, .int .i64 hops, .int .i64 cls, .int .i64 id, .int .i64 flags, .int .i64 off, .int .i64 label, .string opt, .string body] := (Blk.new w2 36 _).same (hq.block _ (by simp))
  clear hq hS2 hE2
  have f4 : w3.cell? ⟨w1.heap.size, 4, none⟩ = some (.int .i64 2048) := hE.cell 4
  have p0 : w3.cell? ⟨w2.heap.size, 0, none⟩ = some (.int .i64 4) := hP.cell 0
  have r0 : w3.cell? ⟨w.heap.size, 0, none⟩ = some (.int .i64 0) := hS.blk.cell 0
  have r1 : w3.cell? ⟨w.heap.size, 1, none⟩ = some (.int .i64 0) := hS.blk.cell 1
  have r2 : w3.cell? ⟨w.heap.size, 2, none⟩ = some (.int .i64 0) := hS.blk.cell 2
  have r3 : w3.cell? ⟨w.heap.size, 3, none⟩ = some (.int .i64 0) := hS.blk.cell 3
  have r4 : w3.cell? ⟨w.heap.size, 4, none⟩ = some (.int .i64 0) := hS.blk.cell 4
  have r5 : w3.cell? ⟨w.heap.size, 5, none⟩ = some (.int .i64 0) := hS.blk.cell 5
  have r6 : w3.cell? ⟨w.heap.size, 6, none⟩ = some (.int .i64 0) := hS.blk.cell 6
  have fr := hS.blk.frozen
  have hz := hS.blk.lt
  have hzf := hE.lt
  have hzp := hP.lt
  have hB := hS.below
  have hne0 : w.heap.size ≠ w3.heap.size := by omega
  have hne1 : w1.heap.size ≠ w3.heap.size := by omega
  have hne2 : w2.heap.size ≠ w3.heap.size := by omega
  have p11 : w3.cell? ⟨w2.heap.size, 11, none⟩ = some (.string body) := hP.cell 11
  go_wp2_with fail
  have hO : OB w w2.heap.size #[.int .i64 4, .string src, .string dst, .int .i64 proto, .int .i64 hops, .int .i64 cls, .int .i64 id, .int .i64 flags, .int .i64 off, .int .i64 label, .string opt, .string body] (w3.alloc (.cells #[.int .i64 gsrc, .int .i64 gdst, .int .u32 gseq, .int .u32 gack, .int .i64 gflags, .int .i64 gwin, .int .i64 gurgent, .string gopt, .string gbody, .bool false] 39)) := ⟨hS.blk.alloc _, hP.alloc _, hB.alloc (by omega) _, by omega⟩
  clear p0 p11 f4 r0 r1 r2 r3 r4 r5 r6 fr hS hE hP hB
  generalize w3.alloc (.cells #[.int .i64 gsrc, .int .i64 gdst, .int .u32 gseq, .int .u32 gack, .int .i64 gflags, .int .i64 gwin, .int .i64 gurgent, .string gopt, .string gbody, .bool false] 39) = W1 at *
  have b0 : (W1.cell? ⟨w2.heap.size, 0, none⟩ = some (.int .i64 4) ∧ W1.cell? ⟨w2.heap.size, 1, none⟩ = some (.string src) ∧ W1.cell? ⟨w2.heap.size, 2, none⟩ = some (.string dst) ∧ W1.cell? ⟨w2.heap.size, 3, none⟩ = some (.int .i64 proto) ∧ W1.cell? ⟨w2.heap.size, 4, none⟩ = some (.int .i64 hops) ∧ W1.cell? ⟨w2.heap.size, 5, none⟩ = some (.int .i64 cls) ∧ W1.cell? ⟨w2.heap.size, 6, none⟩ = some (.int .i64 id) ∧ W1.cell? ⟨w2.heap.size, 7, none⟩ = some (.int .i64 flags) ∧ W1.cell? ⟨w2.heap.size, 8, none⟩ = some (.int .i64 off) ∧ W1.cell? ⟨w2.heap.size, 9, none⟩ = some (.int .i64 label) ∧ W1.cell? ⟨w2.heap.size, 10, none⟩ = some (.string opt) ∧ W1.cell? ⟨w2.heap.size, 11, none⟩ = some (.string body)) ∧ OB w w2.heap.size #[.int .i64 4, .string src, .string dst, .int .i64 proto, .int .i64 hops, .int .i64 cls, .int .i64 id, .int .i64 flags, .int .i64 off, .int .i64 label, .string opt, .string body] W1 := ⟨hO.cells, hO⟩
  go_region_held3 (fun w' => (w'.cell? ⟨w2.heap.size, 0, none⟩ = some (.int .i64 4) ∧ w'.cell? ⟨w2.heap.size, 1, none⟩ = some (.string src) ∧ w'.cell? ⟨w2.heap.size, 2, none⟩ = some (.string dst) ∧ w'.cell? ⟨w2.heap.size, 3, none⟩ = some (.int .i64 proto) ∧ w'.cell? ⟨w2.heap.size, 4, none⟩ = some (.int .i64 hops) ∧ w'.cell? ⟨w2.heap.size, 5, none⟩ = some (.int .i64 cls) ∧ w'.cell? ⟨w2.heap.size, 6, none⟩ = some (.int .i64 id) ∧ w'.cell? ⟨w2.heap.size, 7, none⟩ = some (.int .i64 flags) ∧ w'.cell? ⟨w2.heap.size, 8, none⟩ = some (.int .i64 off) ∧ w'.cell? ⟨w2.heap.size, 9, none⟩ = some (.int .i64 label) ∧ w'.cell? ⟨w2.heap.size, 10, none⟩ = some (.string opt) ∧ w'.cell? ⟨w2.heap.size, 11, none⟩ = some (.string body)) ∧ OB w w2.heap.size #[.int .i64 4, .string src, .string dst, .int .i64 proto, .int .i64 hops, .int .i64 cls, .int .i64 id, .int .i64 flags, .int .i64 off, .int .i64 label, .string opt, .string body] w')
    (first | (with_reducible exact ob_drew b0) | (with_reducible exact ob_next (by assumption) hq) | (with_reducible assumption))
    (first | (go_at_call 38; (with_reducible refine (H38.out _).mono ?_); rintro e w' ⟨rfl, hq⟩) | (go_at_call 40; (with_reducible refine (H40.out _).mono ?_); rintro e w' ⟨rfl, hq⟩) | (go_at_call 39; (with_reducible refine (H39.out _).mono ?_); rintro e w' ⟨rfl, rfl⟩) | (go_at_call 37; (with_reducible refine (H37.out _).mono ?_); rintro e w' ⟨rfl, hq⟩))
  all_goals
    rename_i hH
    have hO3 := hH.2
    clear hH b0 hO
    obtain ⟨c0, c1, c2, c3, c4, c5, c6, c7, c8, c9, c10, c11⟩ := hO3.cells
    go_wp2_with fail
    refine (H38.out _).mono ?_
    rintro e w6 ⟨rfl, hq⟩
    have hO6 := hO3.next hq
    clear hq hO3 c0 c1 c2 c3 c4 c5 c6 c7 c8 c9 c10 c11
    have r0 : w6.cell? ⟨w.heap.size, 0, none⟩ = some (.int .i64 0) := hO6.res.cell 0
    have r1 : w6.cell? ⟨w.heap.size, 1, none⟩ = some (.int .i64 0) := hO6.res.cell 1
    have r2 : w6.cell? ⟨w.heap.size, 2, none⟩ = some (.int .i64 0) := hO6.res.cell 2
    have r3 : w6.cell? ⟨w.heap.size, 3, none⟩ = some (.int .i64 0) := hO6.res.cell 3
    have r4 : w6.cell? ⟨w.heap.size, 4, none⟩ = some (.int .i64 0) := hO6.res.cell 4
    have r5 : w6.cell? ⟨w.heap.size, 5, none⟩ = some (.int .i64 0) := hO6.res.cell 5
    have r6 : w6.cell? ⟨w.heap.size, 6, none⟩ = some (.int .i64 0) := hO6.res.cell 6
    have fr := hO6.res.frozen
    go_wp2_with fail
    exact bodyPost_ret (v := .tuple #[.agg (hdL ⟨1, 0, 0, 0, Y, a, 0⟩), .string R]) (ro_results _ _ w.heap.size rfl rfl ⟨1, 0, 0, 0, Y, a, 0⟩ (set7 hO6.res (.int .i64 1) (.int .i64 0) (.int .i64 0) (.int .i64 0) (.int .i64 Y) (.int .i64 a) (.int .i64 0))) rfl ⟨rfl, below7 hO6.below (Nat.le_refl _) (.int .i64 1) (.int .i64 0) (.int .i64 0) (.int .i64 0) (.int .i64 Y) (.int .i64 a) (.int .i64 0)⟩
set_option maxRecDepth 100000 in
set_option maxHeartbeats 6400000 in
theorem ro_yes_6 (s : ByteArray) (w : World) (d r : ByteArray) (vl pr : Int) (b : ByteArray) (src dst : ByteArray) (proto hops cls id flags off label : Int) (opt body : ByteArray) (gsrc gdst gseq gack gflags gwin gurgent : Int) (gopt gbody : ByteArray) (a : Nat) (ps : ByteArray) (sum : Int) (R : ByteArray) (hbs : body.size ≤ s.size) (hs : s.size ≤ 281474976710656) (ha : a ≤ 16) (hsum : 0 ≤ sum ∧ sum ≤ 65535)
    (A34 : ∀ W, Calls Try.prog 34 #[.string s] W fun e w' => e = .returned (.tuple #[.agg #[.string d, .string r, .int .i64 vl, .int .i64 pr, .int .i64 34525, .string b], .int .i64 0]) ∧ Below W.heap.size W w') 
    (A35 : ∀ W, Calls Try.prog 35 #[.string b] W fun e w' => e = .returned (.tuple #[.agg #[.int .i64 6, .string src, .string dst, .int .i64 proto, .int .i64 hops, .int .i64 cls, .int .i64 id, .int .i64 flags, .int .i64 off, .int .i64 label, .string opt, .string body], .int .i64 0]) ∧ Below W.heap.size W w') 
    (A36 : ∀ W, Calls Try.prog 36 #[.agg #[.int .i64 6, .string src, .string dst, .int .i64 proto, .int .i64 hops, .int .i64 cls, .int .i64 id, .int .i64 flags, .int .i64 off, .int .i64 label, .string opt, .string body]] W fun e w' => e = .returned (.tuple #[.agg #[.int .i64 gsrc, .int .i64 gdst, .int .u32 gseq, .int .u32 gack, .int .i64 gflags, .int .i64 gwin, .int .i64 gurgent, .string gopt, .string gbody, .bool false], .int .i64 0]) ∧ Below W.heap.size W w') 
    (A38 : ∀ W, Calls Try.prog 38 #[.agg #[.int .i64 6, .string src, .string dst, .int .i64 proto, .int .i64 hops, .int .i64 cls, .int .i64 id, .int .i64 flags, .int .i64 off, .int .i64 label, .string opt, .string body]] W fun e w' => e = .returned (.int .i64 a) ∧ Below W.heap.size W w')
    (A40 : ∀ W, Calls Try.prog 40 #[.agg #[.int .i64 6, .string src, .string dst, .int .i64 proto, .int .i64 hops, .int .i64 cls, .int .i64 id, .int .i64 flags, .int .i64 off, .int .i64 label, .string opt, .string body], .int .i64 body.size] W fun e w' => e = .returned (.string ps) ∧ Below W.heap.size W w')
    (A39 : ∀ W, Calls Try.prog 39 #[.int .u16 0, .string ps] W fun e w' => e = .returned (.int .u16 sum) ∧ W = w')
    (A37 : ∀ W, Calls Try.prog 37 #[.string s, .int .i64 ((s.size : Int) - body.size + a), .int .u64 sum, .int .i64 2, .bool true] W fun e w' => e = .returned (.tuple #[.string R, .int .i64 0]) ∧ Below W.heap.size W w') :
    Calls Try.prog 18 #[.string s] w (OffIs w ⟨1, 0, 0, 0, (s.size : Int) - body.size, a, 0⟩ R) := by
  have H34 := Lib.hid A34
  have H35 := Lib.hid A35
  have H36 := Lib.hid A36
  have H38 := Lib.hid A38
  have H39 := Lib.hid A39
  have H40 := Lib.hid A40
  obtain ⟨Y, hY, eY⟩ : ∃ Y : Int, (0 ≤ Y ∧ Y ≤ s.size) ∧ (s.size : Int) - body.size = Y := ⟨_, by omega, rfl⟩
  rw [eY] at A37 ⊢
  have wY : IntKind.i64.wrap Y = Y := IntWalk.i64_in _ (by omega)
  have wYa : IntKind.i64.wrap (Y + (a : Int)) = Y + (a : Int) := IntWalk.i64_in _ (by omega)
  have wS : IntKind.u64.wrap sum = sum := IntKind.wrap_u64 _ |>.trans (by omega)
  have H37 := Lib.hid A37
  clear A34 A35 A36 A38 A39 A40 A37
  go_enter Try.func18, Try.ntmps18
  go_wp2_with fail
  refine (H34.out _).mono ?_
  rintro e w1 ⟨rfl, hq⟩
  have hS1 := (Held.new w 23 #[.int .i64 0, .int .i64 0, .int .i64 0, .int .i64 0, .int .i64 0, .int .i64 0, .int .i64 0]).next hq
  have hz1 := hS1.blk.lt
  clear hq
  go_wp2_with fail
  refine (H35.out _).mono ?_
  rintro e w2 ⟨rfl, hq⟩
  have hS2 : Held w 23 #[.int .i64 0, .int .i64 0, .int .i64 0, .int .i64 0, .int .i64 0, .int .i64 0, .int .i64 0] w2 := ⟨(hS1.blk.alloc _).same (hq.block _ (by simp; omega)), (hS1.below.alloc (by omega) _).trans (hq.mono (by simp; omega))⟩
  have hE2 : Blk w2 w1.heap.size 44 #[.string d, .string r, .int .i64 vl, .int .i64 pr, .int .i64 34525, .string b] := (Blk.new w1 44 _).same (hq.block _ (by simp))
  have hzE := hE2.lt
  clear hq hS1
  go_wp2_with fail
  refine (H36.out _).mono ?_
  rintro e w3 ⟨rfl, hq⟩
  have hS : Held w 23 #[.int .i64 0, .int .i64 0, .int .i64 0, .int .i64 0, .int .i64 0, .int .i64 0, .int .i64 0] w3 := ⟨(hS2.blk.alloc _).same (hq.block _ (by simp; omega)), (hS2.below.alloc (by omega) _).trans (hq.mono (by simp; omega))⟩
  have hE : Blk w3 w1.heap.size 44 #[.string d, .string r, .int .i64 vl, .int .i64 pr, .int .i64 34525, .string b] := (hE2.alloc _).same (hq.block _ (by simp; omega))
  have hP : Blk w3 w2.heap.size 36 #[.int .i64 6, .string src, .string dst, .int .i64 proto, .int .i64 hops, .int .i64 cls, .int .i64 id, .int .i64 flags, .int .i64 off, .int .i64 label, .string opt, .string body] := (Blk.new w2 36 _).same (hq.block _ (by simp))
  clear hq hS2 hE2
  have f4 : w3.cell? ⟨w1.heap.size, 4, none⟩ = some (.int .i64 34525) := hE.cell 4
  have p0 : w3.cell? ⟨w2.heap.size, 0, none⟩ = some (.int .i64 6) := hP.cell 0
  have r0 : w3.cell? ⟨w.heap.size, 0, none⟩ = some (.int .i64 0) := hS.blk.cell 0
  have r1 : w3.cell? ⟨w.heap.size, 1, none⟩ = some (.int .i64 0) := hS.blk.cell 1
  have r2 : w3.cell? ⟨w.heap.size, 2, none⟩ = some (.int .i64 0) := hS.blk.cell 2
  have r3 : w3.cell? ⟨w.heap.size, 3, none⟩ = some (.int .i64 0) := hS.blk.cell 3
  have r4 : w3.cell? ⟨w.heap.size, 4, none⟩ = some (.int .i64 0) := hS.blk.cell 4
  have r5 : w3.cell? ⟨w.heap.size, 5, none⟩ = some (.int .i64 0) := hS.blk.cell 5
  have r6 : w3.cell? ⟨w.heap.size, 6, none⟩ = some (.int .i64 0) := hS.blk.cell 6
  have fr := hS.blk.frozen
  have hz := hS.blk.lt
  have hzf := hE.lt
  have hzp := hP.lt
  have hB := hS.below
  have hne0 : w.heap.size ≠ w3.heap.size := by omega
  have hne1 : w1.heap.size ≠ w3.heap.size := by omega
  have hne2 : w2.heap.size ≠ w3.heap.size := by omega
  have p11 : w3.cell? ⟨w2.heap.size, 11, none⟩ = some (.string body) := hP.cell 11
  go_wp2_with fail
  have hO : OB w w2.heap.size #[.int .i64 6, .string src, .string dst, .int .i64 proto, .int .i64 hops, .int .i64 cls, .int .i64 id, .int .i64 flags, .int .i64 off, .int .i64 label, .string opt, .string body] (w3.alloc (.cells #[.int .i64 gsrc, .int .i64 gdst, .int .u32 gseq, .int .u32 gack, .int .i64 gflags, .int .i64 gwin, .int .i64 gurgent, .string gopt, .string gbody, .bool false] 39)) := ⟨hS.blk.alloc _, hP.alloc _, hB.alloc (by omega) _, by omega⟩
  clear p0 p11 f4 r0 r1 r2 r3 r4 r5 r6 fr hS hE hP hB
  generalize w3.alloc (.cells #[.int .i64 gsrc, .int .i64 gdst, .int .u32 gseq, .int .u32 gack, .int .i64 gflags, .int .i64 gwin, .int .i64 gurgent, .string gopt, .string gbody, .bool false] 39) = W1 at *
  have b0 : (W1.cell? ⟨w2.heap.size, 0, none⟩ = some (.int .i64 6) ∧ W1.cell? ⟨w2.heap.size, 1, none⟩ = some (.string src) ∧ W1.cell? ⟨w2.heap.size, 2, none⟩ = some (.string dst) ∧ W1.cell? ⟨w2.heap.size, 3, none⟩ = some (.int .i64 proto) ∧ W1.cell? ⟨w2.heap.size, 4, none⟩ = some (.int .i64 hops) ∧ W1.cell? ⟨w2.heap.size, 5, none⟩ = some (.int .i64 cls) ∧ W1.cell? ⟨w2.heap.size, 6, none⟩ = some (.int .i64 id) ∧ W1.cell? ⟨w2.heap.size, 7, none⟩ = some (.int .i64 flags) ∧ W1.cell? ⟨w2.heap.size, 8, none⟩ = some (.int .i64 off) ∧ W1.cell? ⟨w2.heap.size, 9, none⟩ = some (.int .i64 label) ∧ W1.cell? ⟨w2.heap.size, 10, none⟩ = some (.string opt) ∧ W1.cell? ⟨w2.heap.size, 11, none⟩ = some (.string body)) ∧ OB w w2.heap.size #[.int .i64 6, .string src, .string dst, .int .i64 proto, .int .i64 hops, .int .i64 cls, .int .i64 id, .int .i64 flags, .int .i64 off, .int .i64 label, .string opt, .string body] W1 := ⟨hO.cells, hO⟩
  go_region_held3 (fun w' => (w'.cell? ⟨w2.heap.size, 0, none⟩ = some (.int .i64 6) ∧ w'.cell? ⟨w2.heap.size, 1, none⟩ = some (.string src) ∧ w'.cell? ⟨w2.heap.size, 2, none⟩ = some (.string dst) ∧ w'.cell? ⟨w2.heap.size, 3, none⟩ = some (.int .i64 proto) ∧ w'.cell? ⟨w2.heap.size, 4, none⟩ = some (.int .i64 hops) ∧ w'.cell? ⟨w2.heap.size, 5, none⟩ = some (.int .i64 cls) ∧ w'.cell? ⟨w2.heap.size, 6, none⟩ = some (.int .i64 id) ∧ w'.cell? ⟨w2.heap.size, 7, none⟩ = some (.int .i64 flags) ∧ w'.cell? ⟨w2.heap.size, 8, none⟩ = some (.int .i64 off) ∧ w'.cell? ⟨w2.heap.size, 9, none⟩ = some (.int .i64 label) ∧ w'.cell? ⟨w2.heap.size, 10, none⟩ = some (.string opt) ∧ w'.cell? ⟨w2.heap.size, 11, none⟩ = some (.string body)) ∧ OB w w2.heap.size #[.int .i64 6, .string src, .string dst, .int .i64 proto, .int .i64 hops, .int .i64 cls, .int .i64 id, .int .i64 flags, .int .i64 off, .int .i64 label, .string opt, .string body] w')
    (first | (with_reducible exact ob_drew b0) | (with_reducible exact ob_next (by assumption) hq) | (with_reducible assumption))
    (first | (go_at_call 38; (with_reducible refine (H38.out _).mono ?_); rintro e w' ⟨rfl, hq⟩) | (go_at_call 40; (with_reducible refine (H40.out _).mono ?_); rintro e w' ⟨rfl, hq⟩) | (go_at_call 39; (with_reducible refine (H39.out _).mono ?_); rintro e w' ⟨rfl, rfl⟩) | (go_at_call 37; (with_reducible refine (H37.out _).mono ?_); rintro e w' ⟨rfl, hq⟩))
  all_goals
    rename_i hH
    have hO3 := hH.2
    clear hH b0 hO
    obtain ⟨c0, c1, c2, c3, c4, c5, c6, c7, c8, c9, c10, c11⟩ := hO3.cells
    go_wp2_with fail
    refine (H38.out _).mono ?_
    rintro e w6 ⟨rfl, hq⟩
    have hO6 := hO3.next hq
    clear hq hO3 c0 c1 c2 c3 c4 c5 c6 c7 c8 c9 c10 c11
    have r0 : w6.cell? ⟨w.heap.size, 0, none⟩ = some (.int .i64 0) := hO6.res.cell 0
    have r1 : w6.cell? ⟨w.heap.size, 1, none⟩ = some (.int .i64 0) := hO6.res.cell 1
    have r2 : w6.cell? ⟨w.heap.size, 2, none⟩ = some (.int .i64 0) := hO6.res.cell 2
    have r3 : w6.cell? ⟨w.heap.size, 3, none⟩ = some (.int .i64 0) := hO6.res.cell 3
    have r4 : w6.cell? ⟨w.heap.size, 4, none⟩ = some (.int .i64 0) := hO6.res.cell 4
    have r5 : w6.cell? ⟨w.heap.size, 5, none⟩ = some (.int .i64 0) := hO6.res.cell 5
    have r6 : w6.cell? ⟨w.heap.size, 6, none⟩ = some (.int .i64 0) := hO6.res.cell 6
    have fr := hO6.res.frozen
    go_wp2_with fail
    exact bodyPost_ret (v := .tuple #[.agg (hdL ⟨1, 0, 0, 0, Y, a, 0⟩), .string R]) (ro_results _ _ w.heap.size rfl rfl ⟨1, 0, 0, 0, Y, a, 0⟩ (set7 hO6.res (.int .i64 1) (.int .i64 0) (.int .i64 0) (.int .i64 0) (.int .i64 Y) (.int .i64 a) (.int .i64 0))) rfl ⟨rfl, below7 hO6.below (Nat.le_refl _) (.int .i64 1) (.int .i64 0) (.int .i64 0) (.int .i64 0) (.int .i64 Y) (.int .i64 a) (.int .i64 0)⟩
end Go.Proofs.Ytalkpllmcigjnaa
namespace Go.Proofs.Ytalkpllmcigjnaa
open Go.RowKit

theorem rpseudo_any (p : Pk) (W : World) (hc : canB p = true) (hb : p.body.size ≤ 65535) :
    Calls Try.prog 40 #[.agg #[.int .i64 p.v, .string p.src, .string p.dst, .int .i64 p.proto, .int .i64 p.hops, .int .i64 p.cls, .int .i64 p.id, .int .i64 p.flags, .int .i64 p.off, .int .i64 p.label, .string p.opt, .string p.body], .int .i64 p.body.size] W fun e w' => e = .returned (.string (pseudoB p p.body.size)) ∧ Below W.heap.size W w' := by
  obtain ⟨h1, h2, _, _⟩ := canB_iff.1 hc
  have hp : 0 ≤ p.proto ∧ p.proto ≤ 255 := by omega
  obtain ⟨v, src, dst, proto, hops, cls, id, flags, off, label, opt, body⟩ := p
  simp only at *
  rcases h1 with ⟨rfl, h3, h4⟩ | ⟨rfl, h3, h4⟩
  · exact rpseudo_4 src dst proto hops cls id flags off label opt body body.size W h3 h4 hp (by omega)
  · exact rpseudo_6 src dst proto hops cls id flags off label opt body body.size W h3 h4 hp (by omega)
theorem setr2 (s : ByteArray) (a : Nat) (v : Int) (w : World) (hs : s.size ≤ 281474976710656) (h12 : a + 2 ≤ s.size) (h0 : 0 ≤ v) (h1 : v ≤ 65535) :
    Calls Try.prog 37 #[.string s, .int .i64 a, .int .u64 v, .int .i64 2, .bool true] w fun e w' => e = .returned (.tuple #[.string (withS s a v), .int .i64 0]) ∧ Below w.heap.size w w' := by
  have hp : 1 ≤ (2 : Int) ∧ (2 : Int) ≤ 8 ∧ v < 256 ^ (2 : Int).toNat := ⟨by omega, by omega, by show v < 65536; omega⟩
  have e1 : putE v 2 = 0 := by rw [putE, if_pos hp]
  have e2 : putS v 2 true = bs v 2 := by rw [putS, if_pos hp]; rfl
  have := setr_ok s a v 2 true w hs h0 (by omega) (by omega) (by omega) e1 (by omega)
  rw [show ((2 : Nat) : Int) = 2 from rfl, e2] at this
  exact this
theorem ipP_ver {s : ByteArray} (h : ipE s = 0) : (ipP s).v = 4 ∨ (ipP s).v = 6 := by
  rw [ipP, if_pos h]
  split
  · exact .inl rfl
  · exact .inr rfl
theorem roff_any (s : ByteArray) (w : World) (hs : s.size ≤ 281474976710656) : Calls Try.prog 18 #[.string s] w (OffIs w (offH s) (offS s)) := by
  have A34 := fun W => refParse_any s W
  have hbz := parseF_b_max s
  have A35 := fun W => refp_any (parseF s).b W (by omega)
  have hpb := ipP_body (parseF s).b
  have A36 := fun W => refS_any (ipP (parseF s).b) W (by omega)
  by_cases ok : offOk s
  · have hp : pkIn s = ipP (parseF s).b := by rw [pkIn, if_pos ok.1]
    obtain ⟨hb1, hb2⟩ := pkIn_body s
    have hsum := sumB_iff.1 ok.2
    obtain ⟨g1, g2⟩ := seg_fits hsum.1
    obtain ⟨o1, o2, o3⟩ := ok.1
    have hV := ipP_ver o2
    rw [offH, offS, if_pos ok, if_pos ok, offAt]
    rw [hp] at hb1 hb2 hsum g1 g2 ⊢
    have hns := hsum.2
    rw [o1] at A34
    rw [o2] at A35
    have A36' : ∀ W, Calls Try.prog 36 #[.agg (pkC (ipP (parseF s).b))] W (SaysG W (sgL (segPG (ipP (parseF s).b))) 0) := fun W => by have := A36 W; rw [hsum.1] at this; exact this
    have hps := pseudoB_size g1 (ipP (parseF s).b).body.size
    have hsumr := onS_range (pseudoB (ipP (parseF s).b) (ipP (parseF s).b).body.size) 0 (by omega) (by omega)
    have A38 := fun W => rAt_any (ipP (parseF s).b).v (ipP (parseF s).b).src (ipP (parseF s).b).dst (ipP (parseF s).b).proto (ipP (parseF s).b).hops (ipP (parseF s).b).cls (ipP (parseF s).b).id (ipP (parseF s).b).flags (ipP (parseF s).b).off (ipP (parseF s).b).label (ipP (parseF s).b).opt (ipP (parseF s).b).body W
    have A40 := fun W => rpseudo_any (ipP (parseF s).b) W g1 (by omega)
    have A39 := fun W => onr_any 0 (pseudoB (ipP (parseF s).b) (ipP (parseF s).b).body.size) W (by omega) (by omega) (by unfold maxLen; omega)
    have ha : atV (ipP (parseF s).b).proto ≤ 16 := by unfold atV; split <;> omega
    have A37 : ∀ W, Calls Try.prog 37 #[.string s, .int .i64 ((s.size : Int) - (ipP (parseF s).b).body.size + atV (ipP (parseF s).b).proto), .int .u64 (onS 0 (pseudoB (ipP (parseF s).b) (ipP (parseF s).b).body.size)), .int .i64 2, .bool true] W fun e w' => e = .returned (.tuple #[.string (withS s (s.size - (ipP (parseF s).b).body.size + atV (ipP (parseF s).b).proto) (onS 0 (pseudoB (ipP (parseF s).b) (ipP (parseF s).b).body.size))), .int .i64 0]) ∧ Below W.heap.size W w' := fun W => by
      have := setr2 s (s.size - (ipP (parseF s).b).body.size + atV (ipP (parseF s).b).proto) (onS 0 (pseudoB (ipP (parseF s).b) (ipP (parseF s).b).body.size)) W hs (by omega) hsumr.1 hsumr.2
      rw [show ((s.size - (ipP (parseF s).b).body.size + atV (ipP (parseF s).b).proto : Nat) : Int) = (s.size : Int) - (ipP (parseF s).b).body.size + atV (ipP (parseF s).b).proto by omega] at this
      exact this
    clear ok hp hsum g1 g2 hps hpb A36
    generalize hR : withS s (s.size - (ipP (parseF s).b).body.size + atV (ipP (parseF s).b).proto) (onS 0 (pseudoB (ipP (parseF s).b) (ipP (parseF s).b).body.size)) = R at *
    clear hR
    generalize onS 0 (pseudoB (ipP (parseF s).b) (ipP (parseF s).b).body.size) = sum at *
    generalize pseudoB (ipP (parseF s).b) (ipP (parseF s).b).body.size = ps at *
    generalize hG : segPG (ipP (parseF s).b) = G at *
    clear hG
    generalize atV (ipP (parseF s).b).proto = a at *
    rcases hf : parseF s with ⟨d, r, vl, pr, ty, b⟩
    rw [hf] at A34 A35 A36' A38 A40 A37 o2 o3 hV hb1 hb2 hbz
    simp only at A34 A35 A36' A38 A40 A37 o2 o3 hV hb1 hb2 hbz ⊢
    rcases hq : ipP b with ⟨v, src, dst, proto, hops, cls, id, flags, off, label, opt, body⟩
    rcases G with ⟨gsrc, gdst, gseq, gack, gflags, gwin, gurgent, gopt, gbody, ns⟩
    rw [hq] at A35 A36' A38 A40 A37 o3 hV hb1 hb2
    simp only at A35 A36' A38 A40 A37 o3 hV hb1 hb2 hns ⊢
    subst hns
    rcases hV with rfl | rfl
    · have ht : ty = 2048 := by
        unfold verV at o3
        split at o3
        · assumption
        · split at o3 <;> cases o3
      subst ht
      exact ro_yes_4 s w _ _ _ _ _ _ _ _ _ _ _ _ _ _ _ _ _ _ _ _ _ _ _ _ _ a ps sum R hb1 hs ha hsumr A34 A35 A36' A38 A40 A39 A37
    · have ht : ty = 34525 := by
        unfold verV at o3
        split at o3
        · cases o3
        · split at o3
          · assumption
          · cases o3
      subst ht
      exact ro_yes_6 s w _ _ _ _ _ _ _ _ _ _ _ _ _ _ _ _ _ _ _ _ _ _ _ _ _ a ps sum R hb1 hs ha hsumr A34 A35 A36' A38 A40 A39 A37
  · rw [offH, offS, if_neg ok, if_neg ok]
    refine ro_no s w _ _ _ _ _ _ _ _ _ _ _ _ _ _ _ _ _ _ _ _ _ _ _ _ _ _ _ (segPG (ipP (parseF s).b)).nosum _ _ _ _ _ _ _ _ _ _ rfl rfl rfl rfl rfl rfl rfl ?_ A34 A35 A36
    cases hx : ((parseE s == 0) && (ipE (parseF s).b == 0) && (segPE (ipP (parseF s).b) == 0) && !(segPG (ipP (parseF s).b)).nosum && (((parseF s).t == 2048) && ((ipP (parseF s).b).v == 4) || ((parseF s).t == 34525) && ((ipP (parseF s).b).v == 6)))
    · rfl
    · refine absurd ?_ ok
      simp only [Bool.and_eq_true, Bool.or_eq_true, beq_iff_eq, Bool.not_eq_true'] at hx
      obtain ⟨⟨⟨⟨x1, x2⟩, x3⟩, x4⟩, x5⟩ := hx
      have x6 : (ipP (parseF s).b).v = verV (parseF s).t := by
        rcases x5 with ⟨y1, y2⟩ | ⟨y1, y2⟩
        · rw [y1, y2]; rfl
        · rw [y1, y2]; rfl
      have ok1 : pkOk s := ⟨x1, x2, x6⟩
      refine ⟨ok1, ?_⟩
      rw [pkIn, if_pos ok1]
      exact sumB_iff.2 ⟨x3, x4⟩
end Go.Proofs.Ytalkpllmcigjnaa
