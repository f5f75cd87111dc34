/-
  drvq: descriptor, what stands at a place; no condition.
-/
import Derived.Test.YtbpgblmhacpjlaaVc
namespace Go.Proofs.Ytbpgblmhacpjlaa
open Go.RowKit

/-- while descriptor reads -/
def DS (F : Nat → Prop) (w : World) (K gq g : Nat) (l : List As) (a v : Value) (W : World) : Prop :=
  (W.cell? ⟨K, 0, none⟩ = some a ∧ W.cell? ⟨K, 1, none⟩ = some v ∧ W.cell? ⟨gq, 0, none⟩ = some (.pointer (some ⟨g, 0, none⟩))) ∧ St F w (stars l) W
theorem DS.of {F : Nat → Prop} {w W : World} {K R gq g : Nat} {xs : List UInt8} {cs : Array Value} {a v : Value} {r : Array Value} (h : St F w (stars [box R 100 r, box K 69 #[a, v], memA g xs, box gq 90 cs]) W) (h0 : Hid (cs[0]? = some (.pointer (some ⟨g, 0, none⟩)))) :
    DS F w K gq g [box R 100 r, box K 69 #[a, v], memA g xs, box gq 90 cs] a v W := by
  have b1 := h.blk 1 (by simp) rfl
  have b3 := h.blk 3 (by simp) rfl
  exact ⟨⟨b1.cell 0, b1.cell 1, (b3.cell 0).trans h0.out⟩, h⟩
theorem DS.st {F : Nat → Prop} {w W : World} {K gq g : Nat} {l : List As} {a v : Value} (h : DS F w K gq g l a v W) : St F w (stars l) W := h.2
theorem DS.next {F : Nat → Prop} {w W W' : World} {K R gq g : Nat} {xs : List UInt8} {cs : Array Value} {a v : Value} {r : Array Value} (h : DS F w K gq g [box R 100 r, box K 69 #[a, v], memA g xs, box gq 90 cs] a v W) (h0 : Hid (cs[0]? = some (.pointer (some ⟨g, 0, none⟩)))) (hb : Below W.heap.size W W') :
    DS F w K gq g [box R 100 r, box K 69 #[a, v], memA g xs, box gq 90 cs] a v W' := DS.of (h.2.below hb) h0
set_option maxRecDepth 100000 in
set_option maxHeartbeats 1600000 in
theorem desc_v {F : Nat → Prop} {w : World} {gq g : Nat} {xs : List UInt8} {cs : Array Value} {ring : Nat} (h : (stars [memA g xs, box gq 90 cs]).P F w) (h0 : cs[0]? = some (.pointer (some ⟨g, 0, none⟩))) (h1 : cs[1]? = some (.int .i64 (ring : Int)))
    (a : Nat) (v : Bool) (hr : ring + 16 * a ≤ 1048576) (hn : ring + 16 * a + 16 ≤ xs.length) :
    Calls Try.prog 41 #[.pointer (some ⟨gq, 0, none⟩), .agg #[.int .i64 (a : Int), .bool v]] w fun e w' => e = .returned (deAt xs (ring + 16 * a)).v ∧ St F w (stars [memA g xs, box gq 90 cs]) w' := by
  obtain ⟨L, hL⟩ : ∃ L, [box (w.heap.size + 1) 100 #[.int .u64 0, .int .u32 0, .int .i64 0, .int .i64 0], box w.heap.size 69 #[.int .i64 (a : Int), .bool v], memA g xs, box gq 90 cs] = L := ⟨_, rfl⟩
  have HOf : ∀ W, St F w (stars L) W → Calls Try.prog 58 #[.pointer (some ⟨gq, 0, none⟩), .agg #[.int .i64 (a : Int), .bool v]] W fun e w' => e = .returned (.int .i64 ((ring + 16 * a : Nat) : Int)) ∧ Below W.heap.size W w' := fun W hW => by
    subst hL
    have hB := hW.blk 3 (by simp) rfl
    exact offset_v (w := W) (gq := gq) (ring := ring) ⟨hB.lt, (hB.cell 1).trans h1⟩ a v hr
  obtain ⟨n, hn'⟩ : ∃ n, ring + 16 * a = n := ⟨_, rfl⟩
  rw [hn'] at HOf hn ⊢
  have HOf := Lib.hid HOf
  have HRd : ∀ W, St F w (stars L) W → Calls Try.prog 46 #[.pointer (some ⟨g, 0, none⟩), .int .i64 (n : Int), .int .i64 16] W fun e w' => e = .returned (.tuple #[.string ⟨((xs.drop n).take 16).toArray⟩, .int .i64 0]) ∧ St F w (stars L) w' := fun W hW => by
    subst hL
    obtain ⟨F1, hA, hb⟩ := hW.at 2 (by simp)
    exact (memA_read hA n 16 hn).mono fun _ _ ⟨he, hs⟩ => ⟨he, hb _ _ hs⟩
  have HPa := fun W => parse_cut xs n hn W
  generalize (⟨((xs.drop n).take 16).toArray⟩ : ByteArray) = S at HRd HPa
  obtain ⟨d, hd⟩ : ∃ d, deAt xs n = d := ⟨_, rfl⟩
  rw [hd] at HPa ⊢
  have HRd := Lib.hid HRd
  have HPa := Lib.hid HPa
  have H0 := Lib.hid h0
  have S0 := ((St.start h).push 69 #[.int .i64 (a : Int), .bool v]).push 100 #[.int .u64 0, .int .u32 0, .int .i64 0, .int .i64 0]
  have e1 : (w.alloc (.cells #[.int .i64 (a : Int), .bool v] 69)).heap.size = w.heap.size + 1 := by simp
  rw [e1] at S0
  have DD := Lib.hid (DS.of S0.drew H0)
  have hlt : gq < w.heap.size := ((St.start h).blk 1 (by simp) rfl).lt
  have hne := Nat.ne_of_lt hlt
  have p0 : w.cell? ⟨gq, 0, none⟩ = some (.pointer (some ⟨g, 0, none⟩)) := (((St.start h).blk 1 (by simp) rfl).cell 0).trans h0
  have HL := Lib.hid hL
  clear S0 h hd hn' h0 h1 hr hn e1
  unfold De.v at HPa
  go_enter Try.func41, Try.ntmps41
  go_wp2_with fail
  rw [hL] at DD
  clear hL
  go_region_held3 (fun W => (W.cell? ⟨w.heap.size, 0, none⟩ = some (.int .i64 (a : Int)) ∧ W.cell? ⟨w.heap.size, 1, none⟩ = some (.bool v) ∧ W.cell? ⟨gq, 0, none⟩ = some (.pointer (some ⟨g, 0, none⟩))) ∧ St F w (stars L) W)
    ((refine (id (α := DS F w w.heap.size gq g L (.int .i64 (a : Int)) (.bool v) _) ?_); with_reducible (first | exact DD.out | exact D1 | exact D2)))
    (first
      | (go_at_call 58; ((with_reducible refine (HOf.out _ DD.out.st).mono ?_); rintro e w1 ⟨rfl, hq⟩; have D1 : DS F w w.heap.size gq g L (.int .i64 (a : Int)) (.bool v) w1 := (by have hL := HL.out; subst hL; exact DS.next DD.out H0 hq)))
      | (go_at_call 46; ((with_reducible refine (HRd.out _ D1.st).mono ?_); rintro e w2 ⟨rfl, hs⟩; have D2 : DS F w w.heap.size gq g L (.int .i64 (a : Int)) (.bool v) w2 := (by have hL := HL.out; subst hL; exact DS.of hs H0))))
  have hL := HL.out
  subst hL
  have S2 := D2.st
  have S2 := Lib.hid S2
  clear DD HOf HRd D1 D2 hs HL H0 p0 hlt hne
  go_wp2_with fail
  refine (HPa.out _).mono ?_
  rintro e w3 ⟨rfl, hb⟩
  have S3 := S2.out.below hb
  have k := S3.blk 0 (by simp) rfl
  have z0 := k.frozen 0
  have z1 := k.frozen 1
  have z2 := k.frozen 2
  have z3 := k.frozen 3
  have c0 := k.cell 0
  have c1 := k.cell 1
  have c2 := k.cell 2
  have c3 := k.cell 3
  simp only [List.getElem?_toArray, List.getElem?_cons_zero, List.getElem?_cons_succ] at c0 c1 c2 c3
  have hlt2 := k.lt
  have hne2 := Nat.ne_of_lt hlt2
  have HF := Lib.hid (S3.put4 0 (by simp) rfl (.int .u64 (d.a : Int)) (.int .u32 (d.n : Int)) (.int .i64 (d.id : Int)) (.int .i64 (d.f : Int)))
  clear S2 S3 k hb HPa
  go_wp2_with fail
  have HG := HF.out.alloc (.cells #[.int .u64 (d.a : Int), .int .u32 (d.n : Int), .int .i64 (d.id : Int), .int .i64 (d.f : Int)] 100)
  exact bodyPost_ret (v := d.v) (four_results _ _ _ 4 (w.heap.size + 1) rfl rfl _ _ _ _ (HG.blk 0 (by simp) rfl)) rfl ⟨rfl, HG.pop.pop⟩
end Go.Proofs.Ytbpgblmhacpjlaa
