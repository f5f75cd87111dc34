/-
  What gmem's Log and the document's Same answer, and what they leave: for every memory; of two equal lists of accesses.
-/
import Derived.Test.YtjcnjigmeopllaaKept
namespace Go.Proofs.Ytjcnjigmeopllaa
open Go.RowKit

section
variable {B g gb : Nat} {lv : Value} {xs : List UInt8} {ag : Int} {lg : List Acc} {w : World}
/-- what Log leaves -/
def Logged (B g gb : Nat) (lv : Value) (xs : List UInt8) (ag : Int) (lg : List Acc) (w : World) (e : Ending) (w' : World) : Prop :=
  ∃ A cap, e = .returned (.slice A lg.length cap) ∧ w'.ownsRow w.heap.size 44 4 (.slice A lg.length cap) lg.length (logCells lg) ∧ Mem B g gb (.slice none 0 0) xs ag [] w' ∧ Touch g gb lv w w'
theorem logged_mk {w1 : World} {A : Option Addr} {cap : Nat} (h : Mem B g gb lv xs ag lg w) (ho : w1.ownsRow w.heap.size 44 4 (.slice A lg.length cap) lg.length (logCells lg)) (hb : Below w.heap.size w w1) :
    Logged B g gb lv xs ag lg w (.returned (.slice A lg.length cap)) ((w1.setCell ⟨g, 2, none⟩ (.slice none 0 0)).setCell ⟨g, 3, none⟩ (.int .i64 0)) := by
  have hg := h.blk.lt
  have hgb := h.row.lt
  have s : ∀ k, k ≠ g → ((w1.setCell ⟨g, 2, none⟩ (.slice none 0 0)).setCell ⟨g, 3, none⟩ (.int .i64 0)).heap[k]? = w1.heap[k]? := fun k hk => (Below.heap_setCell _ _ _ _ hk).trans (Below.heap_setCell _ _ _ _ hk)
  have hbk := ((h.blk.same (hb.block g hg)).put 2 (.slice none 0 0)).put 3 (.int .i64 0)
  refine ⟨A, cap, rfl, own_same ho (fun k hk => s k (fun e => ?_)), ⟨h.hB, h.hBb, hbk, (h.row.same (hb.block gb hgb)).same (s gb h.ne.symm), World.ownsRow_nil _ _ _ _, h.len, h.pos⟩, ?_⟩
  · have := (ho.lt k hk).1; omega
  · refine ⟨hb.os, hb.tape, hb.output, ?_, fun k hk a _ _ => (s k a).trans (hb.block k hk)⟩
    have := hb.size
    simp [World.setCell]; omega
set_option maxHeartbeats 1000000 in
theorem log_m (h : Mem B g gb lv xs ag lg w) (hl : lg.length ≤ 4096) : Calls Try.prog 15 #[.pointer (some ⟨g, 0, none⟩)] w (Logged B g gb lv xs ag lg w) := by
  have HM := Lib.hid h
  have HK := Lib.hid (kept_m h hl)
  have hg := h.blk.lt
  have hc2 := h.c2
  have hc3 := h.c3
  have hf := h.fz
  have HF := Lib.hid hf
  clear h hf
  go_enter Try.func15, Try.ntmps15
  go_wp2_with (go_at_call 24; ((with_reducible refine HK.out.mono ?_); rintro e w1 ⟨v, rfl, ho, hb⟩; obtain ⟨A, cap, rfl⟩ := own_form ho; have HO := Lib.hid ho; have k2 := (hb.cell (p := ⟨g, 2, none⟩) hg).trans hc2; have k3 := (hb.cell (p := ⟨g, 3, none⟩) hg).trans hc3; have f2 := (hb.frozen (p := ⟨g, 2, none⟩) hg).trans (HF.out 2); have f3 := (hb.frozen (p := ⟨g, 3, none⟩) hg).trans (HF.out 3); clear ho hc2 hc3))
  go_ret
  exact logged_mk HM.out HO.out hb
end

/-- A slice whose cells are those of the accesses. -/
def LogAt (A : Option Addr) (lg : List Acc) (w : World) : Prop := 0 < lg.length → ∃ gl, A = some ⟨gl, 0, none⟩ ∧ gl < w.heap.size ∧ ∀ j u, (logCells lg)[j]? = some u → w.cell? ⟨gl, j, none⟩ = some u
theorem LogAt.of_own {w : World} {B : Nat} {A : Option Addr} {cap : Nat} {lg : List Acc} (h : w.ownsRow B 44 4 (.slice A lg.length cap) lg.length (logCells lg)) : LogAt A lg w := by
  intro hn
  obtain ⟨gl, cap', hv, _, hlt⟩ := h.form hn
  have hA : A = some ⟨gl, 0, none⟩ := by injection hv
  subst hA
  refine ⟨gl, rfl, hlt, fun j u hu => ?_⟩
  have := h.cells (g := gl) rfl j u hu
  rwa [Addr.add_lit, Nat.zero_add] at this
theorem LogAt.below {w w' : World} {A : Option Addr} {lg : List Acc} (h : LogAt A lg w) (hb : Below w.heap.size w w') : LogAt A lg w' := by
  intro hn
  obtain ⟨gl, hA, hlt, hc⟩ := h hn
  exact ⟨gl, hA, by have := hb.size; omega, fun j u hu => (hb.cell (p := ⟨gl, j, none⟩) hlt).trans (hc j u hu)⟩
theorem LogAt.of_blk {w : World} {gl : Nat} {lg : List Acc} {cs : Array Value} (h : Blk w gl 44 cs) (hcs : cs = (logCells lg).toArray) : LogAt (some ⟨gl, 0, none⟩) lg w := by
  intro _
  subst hcs
  refine ⟨gl, rfl, h.lt, fun j u hu => ?_⟩
  rw [h.cell j]
  simpa using hu
theorem logCells_get (lg : List Acc) (k : Nat) (hk : k < lg.length) (j : Nat) (hj : j < 4) : (logCells lg)[k * 4 + j]? = (accCells lg[k])[j]? := by
  induction lg generalizing k with
  | nil => simp at hk
  | cons a l ih =>
    have e : logCells (a :: l) = accCells a ++ logCells l := rfl
    have h4 : (accCells a).length = 4 := rfl
    rw [e]
    cases k with
    | zero =>
      rw [List.getElem?_append_left (by omega)]
      simp
    | succ k =>
      rw [List.getElem?_append_right (by omega), h4, show (k + 1) * 4 + j - 4 = k * 4 + j by omega]
      exact ih k (by simpa using hk)
theorem LogAt.acc {w : World} {A : Option Addr} {lg : List Acc} (h : LogAt A lg w) (k : Nat) (hk : k < lg.length) :
    ∃ gl, A = some ⟨gl, 0, none⟩ ∧ w.cell? ⟨gl, k * 4, none⟩ = some (.int .i64 lg[k].ag) ∧ w.cell? ⟨gl, k * 4 + 1, none⟩ = some (.int .i64 lg[k].at_) ∧ w.cell? ⟨gl, k * 4 + 2, none⟩ = some (.int .i64 lg[k].n) ∧ w.cell? ⟨gl, k * 4 + 3, none⟩ = some (.bool lg[k].wr) := by
  obtain ⟨gl, hA, _, hc⟩ := h (by omega)
  exact ⟨gl, hA, hc _ _ (logCells_get lg k hk 0 (by omega)), hc _ _ (logCells_get lg k hk 1 (by omega)), hc _ _ (logCells_get lg k hk 2 (by omega)), hc _ _ (logCells_get lg k hk 3 (by omega))⟩

set_option maxHeartbeats 1000000 in
theorem same_yes (lg : List Acc) (A A' : Option Addr) (c c' : Nat) (w : World) (hl : lg.length ≤ 8192) (h1 : LogAt A lg w) (h2 : LogAt A' lg w) :
    Calls Try.prog 17 #[.slice A lg.length c, .slice A' lg.length c'] w fun e w' => e = .returned (.bool true) ∧ Below w.heap.size w w' := by
  have H1 := Lib.hid h1
  have H2 := Lib.hid h2
  clear h1 h2
  go_enter Try.func17, Try.ntmps17
  go_wp2
  go_loopw [5] (fun i wr => ∃ k : Nat, k ≤ lg.length ∧ i = .int .i64 k ∧ Below w.heap.size w wr) (fun i _ => lg.length - (intOf i).toNat)
  case atStart => exact ⟨0, Nat.zero_le _, rfl, Below.refl _ _⟩
  case round =>
    obtain ⟨k, hk, rfl, hb⟩ := hrel
    by_cases hlt : k < lg.length
    · obtain ⟨g1, rfl, c1, c2, c3, c4⟩ := (H1.out.below hb).acc k hlt
      obtain ⟨g2, rfl, d1, d2, d3, d4⟩ := (H2.out.below hb).acc k hlt
      go_wp2_with fail
      have e1 : (0 : Int) ≤ (k : Int) := by omega
      have e2 : (k : Int) < (lg.length : Int) := by omega
      go_quiet (fail)
      go_wp2
      go_roundw
      case rel => exact ⟨k + 1, by omega, by go_num, below_drewN hb _⟩
      case measure => simp [intOf]; omega
    · go_wp2
      go_ret
      exact ⟨rfl, hb⟩
end Go.Proofs.Ytjcnjigmeopllaa
