/-
  A row of noughts, made in one region with other calls, and its text; chains of worlds; no condition.
-/
import Derived.Test.YtjcnjigmeopllaaLaw
import Derived.Test.YtjcnjigmeopllaaOne
import Derived.Deep.RegionWith
import Derived.Deep.RegionHeld3
namespace Go.Proofs.Ytjcnjigmeopllaa
open Go.RowKit

theorem bl {w w1 w2 : World} (h : Below w.heap.size w w1) (g : Below w1.heap.size w1 w2) : Below w.heap.size w w2 := h.trans (g.mono h.size)
theorem bla {w w1 : World} (h : Below w.heap.size w w1) (o : Obj) : Below w.heap.size w (w1.alloc o) := h.alloc h.size o
def zeroS (n : Nat) : ByteArray := ⟨(List.replicate n (0 : UInt8)).toArray⟩
theorem zeroS_size (n : Nat) : (zeroS n).size = n := by
  show (List.replicate n (0 : UInt8)).toArray.size = n
  simp
def Cells (g : Nat) (xs : List UInt8) (w : World) : Prop := ∀ (j : Nat) (hj : j < xs.length), w.cell? ⟨g, j, none⟩ = some (byteV xs[j])
theorem Cells.text {g : Nat} {xs : List UInt8} {w : World} (h : Cells g xs w) (cap : Nat) :
    (convert 32 9 (.slice (some ⟨g, 0, none⟩) xs.length cap)).run Try.prog w = .ok (.string ⟨xs.toArray⟩) w := by
  refine run_convert_bytes_back w 32 9 5 ⟨g, 0, none⟩ cap xs Try.underlying32 Try.underlying5 Try.underlying9 ?_
  intro j hj
  have e : (⟨g, 0, none⟩ : Addr).add j = ⟨g, j, none⟩ := by unfold Addr.add; split <;> simp_all
  rw [e]; exact h j hj
theorem zero_made (K : Nat) (hK : K ≤ 5000) : ∃ Zc : Array Value,
    (∀ W : World, (Instr.makeSlice 32 (.int .i64 K) (.int .i64 K)).run Try.prog W = .ok (.slice (some ⟨W.heap.size, 0, none⟩) K K) (W.alloc (.cells Zc 5))) ∧
    (∀ W W' : World, Below (W.heap.size + 1) (W.alloc (.cells Zc 5)) W' → (convert 32 9 (.slice (some ⟨W.heap.size, 0, none⟩) K K)).run Try.prog W' = .ok (.string (zeroS K)) W') := by
  obtain ⟨i0, hi, hz0, hz1, hz2⟩ := info_parts Try.info5
  have hm := fun W : World => run_make W 32 5 i0 (.int .u8 0) Try.underlying32 hi hz0 .i64 .i64 (K : Int) (K : Int) (by omega) (by omega) (by rw [hz2]; omega) (by omega)
  rw [hz1, Nat.mul_one] at hm
  have ez : madeCells (Value.cells (.int .u8 0)) ((K : Int).toNat) = (List.replicate K (Value.int .u8 0)).toArray := by
    apply Array.ext'
    rw [Int.toNat_natCast]
    exact toList_madeCells_one (.int .u8 0) K
  rw [ez] at hm
  have hc : ∀ W W' : World, Below (W.heap.size + 1) (W.alloc (.cells (List.replicate K (Value.int .u8 0)).toArray 5)) W' → Cells W.heap.size (List.replicate K 0) W' := by
    intro W W' hb j hj
    have hj2 : j < K := by simpa using hj
    rw [hb.cell (p := ⟨W.heap.size, j, none⟩) (by simp), World.cell?_alloc_mark]
    simp [hj2, byteV]
  refine ⟨_, fun W => by have := hm W; simpa using this, fun W W' hb => ?_⟩
  have ht := (hc W W' hb).text K
  rw [List.length_replicate] at ht
  exact ht
theorem zero_forms {K : Nat} {Zc : Array Value} (h : ∀ W W' : World, Below (W.heap.size + 1) (W.alloc (.cells Zc 5)) W' → (convert 32 9 (.slice (some ⟨W.heap.size, 0, none⟩) K K)).run Try.prog W' = .ok (.string (zeroS K)) W') :
    (∀ W : World, (convert 32 9 (.slice (some ⟨W.heap.size, 0, none⟩) K K)).run Try.prog (W.alloc (.cells Zc 5)) = .ok (.string (zeroS K)) (W.alloc (.cells Zc 5))) ∧
    (∀ W : World, (convert 32 9 (.slice (some ⟨W.heap.size, 0, none⟩) K K)).run Try.prog (W.alloc (.cells Zc 5)).drew = .ok (.string (zeroS K)) (W.alloc (.cells Zc 5)).drew) :=
  ⟨fun W => h W _ (Below.refl _ _), fun W => h W _ (Below.refl _ _).drew⟩
end Go.Proofs.Ytjcnjigmeopllaa
