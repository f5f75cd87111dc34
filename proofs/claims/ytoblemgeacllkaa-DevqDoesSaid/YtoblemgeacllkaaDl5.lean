/-
  What the laws of a queue's world share: laid over a law's world; a call of its script; no condition.
-/
import Derived.Test.YtoblemgeacllkaaDl3
import Derived.Test.YtoblemgeacllkaaDl4
namespace Go.Proofs.Ytoblemgeacllkaa
open Go.RowKit

theorem laid_good (b r z x y : Int) (S : Value) (hL : layB (List.replicate (bytesN b) 0) r z x y = true) (w : World) :
    Calls Try.prog 7 #[.agg #[.int .i64 b, .int .i64 r, .int .i64 z, .int .i64 x, .int .i64 y, S]] w fun e w' =>
      ∃ gq g gb gx, e = .returned (.tuple #[.pointer (some ⟨g, 0, none⟩), .pointer (some ⟨gq, 0, none⟩), .pointer (some ⟨gx, 0, none⟩), .bool true]) ∧ Ow w gq g gb (List.replicate (bytesN b) 0) (newQ r z x y) w' := by
  refine (laid_any b r z x y S w).mono fun e w' h => ?_
  unfold LaidP at h
  rw [hL] at h
  obtain ⟨hb, h⟩ := h
  rw [if_pos rfl] at h
  obtain ⟨gq, g, gb, gx, gk, lv, he, hl⟩ := h
  exact ⟨gq, g, gb, gx, he, ⟨⟨lv, hl.own⟩, hb⟩⟩
theorem laid_none (b r z x y : Int) (S : Value) (hL : layB (List.replicate (bytesN b) 0) r z x y = false) (w : World) :
    Calls Try.prog 7 #[.agg #[.int .i64 b, .int .i64 r, .int .i64 z, .int .i64 x, .int .i64 y, S]] w fun e w' =>
      ∃ p, e = .returned (.tuple #[p, .pointer none, .pointer none, .bool true]) ∧ Below w.heap.size w w' := by
  refine (laid_any b r z x y S w).mono fun e w' h => ?_
  unfold LaidP at h
  rw [hL] at h
  obtain ⟨hb, h⟩ := h
  rw [if_neg (by simp)] at h
  obtain ⟨p, he⟩ := h
  exact ⟨p, he, hb⟩
/-- a script's call at a place, cell by cell -/
theorem OpsAt.op {A : Option Addr} {n : Nat} {w : World} (h : OpsAt A n w) (i : Nat) (hi : i < n) : ∃ b off, ∃ o : OpV, A = some ⟨b, off, none⟩ ∧ o.Ok ∧ b < w.heap.size ∧ (w.cell? ⟨b, off + i * 13, none⟩ = some (.int .i64 o.k) ∧ w.cell? ⟨b, off + i * 13 + 1, none⟩ = some (.int .i64 o.a) ∧ w.cell? ⟨b, off + i * 13 + 2, none⟩ = some (.int .u64 (o.da : Int)) ∧ w.cell? ⟨b, off + i * 13 + 3, none⟩ = some (.int .u32 (o.dn : Int)) ∧
      w.cell? ⟨b, off + i * 13 + 4, none⟩ = some (.int .i64 o.di) ∧ w.cell? ⟨b, off + i * 13 + 5, none⟩ = some (.int .i64 o.df) ∧ w.cell? ⟨b, off + i * 13 + 6, none⟩ = some (.string o.s) ∧ w.cell? ⟨b, off + i * 13 + 7, none⟩ = some (.int .i64 o.n) ∧ w.cell? ⟨b, off + i * 13 + 8, none⟩ = some (.int .i64 o.wr) ∧
      w.cell? ⟨b, off + i * 13 + 9, none⟩ = some (.int .i64 o.eo) ∧ w.cell? ⟨b, off + i * 13 + 10, none⟩ = some (.bool o.ew) ∧ w.cell? ⟨b, off + i * 13 + 11, none⟩ = some (.int .i64 o.ef) ∧ w.cell? ⟨b, off + i * 13 + 12, none⟩ = some (.bool o.v)) := by
  obtain ⟨b, off, hA, hb, hc⟩ := h (by omega)
  obtain ⟨o, ho, hj⟩ := hc i hi
  simp only [← Nat.add_assoc] at hj
  exact ⟨b, off, o, hA, ho, hb, hj 0 _ rfl, hj 1 _ rfl, hj 2 _ rfl, hj 3 _ rfl, hj 4 _ rfl, hj 5 _ rfl, hj 6 _ rfl, hj 7 _ rfl, hj 8 _ rfl, hj 9 _ rfl, hj 10 _ rfl, hj 11 _ rfl, hj 12 _ rfl⟩
/-- the world's variable and the script's call at a place, cell by cell -/
def WF (g0 : Nat) (r z x y : Int) (b1 off n c i : Nat) (o : OpV) (w : World) : Prop :=
  (w.cell? ⟨g0, 1, none⟩ = some (.int .i64 r) ∧ w.cell? ⟨g0, 2, none⟩ = some (.int .i64 z) ∧ w.cell? ⟨g0, 3, none⟩ = some (.int .i64 x) ∧ w.cell? ⟨g0, 4, none⟩ = some (.int .i64 y) ∧ w.cell? ⟨g0, 5, none⟩ = some (.slice (some ⟨b1, off, none⟩) n c)) ∧
    (w.cell? ⟨b1, off + i * 13, none⟩ = some (.int .i64 o.k) ∧ w.cell? ⟨b1, off + i * 13 + 1, none⟩ = some (.int .i64 o.a) ∧ w.cell? ⟨b1, off + i * 13 + 2, none⟩ = some (.int .u64 (o.da : Int)) ∧ w.cell? ⟨b1, off + i * 13 + 3, none⟩ = some (.int .u32 (o.dn : Int)) ∧
      w.cell? ⟨b1, off + i * 13 + 4, none⟩ = some (.int .i64 o.di) ∧ w.cell? ⟨b1, off + i * 13 + 5, none⟩ = some (.int .i64 o.df) ∧ w.cell? ⟨b1, off + i * 13 + 6, none⟩ = some (.string o.s) ∧ w.cell? ⟨b1, off + i * 13 + 7, none⟩ = some (.int .i64 o.n) ∧ w.cell? ⟨b1, off + i * 13 + 8, none⟩ = some (.int .i64 o.wr) ∧
      w.cell? ⟨b1, off + i * 13 + 9, none⟩ = some (.int .i64 o.eo) ∧ w.cell? ⟨b1, off + i * 13 + 10, none⟩ = some (.bool o.ew) ∧ w.cell? ⟨b1, off + i * 13 + 11, none⟩ = some (.int .i64 o.ef) ∧ w.cell? ⟨b1, off + i * 13 + 12, none⟩ = some (.bool o.v))
theorem WF.next {g0 : Nat} {r z x y : Int} {b1 off n c i : Nat} {o : OpV} {w w' : World} (h : WF g0 r z x y b1 off n c i o w) (h0 : g0 < w.heap.size) (h1 : b1 < w.heap.size) (hq : Below w.heap.size w w') : WF g0 r z x y b1 off n c i o w' := by
  have e0 : ∀ j, w'.cell? ⟨g0, j, none⟩ = w.cell? ⟨g0, j, none⟩ := fun j => hq.cell (p := ⟨g0, j, none⟩) h0
  have e1 : ∀ j, w'.cell? ⟨b1, j, none⟩ = w.cell? ⟨b1, j, none⟩ := fun j => hq.cell (p := ⟨b1, j, none⟩) h1
  unfold WF at h ⊢
  simp only [e0, e1]
  exact h
def WFs (g0 : Nat) (r z x y : Int) (b1 off n c i : Nat) (o : OpV) (w w' : World) : Prop := WF g0 r z x y b1 off n c i o w' ∧ Below w.heap.size w w' ∧ g0 < w.heap.size ∧ b1 < w.heap.size
theorem WFs.start {g0 : Nat} {r z x y : Int} {b1 off n c i : Nat} {o : OpV} {w : World} (h : WF g0 r z x y b1 off n c i o w) (h0 : g0 < w.heap.size) (h1 : b1 < w.heap.size) : WF g0 r z x y b1 off n c i o w.drew ∧ WFs g0 r z x y b1 off n c i o w w.drew := ⟨h.next h0 h1 (Below.refl _ _).drew, h.next h0 h1 (Below.refl _ _).drew, (Below.refl _ _).drew, h0, h1⟩
theorem WFs.after {g0 : Nat} {r z x y : Int} {b1 off n c i : Nat} {o : OpV} {w w1 w2 : World} (h : WF g0 r z x y b1 off n c i o w1 ∧ WFs g0 r z x y b1 off n c i o w w1) (hq : Below w1.heap.size w1 w2) : WF g0 r z x y b1 off n c i o w2 ∧ WFs g0 r z x y b1 off n c i o w w2 := by
  obtain ⟨-, hw, hb, h0, h1⟩ := h
  have := hb.size
  have hn := hw.next (by omega) (by omega) hq
  exact ⟨hn, hn, b0 hb hq, h0, h1⟩
end Go.Proofs.Ytoblemgeacllkaa
