/-
  Add and Del of a filter that stands in a variable: the answer in a variable of its own; masks; no condition.
-/
import Derived.Test.YtboinnejkghfiaaFx
namespace Go.Proofs.Ytboinnejkghfiaa
open Go.RowKit

/-- what Add (Del) of F hands back, beside the variables L -/
def StepP (w0 : World) (L : List (Nat × Fl)) (F : Fl) (X : List Int) (e : Ending) (w' : World) : Prop :=
  ∃ (U : Option Addr) (uc : Nat) (M : Option Addr) (mc : Nat) (V : Option Addr) (vc : Nat), e = .returned (.tuple #[({ F with U := U, uc := uc, M := M, mc := mc, vs := X, V := V, vc := vc } : Fl).val, .int .i64 0]) ∧ Vs w0 L w' ∧
    Vs w0 ((w'.heap.size, { F with U := U, uc := uc, M := M, mc := mc, vs := X, V := V, vc := vc }) :: L) (w'.alloc (.cells ({ F with U := U, uc := uc, M := M, mc := mc, vs := X, V := V, vc := vc } : Fl).cells 25))
theorem step_of {w0 w w' : World} {L : List (Nat × Fl)} {F : Fl} {X : List Int} {g : Nat} {e : Ending} (h : Vs w0 L w) (hm : (g, F) ∈ L) (hX : X.length ≤ 100) (hs : SetP F X w e w') : StepP w0 L F X e w' := by
  obtain ⟨G, hS, rfl, hO, hb⟩ := hs
  have h' := h.next hb
  obtain ⟨mac, pr, au, am, nu, nm, na, U, us, uc, M, ms, mc, vo, V, vs, vc⟩ := G
  obtain ⟨e0, e1, e2, e3, e4, e5, e6, e7, e8, e9, e10⟩ := hS
  simp only at e0 e1 e2 e3 e4 e5 e6 e7 e8 e9 e10
  subst e0 e1 e2 e3 e4 e5 e6 e7 e8 e9 e10
  have hf := h.few hm
  exact ⟨U, uc, M, mc, V, vc, rfl, h', h'.new (hO.at (Nat.le_refl _)) ⟨hf.u, hf.m, hX⟩ (fun q hq => hO.off (h.lt (F := q.2) hq))⟩
theorem add_step {w0 w : World} {L : List (Nat × Fl)} {F : Fl} {X : List Int} {g : Nat} {n : Int} (h : Vs w0 L w) (hm : (g, F) ∈ L) (hn : isV n = true) (ha : ascB F.vs = true) (hX : addL F.vs n = X) (hl : X.length ≤ 100) :
    Calls Try.prog 15 #[F.val, .int .i64 n] w (StepP w0 L F X) := by
  subst hX
  exact (add_any F n w.heap.size w (h.at hm) (Nat.le_refl _) (h.few hm) hn ha).mono fun _ _ hs => step_of h hm hl hs
theorem del_step {w0 w : World} {L : List (Nat × Fl)} {F : Fl} {X : List Int} {g : Nat} {n : Int} (h : Vs w0 L w) (hm : (g, F) ∈ L) (hn : isV n = true) (ha : ascB F.vs = true) (hX : delL F.vs n = X) (hl : X.length ≤ 100) :
    Calls Try.prog 17 #[F.val, .int .i64 n] w (StepP w0 L F X) := by
  subst hX
  exact (del_any F n w.heap.size w (h.at hm) (Nat.le_refl _) (h.few hm) hn ha).mono fun _ _ hs => step_of h hm hl hs
theorem same_step {w0 w : World} {L : List (Nat × Fl)} {F G : Fl} {g k : Nat} (h : Vs w0 L w) (hm : (g, F) ∈ L) (hk : (k, G) ∈ L) (hS : F.Same G) :
    Calls Try.prog 18 #[F.val, G.val] w fun e w' => e = .returned (.bool true) ∧ Vs w0 L w' :=
  (same_yes F G w.heap.size w hS (h.at hm) (h.at hk) (Nat.le_refl _) (h.few hm)).mono fun _ _ hs => ⟨hs.1, h.next hs.2⟩
theorem fixed_step {w0 w : World} {L : List (Nat × Fl)} (h : Vs w0 L w) : Calls Try.prog 10 #[] w fun e w' => e = .returned (.bool true) ∧ Vs w0 L w' :=
  (fixed_any w).mono fun _ _ hs => ⟨hs.1, h.next hs.2⟩
/-- a number of a network out of any number -/
theorem low12 (n : Int) : ∃ X N : Int, bits .and .i64 n 65535 = X ∧ Int.tmod X 4095 = N ∧ isV N = true ∧ 0 ≤ X ∧ X ≤ 65535 := by
  have hX : bits .and .i64 n 65535 = n % 65536 := by
    have e : (BitVec.ofInt 64 65535).toNat = 2 ^ 16 - 1 := by decide
    have k : (BitVec.ofInt 64 n &&& BitVec.ofInt 64 65535).toNat = (n % ((2 ^ 64 : Nat) : Int)).toNat % 2 ^ 16 := by
      rw [BitVec.toNat_and, BitVec.toNat_ofInt, e, Nat.and_two_pow_sub_one_eq_mod]
    show IntKind.i64.wrap ((BitVec.ofInt 64 n &&& BitVec.ofInt 64 65535).toNat : Nat) = _
    rw [k, IntKind.wrap_i64]
    omega
  refine ⟨n % 65536, Int.tmod (n % 65536) 4095, hX, rfl, ?_, by omega, by omega⟩
  rw [Int.tmod_eq_emod_of_nonneg (by omega), isV, Bool.and_eq_true, decide_eq_true_eq, decide_eq_true_eq]
  omega
end Go.Proofs.Ytboinnejkghfiaa
