/-
  What filter.Check and the document's Check answer, for every filter; no condition.
-/
import Derived.Test.YtongkfimgohhbaaSm
namespace Go.Proofs.Ytongkfimgohhbaa
open Go.RowKit

/-- may a filter be? -/
def filB (F : Fl) : Bool := (kindV F.mac == 1) && macsB F.us 1 && macsB F.ms 2 && ascB F.vs
def chkV (F : Fl) : Int := if filB F = true then 0 else 160
structure Fl.Few (F : Fl) : Prop where
  u : F.us.length ≤ 400
  m : F.ms.length ≤ 400
  v : F.vs.length ≤ 400
theorem check_0 (mac : ByteArray) (pr au am nu nm na vo : Bool) (U M V : Option Addr) (us ms : List ByteArray) (vs : List Int) (uc mc vc : Nat) (w : World) (h0 : (kindV mac != 1) = true) :
    Calls Try.prog 23 #[.agg #[.string mac, .bool pr, .bool au, .bool am, .bool nu, .bool nm, .bool na, .slice U us.length uc, .slice M ms.length mc, .bool vo, .slice V vs.length vc]] w fun e w' => e = .returned (.int .i64 160) ∧ Below w.heap.size w w' := by
  have H0 := Lib.hid akind_any
  go_enter Try.func23, Try.ntmps23
  go_wp2_with (first | (go_at_call 42; ((with_reducible refine (H0.out _ _).mono ?_); rintro e w' ⟨rfl, rfl⟩)))
  go_ret
  exact ⟨rfl, (Below.refl _ _).alloc (Nat.le_refl _) _⟩
theorem check_1 (mac : ByteArray) (pr au am nu nm na vo : Bool) (U M V : Option Addr) (us ms : List ByteArray) (vs : List Int) (uc mc vc : Nat) (w : World) (h0 : (kindV mac != 1) = false) (A1 : ∀ W, Below w.heap.size w W → Calls Try.prog 43 #[.slice U us.length uc, .int .i64 1] W fun e w' => e = .returned (.bool false) ∧ W = w') :
    Calls Try.prog 23 #[.agg #[.string mac, .bool pr, .bool au, .bool am, .bool nu, .bool nm, .bool na, .slice U us.length uc, .slice M ms.length mc, .bool vo, .slice V vs.length vc]] w fun e w' => e = .returned (.int .i64 160) ∧ Below w.heap.size w w' := by
  have H0 := Lib.hid akind_any
  have H1 := Lib.hid A1
  clear A1
  go_enter Try.func23, Try.ntmps23
  go_wp2_with (first | (go_at_call 42; ((with_reducible refine (H0.out _ _).mono ?_); rintro e w' ⟨rfl, rfl⟩)) | (go_at_call 43; ((with_reducible refine (H1.out _ ((Below.refl _ _).alloc (Nat.le_refl _) _)).mono ?_); rintro e w' ⟨rfl, rfl⟩)))
  go_ret
  exact ⟨rfl, (Below.refl _ _).alloc (Nat.le_refl _) _⟩
theorem check_2 (mac : ByteArray) (pr au am nu nm na vo : Bool) (U M V : Option Addr) (us ms : List ByteArray) (vs : List Int) (uc mc vc : Nat) (w : World) (h0 : (kindV mac != 1) = false) (A1 : ∀ W, Below w.heap.size w W → Calls Try.prog 43 #[.slice U us.length uc, .int .i64 1] W fun e w' => e = .returned (.bool true) ∧ W = w') (A2 : ∀ W, Below w.heap.size w W → Calls Try.prog 43 #[.slice M ms.length mc, .int .i64 2] W fun e w' => e = .returned (.bool false) ∧ W = w') :
    Calls Try.prog 23 #[.agg #[.string mac, .bool pr, .bool au, .bool am, .bool nu, .bool nm, .bool na, .slice U us.length uc, .slice M ms.length mc, .bool vo, .slice V vs.length vc]] w fun e w' => e = .returned (.int .i64 160) ∧ Below w.heap.size w w' := by
  have H0 := Lib.hid akind_any
  have H1 := Lib.hid A1
  clear A1
  have H2 := Lib.hid A2
  clear A2
  go_enter Try.func23, Try.ntmps23
  go_wp2_with (first | (go_at_call 42; ((with_reducible refine (H0.out _ _).mono ?_); rintro e w' ⟨rfl, rfl⟩)) | (go_at_call 43; ((with_reducible refine (H1.out _ ((Below.refl _ _).alloc (Nat.le_refl _) _)).mono ?_); rintro e w' ⟨rfl, rfl⟩)) | (go_at_call 43; ((with_reducible refine (H2.out _ ((Below.refl _ _).alloc (Nat.le_refl _) _)).mono ?_); rintro e w' ⟨rfl, rfl⟩)))
  go_ret
  exact ⟨rfl, (Below.refl _ _).alloc (Nat.le_refl _) _⟩
theorem check_3 (mac : ByteArray) (pr au am nu nm na vo : Bool) (U M V : Option Addr) (us ms : List ByteArray) (vs : List Int) (uc mc vc : Nat) (w : World) (h0 : (kindV mac != 1) = false) (A1 : ∀ W, Below w.heap.size w W → Calls Try.prog 43 #[.slice U us.length uc, .int .i64 1] W fun e w' => e = .returned (.bool true) ∧ W = w') (A2 : ∀ W, Below w.heap.size w W → Calls Try.prog 43 #[.slice M ms.length mc, .int .i64 2] W fun e w' => e = .returned (.bool true) ∧ W = w') (A3 : ∀ W, Below w.heap.size w W → Calls Try.prog 44 #[.slice V vs.length vc] W fun e w' => e = .returned (.bool false) ∧ W = w') :
    Calls Try.prog 23 #[.agg #[.string mac, .bool pr, .bool au, .bool am, .bool nu, .bool nm, .bool na, .slice U us.length uc, .slice M ms.length mc, .bool vo, .slice V vs.length vc]] w fun e w' => e = .returned (.int .i64 160) ∧ Below w.heap.size w w' := by
  have H0 := Lib.hid akind_any
  have H1 := Lib.hid A1
  clear A1
  have H2 := Lib.hid A2
  clear A2
  have H3 := Lib.hid A3
  clear A3
  go_enter Try.func23, Try.ntmps23
  go_wp2_with (first | (go_at_call 42; ((with_reducible refine (H0.out _ _).mono ?_); rintro e w' ⟨rfl, rfl⟩)) | (go_at_call 43; ((with_reducible refine (H1.out _ ((Below.refl _ _).alloc (Nat.le_refl _) _)).mono ?_); rintro e w' ⟨rfl, rfl⟩)) | (go_at_call 43; ((with_reducible refine (H2.out _ ((Below.refl _ _).alloc (Nat.le_refl _) _)).mono ?_); rintro e w' ⟨rfl, rfl⟩)) | (go_at_call 44; ((with_reducible refine (H3.out _ ((Below.refl _ _).alloc (Nat.le_refl _) _)).mono ?_); rintro e w' ⟨rfl, rfl⟩)))
  go_ret
  exact ⟨rfl, (Below.refl _ _).alloc (Nat.le_refl _) _⟩
theorem check_4 (mac : ByteArray) (pr au am nu nm na vo : Bool) (U M V : Option Addr) (us ms : List ByteArray) (vs : List Int) (uc mc vc : Nat) (w : World) (h0 : (kindV mac != 1) = false) (A1 : ∀ W, Below w.heap.size w W → Calls Try.prog 43 #[.slice U us.length uc, .int .i64 1] W fun e w' => e = .returned (.bool true) ∧ W = w') (A2 : ∀ W, Below w.heap.size w W → Calls Try.prog 43 #[.slice M ms.length mc, .int .i64 2] W fun e w' => e = .returned (.bool true) ∧ W = w') (A3 : ∀ W, Below w.heap.size w W → Calls Try.prog 44 #[.slice V vs.length vc] W fun e w' => e = .returned (.bool true) ∧ W = w') :
    Calls Try.prog 23 #[.agg #[.string mac, .bool pr, .bool au, .bool am, .bool nu, .bool nm, .bool na, .slice U us.length uc, .slice M ms.length mc, .bool vo, .slice V vs.length vc]] w fun e w' => e = .returned (.int .i64 0) ∧ Below w.heap.size w w' := by
  have H0 := Lib.hid akind_any
  have H1 := Lib.hid A1
  clear A1
  have H2 := Lib.hid A2
  clear A2
  have H3 := Lib.hid A3
  clear A3
  go_enter Try.func23, Try.ntmps23
  go_wp2_with (first | (go_at_call 42; ((with_reducible refine (H0.out _ _).mono ?_); rintro e w' ⟨rfl, rfl⟩)) | (go_at_call 43; ((with_reducible refine (H1.out _ ((Below.refl _ _).alloc (Nat.le_refl _) _)).mono ?_); rintro e w' ⟨rfl, rfl⟩)) | (go_at_call 43; ((with_reducible refine (H2.out _ ((Below.refl _ _).alloc (Nat.le_refl _) _)).mono ?_); rintro e w' ⟨rfl, rfl⟩)) | (go_at_call 44; ((with_reducible refine (H3.out _ ((Below.refl _ _).alloc (Nat.le_refl _) _)).mono ?_); rintro e w' ⟨rfl, rfl⟩)))
  go_ret
  exact ⟨rfl, (Below.refl _ _).alloc (Nat.le_refl _) _⟩
theorem check_any (F : Fl) (B : Nat) (w : World) (hF : F.At B w) (hB : B ≤ w.heap.size) (hl : F.Few) :
    Calls Try.prog 23 #[F.val] w fun e w' => e = .returned (.int .i64 (chkV F)) ∧ Below w.heap.size w w' := by
  have A1 := fun W (hb : Below w.heap.size w W) => macs_any B F.U F.uc F.us 1 W (hF.u.far hB hb) hl.u
  have A2 := fun W (hb : Below w.heap.size w W) => macs_any B F.M F.mc F.ms 2 W (hF.m.far hB hb) hl.m
  have A3 := fun W (hb : Below w.heap.size w W) => asc_any B F.V F.vc F.vs W (hF.v.far hB hb) hl.v
  have hk : (kindV F.mac != 1) = !(kindV F.mac == 1) := rfl
  unfold chkV filB
  generalize (kindV F.mac == 1) = b0 at *
  generalize macsB F.us 1 = b1 at *
  generalize macsB F.ms 2 = b2 at *
  generalize ascB F.vs = b3 at *
  cases b0
  · exact check_0 F.mac F.pr F.au F.am F.nu F.nm F.na F.vo F.U F.M F.V F.us F.ms F.vs F.uc F.mc F.vc w hk
  cases b1
  · exact check_1 F.mac F.pr F.au F.am F.nu F.nm F.na F.vo F.U F.M F.V F.us F.ms F.vs F.uc F.mc F.vc w hk A1
  cases b2
  · exact check_2 F.mac F.pr F.au F.am F.nu F.nm F.na F.vo F.U F.M F.V F.us F.ms F.vs F.uc F.mc F.vc w hk A1 A2
  cases b3
  · exact check_3 F.mac F.pr F.au F.am F.nu F.nm F.na F.vo F.U F.M F.V F.us F.ms F.vs F.uc F.mc F.vc w hk A1 A2 A3
  · exact check_4 F.mac F.pr F.au F.am F.nu F.nm F.na F.vo F.U F.M F.V F.us F.ms F.vs F.uc F.mc F.vc w hk A1 A2 A3
end Go.Proofs.Ytongkfimgohhbaa
