/-
  strings.Join with nothing between: the texts put together; no condition but their length.
-/
import Derived.Test.YtongkfimgohhbaaFl
import Derived.Room.Shelf.Join48
namespace Go.Proofs.Ytongkfimgohhbaa
open Go.RowKit

def ljoin_ren : Go.Shelf.Ren := ⟨fun | 156 => 41 | 165 => 59 | 166 => 60 | 169 => 61 | 240 => 73 | 241 => 74 | 276 => 84 | 277 => 85 | n => n, fun | 31 => 22 | 9 => 9 | 3 => 3 | 4 => 4 | 0 => 0 | 20 => 20 | 72 => 91 | 76 => 95 | 70 => 89 | 37 => 69 | 75 => 94 | 127 => 108 | 164 => 117 | 5 => 5 | 80 => 97 | n => n, fun | n => n⟩
theorem ljoin : Go.Proofs.Lays.n156 Try.prog ljoin_ren := {
  mixed := by kernel_rfl
  f156 := Try.func41.trans (congrArg some (by kernel_rfl))
  f165 := Try.func59.trans (congrArg some (by kernel_rfl))
  f166 := Try.func60.trans (congrArg some (by kernel_rfl))
  f169 := Try.func61.trans (congrArg some (by kernel_rfl))
  f240 := Try.func73.trans (congrArg some (by kernel_rfl))
  f241 := Try.func74.trans (congrArg some (by kernel_rfl))
  f276 := Try.func84.trans (congrArg some (by kernel_rfl))
  f277 := Try.func85.trans (congrArg some (by kernel_rfl))
  t0 := Try.underlying0
  a0 := Try.isAgg0
  z0 := Try.sizeOf0
  v0 := Try.zeroValue0
  t3 := Try.underlying3
  a3 := Try.isAgg3
  z3 := Try.sizeOf3
  v3 := Try.zeroValue3
  t4 := Try.underlying4
  a4 := Try.isAgg4
  z4 := Try.sizeOf4
  v4 := Try.zeroValue4
  t9 := Try.underlying9
  a9 := Try.isAgg9
  z9 := Try.sizeOf9
  v9 := Try.zeroValue9
  t20 := Try.underlying20
  a20 := Try.isAgg20
  z20 := Try.sizeOf20
  v20 := Try.zeroValue20
  t31 := Try.underlying22
  a31 := Try.isAgg22
  z31 := Try.sizeOf22
  v31 := Try.zeroValue22
  t37 := Try.underlying69
  a37 := Try.isAgg69
  z37 := Try.sizeOf69
  v37 := Try.zeroValue69
  t70 := Try.underlying89
  a70 := Try.isAgg89
  z70 := Try.sizeOf89
  v70 := Try.zeroValue89
  t72 := Try.underlying91
  a72 := Try.isAgg91
  z72 := Try.sizeOf91
  v72 := Try.zeroValue91
  t75 := Try.underlying94
  a75 := Try.isAgg94
  z75 := Try.sizeOf94
  v75 := Try.zeroValue94
  t76 := Try.underlying95
  a76 := Try.isAgg95
  z76 := Try.sizeOf95
  v76 := Try.zeroValue95
  t127 := Try.underlying108
  a127 := Try.isAgg108
  z127 := Try.sizeOf108
  v127 := Try.zeroValue108
  t164 := Try.underlying117
  a164 := Try.isAgg117
  z164 := Try.sizeOf117
  v164 := Try.zeroValue117 }

theorem ljoinX : Go.Proofs.Builder.Extra Try.prog ljoin_ren := {
  sizeBuilder := by kernel_rfl
  liesBuilder := by kernel_rfl
  t5 := Try.underlying5
  a5 := Try.isAgg5
  z5 := Try.sizeOf5
  v5 := Try.zeroValue5
  infoByte := by kernel_rfl
  cellsByte := by kernel_rfl
  sizeByte := by kernel_rfl
  neB5 := by decide }
/-- texts put together -/
def catL (xs : List ByteArray) : List UInt8 := (xs.map (·.data.toList)).flatten
def catS (xs : List ByteArray) : ByteArray := ⟨(catL xs).toArray⟩
theorem catL_join (xs : List ByteArray) : Lib.join (xs.map (·.data.toList)) (⟨#[]⟩ : ByteArray).data.toList = catL xs := by
  unfold Lib.join catL
  generalize xs.map (·.data.toList) = l
  show List.intercalate [] l = _
  cases l with
  | nil => rfl
  | cons x r =>
    show Lib.join (x :: r) [] = _
    rw [Lib.join_cons, Lib.joinTail]
    simp
theorem join_any (B : Nat) (A : Option Addr) (c : Nat) (xs : List ByteArray) (w : World) (h : Rd B A (xs.map strV) w) (hB : B ≤ w.heap.size) (hc : xs.length ≤ c) (hN : xs.length ≤ 140737488355328) (hl : (catL xs).length ≤ 281474976710656) :
    Calls Try.prog 41 #[.slice A xs.length c, .string ⟨#[]⟩] w fun e w' => e = .returned (.string (catS xs)) ∧ Below w.heap.size w w' := by
  by_cases h0 : 0 < xs.length
  · obtain ⟨b, off, rfl, hlt, hcell⟩ := h (by rw [List.length_map]; exact h0)
    have hcells : ∀ (j : Nat) x, xs[j]? = some x → w.cell? ⟨b, off + j, none⟩ = some (.string x) := by
      intro j x hx
      obtain ⟨hj, rfl⟩ := List.getElem?_eq_some_iff.1 hx
      have := hcell j (by rw [List.length_map]; exact hj)
      simpa [strV] using this
    have := Any.strings_Join_48 ljoin ljoinX b off c xs ⟨#[]⟩ w hcells (by omega) hN hc (by rw [catL_join]; exact hl)
    rw [catL_join] at this
    exact this
  · obtain rfl : xs = [] := List.eq_nil_of_length_eq_zero (by omega)
    exact (Any.strings_Join_none ljoin ljoinX A c ⟨#[]⟩ w).mono fun e w' ⟨he, hw⟩ => ⟨he, hw ▸ Below.refl _ _⟩
theorem catL_length (xs : List ByteArray) (m : Nat) (h : ∀ x ∈ xs, x.size ≤ m) : (catL xs).length ≤ m * xs.length := by
  induction xs with
  | nil => simp [catL]
  | cons x r ih =>
    have h1 := ih (fun y hy => h y (by simp [hy]))
    have h2 := h x (by simp)
    have e : catL (x :: r) = x.data.toList ++ catL r := by simp [catL]
    rw [e, List.length_append, List.length_cons, Nat.mul_succ]
    have : x.data.toList.length = x.size := rfl
    omega
end Go.Proofs.Ytongkfimgohhbaa
