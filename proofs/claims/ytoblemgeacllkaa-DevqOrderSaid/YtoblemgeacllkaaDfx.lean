/-
  The laws' fixed: what its calls answer, by computation; no condition.
-/
import Derived.Test.YtoblemgeacllkaaDl4
import Derived.Test.YtoblemgeacllkaaDl3
namespace Go.Proofs.Ytoblemgeacllkaa
open Go.RowKit

def fX0 : List UInt8 := List.replicate 256 0
def fQ0 : Qs := ⟨0, 4, 64, 68, 0, true, 0, true, 0, true, 0, 0, false⟩
def fX1 : List UInt8 := wrX fX0 0 (desB 128 5 7 128)
def fC : Ch := ⟨7, 1, [⟨128, 5, false⟩]⟩
def fQ1 : Qs := ⟨0, 4, 64, 68, 1, true, 0, true, 0, true, 0, 1, false⟩
def fX2 : List UInt8 := usedX fX1 fQ1 7 0
def fQ2 : Qs := ⟨0, 4, 64, 68, 1, true, 1, true, 0, true, 1, 0, false⟩
def fQ3 : Qs := ⟨0, 4, 64, 68, 1, true, 1, true, 1, true, 0, 0, false⟩
def fX3 : List UInt8 := wrX fX2 16 (desB 255 5 7 128)
def fQ4 : Qs := ⟨0, 4, 64, 68, 1, true, 1, true, 1, true, 0, 0, true⟩
set_option maxRecDepth 100000
theorem fx_lay : layB fX0 0 4 64 68 = true := by decide +kernel
theorem fx_new : newQ 0 4 64 68 = fQ0 := rfl
theorem fx_bytes : bytesN 256 = 256 := by decide +kernel
theorem fx_n1 : nextC fX0 fQ0 = (noCh, false, 0, fQ0) := by kernel_rfl
theorem fx_n2 : nextC fX1 fQ0 = (fC, true, 0, fQ1) := by kernel_rfl
theorem fx_d1 : doneC fX1 fQ1 7 2 0 = (1, fX1, fQ1) := by kernel_rfl
theorem fx_d2 : doneC fX1 fQ1 7 1 0 = (0, fX2, fQ2) := by kernel_rfl
theorem fx_ld : val ((fX2.drop 14).take 2) = 32896 := by kernel_rfl
theorem fx_t1 : tellC fX2 fQ2 = (true, fQ3) := by kernel_rfl
theorem fx_t2 : tellC fX2 fQ3 = (false, fQ3) := by kernel_rfl
theorem fx_n3 : nextC fX3 fQ3 = (noCh, false, 141, fQ4) := by kernel_rfl
theorem fx_d3 : doneC fX3 fQ4 7 1 0 = (141, fX3, fQ4) := by kernel_rfl
theorem fx_l0 : layB fX3 0 0 0 0 = false := by decide +kernel
theorem fx_z1 : fX1.length = 256 := by kernel_rfl
theorem fx_z2 : fX2.length = 256 := by kernel_rfl
theorem fx_z3 : fX3.length = 256 := by kernel_rfl
theorem fx_o0 : fQ0.Ok 256 := ⟨by decide, by decide, by decide, by decide, by decide, by decide, by decide, by decide, by decide⟩
theorem fx_o1 : fQ1.Ok 256 := ⟨by decide, by decide, by decide, by decide, by decide, by decide, by decide, by decide, by decide⟩
theorem fx_o2 : fQ2.Ok 256 := ⟨by decide, by decide, by decide, by decide, by decide, by decide, by decide, by decide, by decide⟩
theorem fx_o3 : fQ3.Ok 256 := ⟨by decide, by decide, by decide, by decide, by decide, by decide, by decide, by decide, by decide⟩
theorem fx_o4 : fQ4.Ok 256 := ⟨by decide, by decide, by decide, by decide, by decide, by decide, by decide, by decide, by decide⟩
end Go.Proofs.Ytoblemgeacllkaa
