/-
  drvq: Held, the held ids in a slice of the caller's own; no condition.
-/
import Derived.Test.YtbpgblmhacpjlaaVx
import Derived.Shelf.SlIterI.Nil
import Derived.Shelf.SortM.Plain
import Derived.Shelf.SortM.SortNone
import Derived.Shelf.SlMaps.Clone
import Derived.Shelf.AbstractIn
import Derived.Ground.GgzProg
import Derived.Ground.SlgmProg
import Derived.Ground.SlmcProg
namespace Go.Proofs.Ytbpgblmhacpjlaa
open Go.RowKit Go.Maps Go.Sort Go.Shelf

def lkeys_ren : Go.Shelf.Ren := ⟨fun | 7 => 44 | 10 => 72 | n => n, fun | 23 => 88 | 26 => 3 | 3 => 3 | 28 => 106 | 0 => 0 | 27 => 105 | 33 => 136 | 4 => 4 | n => n, fun | n => n⟩
theorem lkeys : Go.Proofs.SlLaysZI.n7 Try.prog lkeys_ren := {
  mixed := by kernel_rfl
  f7 := ⟨Try.f44.name, by decide, Try.func44.trans (congrArg some (by kernel_rfl))⟩
  f10 := ⟨Try.f72.name, by decide, Try.func72.trans (congrArg some (by kernel_rfl))⟩
  t0 := Try.underlying0
  a0 := Try.isAgg0
  z0 := Try.sizeOf0
  v0 := Try.zeroValue0
  t4 := Try.underlying4
  a4 := Try.isAgg4
  z4 := Try.sizeOf4
  v4 := Try.zeroValue4
  t23 := Try.underlying88
  a23 := Try.isAgg88
  z23 := Try.sizeOf88
  v23 := Try.zeroValue88
  t26 := Try.underlying3
  a26 := Try.isAgg3
  z26 := Try.sizeOf3
  v26 := Try.zeroValue3
  t27 := Try.underlying105
  a27 := Try.isAgg105
  z27 := Try.sizeOf105
  v27 := Try.zeroValue105
  t28 := Try.underlying106
  a28 := Try.isAgg106
  z28 := Try.sizeOf106
  v28 := Try.zeroValue106
  t33 := Try.underlying136
  a33 := Try.isAgg136
  z33 := Try.sizeOf136
  v33 := Try.zeroValue136 }
def lsorted_ren : Go.Shelf.Ren := ⟨fun | 6 => 43 | 8 => 70 | 9 => 71 | 11 => 85 | 13 => 87 | 12 => 86 | 23 => 103 | 24 => 104 | 14 => 94 | 15 => 95 | 16 => 96 | 17 => 97 | 18 => 98 | 19 => 99 | 20 => 100 | 21 => 101 | 22 => 102 | 25 => 109 | 26 => 110 | 27 => 111 | 28 => 112 | 29 => 113 | 30 => 114 | 31 => 115 | n => n, fun | 26 => 3 | 28 => 106 | 24 => 36 | 0 => 0 | 3 => 3 | 37 => 154 | 48 => 98 | 50 => 97 | 4 => 4 | 40 => 163 | 39 => 162 | 45 => 103 | 5 => 5 | 9 => 9 | 51 => 173 | 55 => 177 | 57 => 179 | 58 => 157 | 33 => 136 | n => n, fun | n => n⟩
theorem lsorted : Go.Proofs.SlLaysZI.n6 Try.prog lsorted_ren := {
  mixed := by kernel_rfl
  f6 := ⟨Try.f43.name, by decide, Try.func43.trans (congrArg some (by kernel_rfl))⟩
  f8 := ⟨Try.f70.name, by decide, Try.func70.trans (congrArg some (by kernel_rfl))⟩
  f11 := ⟨Try.f85.name, by decide, Try.func85.trans (congrArg some (by kernel_rfl))⟩
  t0 := Try.underlying0
  a0 := Try.isAgg0
  z0 := Try.sizeOf0
  v0 := Try.zeroValue0
  t24 := Try.underlying36
  a24 := Try.isAgg36
  z24 := Try.sizeOf36
  v24 := Try.zeroValue36
  t26 := Try.underlying3
  a26 := Try.isAgg3
  z26 := Try.sizeOf3
  v26 := Try.zeroValue3
  t28 := Try.underlying106
  a28 := Try.isAgg106
  z28 := Try.sizeOf106
  v28 := Try.zeroValue106
  i26 := by kernel_rfl }
def lsort_ren : Go.Shelf.Ren := ⟨fun | 5 => 71 | 8 => 87 | 7 => 86 | 19 => 103 | 20 => 104 | 10 => 94 | 11 => 95 | 12 => 96 | 13 => 97 | 14 => 98 | 15 => 99 | 16 => 100 | 17 => 101 | 18 => 102 | 30 => 109 | 31 => 110 | 32 => 111 | 33 => 112 | 34 => 113 | 35 => 114 | 40 => 115 | n => n, fun | 23 => 36 | 25 => 3 | 3 => 3 | 32 => 154 | 22 => 36 | 0 => 0 | 44 => 98 | 46 => 97 | 4 => 4 | 36 => 163 | 35 => 162 | 41 => 103 | 5 => 5 | 9 => 9 | 53 => 173 | 57 => 177 | 63 => 179 | 64 => 157 | n => n, fun | n => n⟩
theorem lsort : Go.Proofs.SlLaysM.n5 Try.prog lsort_ren := {
  mixed := by kernel_rfl
  f5 := ⟨Try.f71.name, by decide, Try.func71.trans (congrArg some (by kernel_rfl))⟩
  f7 := ⟨Try.f86.name, by decide, Try.func86.trans (congrArg some (by kernel_rfl))⟩
  f8 := Try.func87.trans (congrArg some (by kernel_rfl))
  f10 := ⟨Try.f94.name, by decide, Try.func94.trans (congrArg some (by kernel_rfl))⟩
  f11 := ⟨Try.f95.name, by decide, Try.func95.trans (congrArg some (by kernel_rfl))⟩
  f12 := ⟨Try.f96.name, by decide, Try.func96.trans (congrArg some (by kernel_rfl))⟩
  f13 := ⟨Try.f97.name, by decide, Try.func97.trans (congrArg some (by kernel_rfl))⟩
  f14 := ⟨Try.f98.name, by decide, Try.func98.trans (congrArg some (by kernel_rfl))⟩
  f15 := ⟨Try.f99.name, by decide, Try.func99.trans (congrArg some (by kernel_rfl))⟩
  f16 := ⟨Try.f100.name, by decide, Try.func100.trans (congrArg some (by kernel_rfl))⟩
  f17 := ⟨Try.f101.name, by decide, Try.func101.trans (congrArg some (by kernel_rfl))⟩
  f18 := ⟨Try.f102.name, by decide, Try.func102.trans (congrArg some (by kernel_rfl))⟩
  f19 := Try.func103.trans (congrArg some (by kernel_rfl))
  f20 := Try.func104.trans (congrArg some (by kernel_rfl))
  f30 := ⟨Try.f109.name, by decide, Try.func109.trans (congrArg some (by kernel_rfl))⟩
  f31 := Try.func110.trans (congrArg some (by kernel_rfl))
  f32 := Try.func111.trans (congrArg some (by kernel_rfl))
  f33 := ⟨Try.f112.name, by decide, Try.func112.trans (congrArg some (by kernel_rfl))⟩
  f34 := ⟨Try.f113.name, by decide, Try.func113.trans (congrArg some (by kernel_rfl))⟩
  f35 := ⟨Try.f114.name, by decide, Try.func114.trans (congrArg some (by kernel_rfl))⟩
  f40 := ⟨Try.f115.name, by decide, Try.func115.trans (congrArg some (by kernel_rfl))⟩
  t0 := Try.underlying0
  a0 := Try.isAgg0
  z0 := Try.sizeOf0
  v0 := Try.zeroValue0
  t3 := Try.underlying3
  a3 := Try.isAgg3
  z3 := Try.sizeOf3
  v3 := Try.zeroValue3
  t4 := Try.underlying4
  a4 := Try.isAgg4
  z4 := Try.sizeOf4
  v4 := Try.zeroValue4
  t5 := Try.underlying5
  a5 := Try.isAgg5
  z5 := Try.sizeOf5
  v5 := Try.zeroValue5
  t9 := Try.underlying9
  a9 := Try.isAgg9
  z9 := Try.sizeOf9
  v9 := Try.zeroValue9
  t22 := Try.underlying36
  a22 := Try.isAgg36
  z22 := Try.sizeOf36
  v22 := Try.zeroValue36
  t23 := Try.underlying36
  a23 := Try.isAgg36
  z23 := Try.sizeOf36
  v23 := Try.zeroValue36
  t25 := Try.underlying3
  a25 := Try.isAgg3
  z25 := Try.sizeOf3
  v25 := Try.zeroValue3
  t32 := Try.underlying154
  a32 := Try.isAgg154
  z32 := Try.sizeOf154
  v32 := Try.zeroValue154
  t35 := Try.underlying162
  a35 := Try.isAgg162
  z35 := Try.sizeOf162
  v35 := Try.zeroValue162
  t36 := Try.underlying163
  a36 := Try.isAgg163
  z36 := Try.sizeOf163
  v36 := Try.zeroValue163
  t41 := Try.underlying103
  a41 := Try.isAgg103
  z41 := Try.sizeOf103
  v41 := Try.zeroValue103
  t44 := Try.underlying98
  a44 := Try.isAgg98
  z44 := Try.sizeOf98
  v44 := Try.zeroValue98
  t46 := Try.underlying97
  a46 := Try.isAgg97
  z46 := Try.sizeOf97
  v46 := Try.zeroValue97
  t53 := Try.underlying173
  a53 := Try.isAgg173
  z53 := Try.sizeOf173
  v53 := Try.zeroValue173
  t57 := Try.underlying177
  a57 := Try.isAgg177
  z57 := Try.sizeOf177
  v57 := Try.zeroValue177
  t63 := Try.underlying179
  a63 := Try.isAgg179
  z63 := Try.sizeOf179
  v63 := Try.zeroValue179
  t64 := Try.underlying157
  a64 := Try.isAgg157
  z64 := Try.sizeOf157
  v64 := Try.zeroValue157 }
def lclone_ren : Go.Shelf.Ren := ⟨fun | 5 => 55 | 7 => 77 | n => n, fun | 23 => 88 | 25 => 3 | 3 => 3 | 4 => 4 | 20 => 20 | n => n, fun | n => n⟩
theorem lclone : Go.Proofs.SlLaysW.n5 Try.prog lclone_ren := {
  mixed := by kernel_rfl
  f5 := ⟨Try.f55.name, by decide, Try.func55.trans (congrArg some (by kernel_rfl))⟩
  f7 := Try.func77.trans (congrArg some (by kernel_rfl))
  t4 := Try.underlying4
  a4 := Try.isAgg4
  z4 := Try.sizeOf4
  v4 := Try.zeroValue4
  t20 := Try.underlying20
  a20 := Try.isAgg20
  z20 := Try.sizeOf20
  v20 := Try.zeroValue20
  t23 := Try.underlying88
  a23 := Try.isAgg88
  z23 := Try.sizeOf88
  v23 := Try.zeroValue88 }

theorem lsorts (m : Nat) : AnyZI.SortsIn Try.prog lsorted_ren Fence.wide m :=
  ⟨fun blk off cap ss W hH hblk hsz => callsIn_wide.2 (AnyM.slices_Sort_int lsort blk off cap ss W hH hblk hsz),
   fun p cap W => callsIn_wide.2 (AnyM.slices_Sort_int_none lsort p cap W)⟩
def heldV (hs : List Nat) : List Value := (heldL hs).map fun i : Nat => .int .i64 (i : Int)
theorem heldV_length (hs : List Nat) : (heldV hs).length = (heldL hs).length := by simp [heldV]
theorem keys_sorted {bm n : Nat} {hs : List Nat} {D : DataW Unit} {w : World} (h : w.ownsMap Try.prog 3 (plainElem Try.prog 3) bm n D) (hm : MIs D hs) {ss : List Int} (hp : ss.Perm (intKeys D)) :
    (ss.mergeSort (fun x y => decide (x ≤ y))).map encZ = heldV hs := by
  have e : ss.mergeSort leI = ((heldL hs).map fun i : Nat => (i : Int)).mergeSort leI := mergeSort_of_perm_i (hp.trans (keys_perm h hm).symm)
  have e2 : ((heldL hs).map fun i : Nat => (i : Int)).mergeSort leI = (heldL hs).map fun i : Nat => (i : Int) := by
    refine List.mergeSort_of_pairwise ?_
    exact List.pairwise_map.2 ((heldL_sorted hs).imp fun {a b} hab => by simp only [leI, decide_eq_true_eq]; omega)
  rw [show (fun x y : Int => decide (x ≤ y)) = leI from rfl, e, e2]
  simp [heldV, encZ, Function.comp_def]
/-- what Held hands back -/
def HeldP (hs : List Nat) (w : World) (e : Ending) (w' : World) : Prop :=
  ∃ A cap, e = .returned (.slice A (heldL hs).length cap) ∧ w'.ownsRow w.heap.size 3 1 (.slice A (heldL hs).length cap) (heldL hs).length (heldV hs) ∧ Below w.heap.size w w'
theorem held_mk {bm n : Nat} {hs : List Nat} {D : DataW Unit} {w w' : World} (h : w.ownsMap Try.prog 3 (plainElem Try.prog 3) bm n D) (hm : MIs D hs) {ss : List Int} {v : Value} (hp : ss.Perm (intKeys D))
    (hr : w'.ownsRow w.heap.size 3 1 v ss.length ((ss.mergeSort (fun x y => decide (x ≤ y))).map encZ)) (hb : Below w.heap.size w w') : HeldP hs w (.returned v) w' := by
  have e := keys_sorted h hm hp
  have el : ss.length = (heldL hs).length := by have := congrArg List.length e; simpa [heldV] using this
  rw [e, el] at hr
  obtain ⟨A, cap, rfl⟩ := own_form hr
  exact ⟨A, cap, rfl, hr, hb⟩
set_option maxHeartbeats 1000000 in
theorem held_v {w : World} {gq bm : Nat} {hs : List Nat} (h9 : w.cell? ⟨gq, 9, none⟩ = some (.map (some bm))) (hm : MapAt bm hs w) (hl : hs.length ≤ 32768) :
    Calls Try.prog 19 #[.pointer (some ⟨gq, 0, none⟩)] w (HeldP hs w) := by
  obtain ⟨D, hown, hmi, hsz⟩ := hm.tight
  refine (callsIn_wide (n := 6)).1 ?_
  have hbl := hown.lt
  have hmax : Maps.size D ≤ maxLen := by unfold maxLen; omega
  have hbytes : Maps.size D * 8 ≤ 140737488355328 := by omega
  have hseq : SeqGives Fence.wide 2 Try.prog 72 #[.pointer (some ⟨w.heap.size, 0, none⟩)] encZ (fun ss => ss.Perm (intKeys D)) (Maps.size D) (w.alloc (.cells #[.map (some bm)] 88)) :=
    AnyZI.keys_gives (ρ := lkeys_ren) { lkeys with } Fence.wide _ trivial rfl (by omega) w.heap.size bm hs.length D _ (by simp) (by simp) (by
      obtain ⟨es, clock, hb, Ft, hs, hD⟩ := hown
      exact ⟨es, clock, (Below.heap_alloc _ _ bm hbl).trans hb, Ft, hs, hD⟩)
  have cK : ∀ mb W, CallsIn Fence.wide 5 Try.prog 44 #[.map mb] W fun e w' => e = .returned (.func (.func 72) #[] #[.pointer (some ⟨W.heap.size, 0, none⟩)]) ∧ w' = W.alloc (.cells #[.map mb] 88) := fun mb W => AnyZI.keys_in lkeys Fence.wide 5 trivial rfl mb W
  have cS := AnyZI.sorted_in lsorted Fence.wide 5 trivial trivial trivial trivial rfl (by omega) (lsorts _) (enters_of Try.func71 (by kernel_rfl) rfl) 72 #[.pointer (some ⟨w.heap.size, 0, none⟩)] trivial (enters_of Try.func72 (by kernel_rfl) rfl) _ _ hmax hbytes _ hseq
  change CallsIn _ _ Try.prog 43 _ _ _ at cS
  have hfK : Fence.wide.fn 44 := trivial
  have hfS : Fence.wide.fn 43 := trivial
  have HO := Lib.hid hown
  have HMi := Lib.hid hmi
  clear hown hmi hseq hsz hmax hbytes hm
  refine callsIn_of_wp Try.func19 rfl trivial ?_ rfl
  simp only [Try.ntmps19, List.size_toArray, List.length_cons, List.length_nil, Nat.reduceAdd, Nat.reduceSub, Array.replicate_succ, Array.replicate_zero, List.push_toArray, List.append_toArray, List.nil_append, List.cons_append]
  gi_wp2_with (first
    | (gi_at_call 44; refine (cK _ _).mono ?_; rintro e w' ⟨rfl, rfl⟩)
    | (gi_at_call 43; refine cS.mono ?_; rintro e w' ⟨v, ss, rfl, hS, hrow, hnil, hb⟩))
  go_ret
  exact held_mk HO.out HMi.out hS (ownsRow_base_a hrow (by simp)) (((Below.refl _ w).alloc (Nat.le_refl _) _).trans (hb.mono (by simp)))
/-- an empty map that the call makes; maps.Clone -/
theorem clone_map {w : World} {bm : Nat} {hs : List Nat} (h : MapAt bm hs w) :
    Calls Try.prog 55 #[.map (some bm)] w fun e w' => e = .returned (.map (some w.heap.size)) ∧ MapAt w.heap.size hs w' ∧ MapAt bm hs w' ∧ Below w.heap.size w w' := by
  obtain ⟨D, n, hown, hm⟩ := h
  exact (AnyW.maps_Clone_owns lclone 3 _ bm n D w hown).mono fun _ _ ⟨he, h1, h2, hb⟩ => ⟨he, ⟨D, n, h1, hm⟩, ⟨D, n, h2, hm⟩, hb⟩
end Go.Proofs.Ytbpgblmhacpjlaa
