/-
  drvq: Held, the held ids in a slice of the caller's own; no condition.
-/
import Derived.Test.YtbpgblmhacpjlaaGreatZj
import Derived.Shelf.SlIterI.Nil
import Derived.Shelf.SortM.Plain
import Derived.Shelf.SortM.SortNone
import Derived.Shelf.SlMaps.Clone
import Derived.Shelf.AbstractIn
import Derived.Ground.GgzProg
import Derived.Ground.SlgmProg
import Derived.Ground.SlmcProg
namespace Go.Proofs.YtbpgblmhacpjlaaGreat
open Go.RowKit Go.Maps Go.Sort Go.Shelf

def lkeys_ren : Go.Shelf.Ren := ⟨fun | 7 => 81 | 10 => 90 | n => n, fun | 23 => 75 | 26 => 3 | 3 => 3 | 28 => 129 | 0 => 0 | 27 => 128 | 33 => 105 | 4 => 4 | n => n, fun | n => n⟩
theorem lkeys : Go.Proofs.SlLaysZI.n7 Tryz.prog lkeys_ren := {
  mixed := by kernel_rfl
  f7 := ⟨Tryz.f81.name, by decide, Tryz.func81.trans (congrArg some (by kernel_rfl))⟩
  f10 := ⟨Tryz.f90.name, by decide, Tryz.func90.trans (congrArg some (by kernel_rfl))⟩
  t0 := Tryz.underlying0
  a0 := Tryz.isAgg0
  z0 := Tryz.sizeOf0
  v0 := Tryz.zeroValue0
  t4 := Tryz.underlying4
  a4 := Tryz.isAgg4
  z4 := Tryz.sizeOf4
  v4 := Tryz.zeroValue4
  t23 := Tryz.underlying75
  a23 := Tryz.isAgg75
  z23 := Tryz.sizeOf75
  v23 := Tryz.zeroValue75
  t26 := Tryz.underlying3
  a26 := Tryz.isAgg3
  z26 := Tryz.sizeOf3
  v26 := Tryz.zeroValue3
  t27 := Tryz.underlying128
  a27 := Tryz.isAgg128
  z27 := Tryz.sizeOf128
  v27 := Tryz.zeroValue128
  t28 := Tryz.underlying129
  a28 := Tryz.isAgg129
  z28 := Tryz.sizeOf129
  v28 := Tryz.zeroValue129
  t33 := Tryz.underlying105
  a33 := Tryz.isAgg105
  z33 := Tryz.sizeOf105
  v33 := Tryz.zeroValue105 }
def lsorted_ren : Go.Shelf.Ren := ⟨fun | 6 => 80 | 8 => 88 | 9 => 89 | 11 => 94 | 13 => 96 | 12 => 95 | 23 => 107 | 24 => 108 | 14 => 98 | 15 => 99 | 16 => 100 | 17 => 101 | 18 => 102 | 19 => 103 | 20 => 104 | 21 => 105 | 22 => 106 | 25 => 109 | 26 => 110 | 27 => 111 | 28 => 112 | 29 => 113 | 30 => 114 | 31 => 115 | n => n, fun | 26 => 3 | 28 => 129 | 24 => 46 | 0 => 0 | 3 => 3 | 37 => 139 | 48 => 86 | 50 => 58 | 4 => 4 | 40 => 143 | 39 => 142 | 45 => 92 | 5 => 5 | 9 => 9 | 51 => 150 | 55 => 154 | 57 => 156 | 58 => 157 | 33 => 105 | n => n, fun | n => n⟩
theorem lsorted : Go.Proofs.SlLaysZI.n6 Tryz.prog lsorted_ren := {
  mixed := by kernel_rfl
  f6 := ⟨Tryz.f80.name, by decide, Tryz.func80.trans (congrArg some (by kernel_rfl))⟩
  f8 := ⟨Tryz.f88.name, by decide, Tryz.func88.trans (congrArg some (by kernel_rfl))⟩
  f11 := ⟨Tryz.f94.name, by decide, Tryz.func94.trans (congrArg some (by kernel_rfl))⟩
  t0 := Tryz.underlying0
  a0 := Tryz.isAgg0
  z0 := Tryz.sizeOf0
  v0 := Tryz.zeroValue0
  t24 := Tryz.underlying46
  a24 := Tryz.isAgg46
  z24 := Tryz.sizeOf46
  v24 := Tryz.zeroValue46
  t26 := Tryz.underlying3
  a26 := Tryz.isAgg3
  z26 := Tryz.sizeOf3
  v26 := Tryz.zeroValue3
  t28 := Tryz.underlying129
  a28 := Tryz.isAgg129
  z28 := Tryz.sizeOf129
  v28 := Tryz.zeroValue129
  i26 := by kernel_rfl }
def lsort_ren : Go.Shelf.Ren := ⟨fun | 5 => 89 | 8 => 96 | 7 => 95 | 19 => 107 | 20 => 108 | 10 => 98 | 11 => 99 | 12 => 100 | 13 => 101 | 14 => 102 | 15 => 103 | 16 => 104 | 17 => 105 | 18 => 106 | 30 => 109 | 31 => 110 | 32 => 111 | 33 => 112 | 34 => 113 | 35 => 114 | 40 => 115 | n => n, fun | 23 => 46 | 25 => 3 | 3 => 3 | 32 => 139 | 22 => 46 | 0 => 0 | 44 => 86 | 46 => 58 | 4 => 4 | 36 => 143 | 35 => 142 | 41 => 92 | 5 => 5 | 9 => 9 | 53 => 150 | 57 => 154 | 63 => 156 | 64 => 157 | n => n, fun | n => n⟩
theorem lsort : Go.Proofs.SlLaysM.n5 Tryz.prog lsort_ren := {
  mixed := by kernel_rfl
  f5 := ⟨Tryz.f89.name, by decide, Tryz.func89.trans (congrArg some (by kernel_rfl))⟩
  f7 := ⟨Tryz.f95.name, by decide, Tryz.func95.trans (congrArg some (by kernel_rfl))⟩
  f8 := Tryz.func96.trans (congrArg some (by kernel_rfl))
  f10 := ⟨Tryz.f98.name, by decide, Tryz.func98.trans (congrArg some (by kernel_rfl))⟩
  f11 := ⟨Tryz.f99.name, by decide, Tryz.func99.trans (congrArg some (by kernel_rfl))⟩
  f12 := ⟨Tryz.f100.name, by decide, Tryz.func100.trans (congrArg some (by kernel_rfl))⟩
  f13 := ⟨Tryz.f101.name, by decide, Tryz.func101.trans (congrArg some (by kernel_rfl))⟩
  f14 := ⟨Tryz.f102.name, by decide, Tryz.func102.trans (congrArg some (by kernel_rfl))⟩
  f15 := ⟨Tryz.f103.name, by decide, Tryz.func103.trans (congrArg some (by kernel_rfl))⟩
  f16 := ⟨Tryz.f104.name, by decide, Tryz.func104.trans (congrArg some (by kernel_rfl))⟩
  f17 := ⟨Tryz.f105.name, by decide, Tryz.func105.trans (congrArg some (by kernel_rfl))⟩
  f18 := ⟨Tryz.f106.name, by decide, Tryz.func106.trans (congrArg some (by kernel_rfl))⟩
  f19 := Tryz.func107.trans (congrArg some (by kernel_rfl))
  f20 := Tryz.func108.trans (congrArg some (by kernel_rfl))
  f30 := ⟨Tryz.f109.name, by decide, Tryz.func109.trans (congrArg some (by kernel_rfl))⟩
  f31 := Tryz.func110.trans (congrArg some (by kernel_rfl))
  f32 := Tryz.func111.trans (congrArg some (by kernel_rfl))
  f33 := ⟨Tryz.f112.name, by decide, Tryz.func112.trans (congrArg some (by kernel_rfl))⟩
  f34 := ⟨Tryz.f113.name, by decide, Tryz.func113.trans (congrArg some (by kernel_rfl))⟩
  f35 := ⟨Tryz.f114.name, by decide, Tryz.func114.trans (congrArg some (by kernel_rfl))⟩
  f40 := ⟨Tryz.f115.name, by decide, Tryz.func115.trans (congrArg some (by kernel_rfl))⟩
  t0 := Tryz.underlying0
  a0 := Tryz.isAgg0
  z0 := Tryz.sizeOf0
  v0 := Tryz.zeroValue0
  t3 := Tryz.underlying3
  a3 := Tryz.isAgg3
  z3 := Tryz.sizeOf3
  v3 := Tryz.zeroValue3
  t4 := Tryz.underlying4
  a4 := Tryz.isAgg4
  z4 := Tryz.sizeOf4
  v4 := Tryz.zeroValue4
  t5 := Tryz.underlying5
  a5 := Tryz.isAgg5
  z5 := Tryz.sizeOf5
  v5 := Tryz.zeroValue5
  t9 := Tryz.underlying9
  a9 := Tryz.isAgg9
  z9 := Tryz.sizeOf9
  v9 := Tryz.zeroValue9
  t22 := Tryz.underlying46
  a22 := Tryz.isAgg46
  z22 := Tryz.sizeOf46
  v22 := Tryz.zeroValue46
  t23 := Tryz.underlying46
  a23 := Tryz.isAgg46
  z23 := Tryz.sizeOf46
  v23 := Tryz.zeroValue46
  t25 := Tryz.underlying3
  a25 := Tryz.isAgg3
  z25 := Tryz.sizeOf3
  v25 := Tryz.zeroValue3
  t32 := Tryz.underlying139
  a32 := Tryz.isAgg139
  z32 := Tryz.sizeOf139
  v32 := Tryz.zeroValue139
  t35 := Tryz.underlying142
  a35 := Tryz.isAgg142
  z35 := Tryz.sizeOf142
  v35 := Tryz.zeroValue142
  t36 := Tryz.underlying143
  a36 := Tryz.isAgg143
  z36 := Tryz.sizeOf143
  v36 := Tryz.zeroValue143
  t41 := Tryz.underlying92
  a41 := Tryz.isAgg92
  z41 := Tryz.sizeOf92
  v41 := Tryz.zeroValue92
  t44 := Tryz.underlying86
  a44 := Tryz.isAgg86
  z44 := Tryz.sizeOf86
  v44 := Tryz.zeroValue86
  t46 := Tryz.underlying58
  a46 := Tryz.isAgg58
  z46 := Tryz.sizeOf58
  v46 := Tryz.zeroValue58
  t53 := Tryz.underlying150
  a53 := Tryz.isAgg150
  z53 := Tryz.sizeOf150
  v53 := Tryz.zeroValue150
  t57 := Tryz.underlying154
  a57 := Tryz.isAgg154
  z57 := Tryz.sizeOf154
  v57 := Tryz.zeroValue154
  t63 := Tryz.underlying156
  a63 := Tryz.isAgg156
  z63 := Tryz.sizeOf156
  v63 := Tryz.zeroValue156
  t64 := Tryz.underlying157
  a64 := Tryz.isAgg157
  z64 := Tryz.sizeOf157
  v64 := Tryz.zeroValue157 }
def lclone_ren : Go.Shelf.Ren := ⟨fun | 5 => 50 | 7 => 76 | n => n, fun | 23 => 75 | 25 => 3 | 3 => 3 | 4 => 4 | 20 => 20 | n => n, fun | n => n⟩
theorem lclone : Go.Proofs.SlLaysW.n5 Tryz.prog lclone_ren := {
  mixed := by kernel_rfl
  f5 := ⟨Tryz.f50.name, by decide, Tryz.func50.trans (congrArg some (by kernel_rfl))⟩
  f7 := Tryz.func76.trans (congrArg some (by kernel_rfl))
  t4 := Tryz.underlying4
  a4 := Tryz.isAgg4
  z4 := Tryz.sizeOf4
  v4 := Tryz.zeroValue4
  t20 := Tryz.underlying20
  a20 := Tryz.isAgg20
  z20 := Tryz.sizeOf20
  v20 := Tryz.zeroValue20
  t23 := Tryz.underlying75
  a23 := Tryz.isAgg75
  z23 := Tryz.sizeOf75
  v23 := Tryz.zeroValue75 }
theorem lsorts (m : Nat) : AnyZI.SortsIn Tryz.prog lsorted_ren Fence.wide m :=
  ⟨fun blk off cap ss W hH hblk hsz => callsIn_wide.2 (AnyM.slices_Sort_int lsort blk off cap ss W hH hblk hsz),
   fun p cap W => callsIn_wide.2 (AnyM.slices_Sort_int_none lsort p cap W)⟩
def heldV (hs : List Nat) : List Value := (heldL hs).map fun i : Nat => .int .i64 (i : Int)
theorem heldV_length (hs : List Nat) : (heldV hs).length = (heldL hs).length := by simp [heldV]
theorem keys_sorted {bm n : Nat} {hs : List Nat} {D : DataW Unit} {w : World} (h : w.ownsMap Tryz.prog 3 (plainElem Tryz.prog 3) bm n D) (hm : MIs D hs) {ss : List Int} (hp : ss.Perm (intKeys D)) :
    (ss.mergeSort (fun x y => decide (x ≤ y))).map encZ = heldV hs := by
  have e : ss.mergeSort leI = ((heldL hs).map fun i : Nat => (i : Int)).mergeSort leI := mergeSort_of_perm_i (hp.trans (keys_perm h hm).symm)
  have e2 : ((heldL hs).map fun i : Nat => (i : Int)).mergeSort leI = (heldL hs).map fun i : Nat => (i : Int) := by
    refine List.mergeSort_of_pairwise ?_
    exact List.pairwise_map.2 ((heldL_sorted hs).imp fun {a b} hab => by simp only [leI, decide_eq_true_eq]; omega)
  rw [show (fun x y : Int => decide (x ≤ y)) = leI from rfl, e, e2]
  simp [heldV, encZ, Function.comp_def]
/-- what Held hands back -/
def HeldP (hs : List Nat) (w : World) (e : Ending) (w' : World) : Prop :=
  ∃ A cap, e = .returned (.slice A (heldL hs).length cap) ∧ w'.ownsRow w.heap.size 3 1 (.slice A (heldL hs).length cap) (heldL hs).length (heldV hs) ∧ Below w.heap.size w w'
theorem held_mk {bm n : Nat} {hs : List Nat} {D : DataW Unit} {w w' : World} (h : w.ownsMap Tryz.prog 3 (plainElem Tryz.prog 3) bm n D) (hm : MIs D hs) {ss : List Int} {v : Value} (hp : ss.Perm (intKeys D))
    (hr : w'.ownsRow w.heap.size 3 1 v ss.length ((ss.mergeSort (fun x y => decide (x ≤ y))).map encZ)) (hb : Below w.heap.size w w') : HeldP hs w (.returned v) w' := by
  have e := keys_sorted h hm hp
  have el : ss.length = (heldL hs).length := by have := congrArg List.length e; simpa [heldV] using this
  rw [e, el] at hr
  obtain ⟨A, cap, rfl⟩ := own_form hr
  exact ⟨A, cap, rfl, hr, hb⟩
set_option maxHeartbeats 1000000 in
theorem held_v {w : World} {gq bm : Nat} {hs : List Nat} (h9 : w.cell? ⟨gq, 9, none⟩ = some (.map (some bm))) (hm : MapAt bm hs w) (hl : hs.length ≤ 32768) :
    Calls Tryz.prog 55 #[.pointer (some ⟨gq, 0, none⟩)] w (HeldP hs w) := by
  obtain ⟨D, hown, hmi, hsz⟩ := hm.tight
  refine (callsIn_wide (n := 6)).1 ?_
  have hbl := hown.lt
  have hmax : Maps.size D ≤ maxLen := by unfold maxLen; omega
  have hbytes : Maps.size D * 8 ≤ 140737488355328 := by omega
  have hseq : SeqGives Fence.wide 2 Tryz.prog 90 #[.pointer (some ⟨w.heap.size, 0, none⟩)] encZ (fun ss => ss.Perm (intKeys D)) (Maps.size D) (w.alloc (.cells #[.map (some bm)] 75)) :=
    AnyZI.keys_gives (ρ := lkeys_ren) { lkeys with } Fence.wide _ trivial rfl (by omega) w.heap.size bm hs.length D _ (by simp) (by simp) (by
      obtain ⟨es, clock, hb, Ft, hs, hD⟩ := hown
      exact ⟨es, clock, (Below.heap_alloc _ _ bm hbl).trans hb, Ft, hs, hD⟩)
  have cK : ∀ mb W, CallsIn Fence.wide 5 Tryz.prog 81 #[.map mb] W fun e w' => e = .returned (.func (.func 90) #[] #[.pointer (some ⟨W.heap.size, 0, none⟩)]) ∧ w' = W.alloc (.cells #[.map mb] 75) := fun mb W => AnyZI.keys_in lkeys Fence.wide 5 trivial rfl mb W
  have cS := AnyZI.sorted_in lsorted Fence.wide 5 trivial trivial trivial trivial rfl (by omega) (lsorts _) (enters_of Tryz.func89 (by kernel_rfl) rfl) 90 #[.pointer (some ⟨w.heap.size, 0, none⟩)] trivial (enters_of Tryz.func90 (by kernel_rfl) rfl) _ _ hmax hbytes _ hseq
  change CallsIn _ _ Tryz.prog 80 _ _ _ at cS
  have hfK : Fence.wide.fn 81 := trivial
  have hfS : Fence.wide.fn 80 := trivial
  have HO := Lib.hid hown
  have HMi := Lib.hid hmi
  clear hown hmi hseq hsz hmax hbytes hm
  refine callsIn_of_wp Tryz.func55 rfl trivial ?_ rfl
  simp only [Tryz.ntmps55, List.size_toArray, List.length_cons, List.length_nil, Nat.reduceAdd, Nat.reduceSub, Array.replicate_succ, Array.replicate_zero, List.push_toArray, List.append_toArray, List.nil_append, List.cons_append]
  gi_wp2_with (first
    | (gi_at_call 81; refine (cK _ _).mono ?_; rintro e w' ⟨rfl, rfl⟩)
    | (gi_at_call 80; refine cS.mono ?_; rintro e w' ⟨v, ss, rfl, hS, hrow, hnil, hb⟩))
  go_ret
  exact held_mk HO.out HMi.out hS (ownsRow_base_a hrow (by simp)) (((Below.refl _ w).alloc (Nat.le_refl _) _).trans (hb.mono (by simp)))
/-- an empty map that the call makes; maps.Clone -/
theorem clone_map {w : World} {bm : Nat} {hs : List Nat} (h : MapAt bm hs w) :
    Calls Tryz.prog 50 #[.map (some bm)] w fun e w' => e = .returned (.map (some w.heap.size)) ∧ MapAt w.heap.size hs w' ∧ MapAt bm hs w' ∧ Below w.heap.size w w' := by
  obtain ⟨D, n, hown, hm⟩ := h
  exact (AnyW.maps_Clone_owns lclone 3 _ bm n D w hown).mono fun _ _ ⟨he, h1, h2, hb⟩ => ⟨he, ⟨D, n, h1, hm⟩, ⟨D, n, h2, hm⟩, hb⟩
end Go.Proofs.YtbpgblmhacpjlaaGreat
