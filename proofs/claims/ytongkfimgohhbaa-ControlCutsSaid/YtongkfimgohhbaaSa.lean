/-
  The document's Same says that filters with the same lists are the same, wherever these lie; no condition.
-/
import Derived.Test.YtongkfimgohhbaaBd
namespace Go.Proofs.Ytongkfimgohhbaa
open Go.RowKit

set_option maxHeartbeats 2000000 in
theorem same_walk (mac : ByteArray) (pr au am nu nm na vo : Bool) (U M V U' M' V' : Option Addr) (us ms : List ByteArray) (vs : List Int) (uc mc vc uc' mc' vc' : Nat) (w : World) (hl : vs.length ≤ 400)
    (AU : ∀ W, Below w.heap.size w W → Calls Try.prog 45 #[.slice U us.length uc, .slice U' us.length uc'] W fun e w' => e = .returned (.bool true) ∧ ∃ n, w' = W.drewN n)
    (AM : ∀ W, Below w.heap.size w W → Calls Try.prog 45 #[.slice M ms.length mc, .slice M' ms.length mc'] W fun e w' => e = .returned (.bool true) ∧ ∃ n, w' = W.drewN n)
    (AV : ∀ W, Below w.heap.size w W → ∀ k : Nat, k < vs.length → ∃ b off b' off' x, V = some ⟨b, off, none⟩ ∧ V' = some ⟨b', off', none⟩ ∧ W.cell? ⟨b, off + k, none⟩ = some (.int .i64 x) ∧ W.cell? ⟨b', off' + k, none⟩ = some (.int .i64 x)) :
    Calls Try.prog 26 #[.agg #[.string mac, .bool pr, .bool au, .bool am, .bool nu, .bool nm, .bool na, .slice U us.length uc, .slice M ms.length mc, .bool vo, .slice V vs.length vc], .agg #[.string mac, .bool pr, .bool au, .bool am, .bool nu, .bool nm, .bool na, .slice U' us.length uc', .slice M' ms.length mc', .bool vo, .slice V' vs.length vc']] w fun e w' => e = .returned (.bool true) ∧ Below w.heap.size w w' := by
  have kf : Blk ((w.alloc (.cells #[.string mac, .bool pr, .bool au, .bool am, .bool nu, .bool nm, .bool na, .slice U us.length uc, .slice M ms.length mc, .bool vo, .slice V vs.length vc] 25)).alloc (.cells #[.string mac, .bool pr, .bool au, .bool am, .bool nu, .bool nm, .bool na, .slice U' us.length uc', .slice M' ms.length mc', .bool vo, .slice V' vs.length vc'] 25)) w.heap.size 25 #[.string mac, .bool pr, .bool au, .bool am, .bool nu, .bool nm, .bool na, .slice U us.length uc, .slice M ms.length mc, .bool vo, .slice V vs.length vc] := (Blk.new w 25 _).alloc _
  have kg : Blk ((w.alloc (.cells #[.string mac, .bool pr, .bool au, .bool am, .bool nu, .bool nm, .bool na, .slice U us.length uc, .slice M ms.length mc, .bool vo, .slice V vs.length vc] 25)).alloc (.cells #[.string mac, .bool pr, .bool au, .bool am, .bool nu, .bool nm, .bool na, .slice U' us.length uc', .slice M' ms.length mc', .bool vo, .slice V' vs.length vc'] 25)) (w.heap.size + 1) 25 #[.string mac, .bool pr, .bool au, .bool am, .bool nu, .bool nm, .bool na, .slice U' us.length uc', .slice M' ms.length mc', .bool vo, .slice V' vs.length vc'] := by
    have := Blk.new (w.alloc (.cells #[.string mac, .bool pr, .bool au, .bool am, .bool nu, .bool nm, .bool na, .slice U us.length uc, .slice M ms.length mc, .bool vo, .slice V vs.length vc] 25)) 25 #[.string mac, .bool pr, .bool au, .bool am, .bool nu, .bool nm, .bool na, .slice U' us.length uc', .slice M' ms.length mc', .bool vo, .slice V' vs.length vc']
    simpa using this
  have hb : Below w.heap.size w ((w.alloc (.cells #[.string mac, .bool pr, .bool au, .bool am, .bool nu, .bool nm, .bool na, .slice U us.length uc, .slice M ms.length mc, .bool vo, .slice V vs.length vc] 25)).alloc (.cells #[.string mac, .bool pr, .bool au, .bool am, .bool nu, .bool nm, .bool na, .slice U' us.length uc', .slice M' ms.length mc', .bool vo, .slice V' vs.length vc'] 25)) := ba (ba (b0 w) _) _
  obtain ⟨W0, hW⟩ : ∃ W0, (w.alloc (.cells #[.string mac, .bool pr, .bool au, .bool am, .bool nu, .bool nm, .bool na, .slice U us.length uc, .slice M ms.length mc, .bool vo, .slice V vs.length vc] 25)).alloc (.cells #[.string mac, .bool pr, .bool au, .bool am, .bool nu, .bool nm, .bool na, .slice U' us.length uc', .slice M' ms.length mc', .bool vo, .slice V' vs.length vc'] 25) = W0 := ⟨_, rfl⟩
  rw [hW] at kf kg hb
  have HW := Lib.hid hW
  have H1 := Lib.hid AU
  have H2 := Lib.hid AM
  have H3 := Lib.hid (AV W0 hb)
  clear hW AU AM AV
  have c0 := kf.cell 0
  have c1 := kf.cell 1
  have c2 := kf.cell 2
  have c3 := kf.cell 3
  have c4 := kf.cell 4
  have c5 := kf.cell 5
  have c6 := kf.cell 6
  have c7 := kf.cell 7
  have c8 := kf.cell 8
  have c9 := kf.cell 9
  have c10 := kf.cell 10
  simp only [List.getElem?_toArray, List.getElem?_cons_zero, List.getElem?_cons_succ] at c0 c1 c2 c3 c4 c5 c6 c7 c8 c9 c10
  have d0 := kg.cell 0
  have d1 := kg.cell 1
  have d2 := kg.cell 2
  have d3 := kg.cell 3
  have d4 := kg.cell 4
  have d5 := kg.cell 5
  have d6 := kg.cell 6
  have d7 := kg.cell 7
  have d8 := kg.cell 8
  have d9 := kg.cell 9
  have d10 := kg.cell 10
  simp only [List.getElem?_toArray, List.getElem?_cons_zero, List.getElem?_cons_succ] at d0 d1 d2 d3 d4 d5 d6 d7 d8 d9 d10
  go_enter Try.func26, Try.ntmps26
  go_wp2_with (rw [HW.out]; clear HW)
  refine (H1.out _ hb).mono ?_
  rintro e w1 ⟨rfl, q1, rfl⟩
  go_wp2_with fail
  refine (H2.out _ (below_drewN hb q1)).mono ?_
  rintro e w2 ⟨rfl, q2, rfl⟩
  clear H1 H2
  go_wp2_with fail
  go_loopw [5] (fun i wr => ∃ k m : Nat, k ≤ vs.length ∧ i = .int .i64 k ∧ wr = W0.drewN m) (fun i _ => vs.length - (intOf i).toNat)
  case atStart => exact ⟨0, _, Nat.zero_le _, rfl, by first | rfl | exact World.drewN_drewN _ _ _⟩
  case round =>
    obtain ⟨k, m, hk, rfl, rfl⟩ := hrel
    by_cases hlt : k < vs.length
    · obtain ⟨b, off, b', off', x, rfl, rfl, x1, x2⟩ := H3.out k hlt
      go_wp2
      go_quiet (fail)
      go_wp2
      go_roundw
      case rel => exact ⟨k + 1, _, by omega, by go_num, by first | rfl | exact World.drewN_drewN _ _ _⟩
      case measure => simp [intOf]; omega
    · clear H3
      go_wp2
      go_ret
      exact ⟨by first | rfl | simp, below_drewN hb _⟩
theorem same_yes (F G : Fl) (B : Nat) (w : World) (hS : F.Same G) (hF : F.At B w) (hG : G.At B w) (hB : B ≤ w.heap.size) (hl : F.Few) :
    Calls Try.prog 26 #[F.val, G.val] w fun e w' => e = .returned (.bool true) ∧ Below w.heap.size w w' := by
  obtain ⟨mac, pr, au, am, nu, nm, na, U, us, uc, M, ms, mc, vo, V, vs, vc⟩ := F
  obtain ⟨mac', pr', au', am', nu', nm', na', U', us', uc', M', ms', mc', vo', V', vs', vc'⟩ := G
  obtain ⟨e0, e1, e2, e3, e4, e5, e6, e7, e8, e9, e10⟩ := hS
  simp only at e0 e1 e2 e3 e4 e5 e6 e7 e8 e9 e10
  subst e0 e1 e2 e3 e4 e5 e6 e7 e8 e9 e10
  refine same_walk _ _ _ _ _ _ _ _ _ _ _ _ _ _ _ _ _ _ _ _ _ _ _ w hl.v ?_ ?_ ?_
  · exact fun W hb => texts_yes B B _ _ _ _ _ W (hF.u.far hB hb) (hG.u.far hB hb) hl.u
  · exact fun W hb => texts_yes B B _ _ _ _ _ W (hF.m.far hB hb) (hG.m.far hB hb) hl.m
  · intro W hb k hk
    obtain ⟨b, off, x, hA, hx, hc⟩ := (hF.v.far hB hb).int k hk
    obtain ⟨b', off', x', hA', hx', hc'⟩ := (hG.v.far hB hb).int k hk
    obtain rfl : x = x' := hx.symm.trans hx'
    exact ⟨b, off, b', off', x, hA, hA', hc, hc'⟩
end Go.Proofs.Ytongkfimgohhbaa
