/-
  What both queues tell is the same.
-/
import Derived.Test.YtbpgblmhacpjlaaGreatZj
import Derived.Deep.QuietTactic
import Derived.BigQuiet
import Derived.Test.YtbpgblmhacpjlaaGreatZn
import Derived.Test.YtbpgblmhacpjlaaGreatZk
import Derived.Deep.RegionHeld3
namespace Go.Proofs.YtbpgblmhacpjlaaGreat
open Go.RowKit

/-- A slice whose cells are these numbers. -/
def Tab (A : Option Addr) (L : List Int) (w : World) : Prop :=
  0 < L.length → ∃ b off, A = some ⟨b, off, none⟩ ∧ b < w.heap.size ∧ ∀ (i : Nat) (h : i < L.length), w.cell? ⟨b, off + i, none⟩ = some (.int .i64 L[i])
theorem Tab.below {w w' : World} {A : Option Addr} {L : List Int} (h : Tab A L w) (hb : Below w.heap.size w w') : Tab A L w' := by
  intro hn
  obtain ⟨b, off, hA, hlt, hc⟩ := h hn
  exact ⟨b, off, hA, by have := hb.size; omega, fun i hi => (hb.cell (p := ⟨b, off + i, none⟩) hlt).trans (hc i hi)⟩
theorem Tab.at {w : World} {A : Option Addr} {L : List Int} (h : Tab A L w) (k : Nat) (hk : k < L.length) : ∃ b off x, A = some ⟨b, off, none⟩ ∧ L[k] = x ∧ w.cell? ⟨b, off + k, none⟩ = some (.int .i64 x) := by
  obtain ⟨b, off, hA, _, hc⟩ := h (by omega)
  exact ⟨b, off, _, hA, rfl, hc k hk⟩
set_option maxHeartbeats 1000000 in
theorem same_yes (L : List Int) (A A' : Option Addr) (c c' : Nat) (w : World) (hl : L.length ≤ 128) (h1 : Tab A L w) (h2 : Tab A' L w) :
    Calls Tryz.prog 54 #[.slice A L.length c, .slice A' L.length c'] w fun e w' => e = .returned (.bool true) ∧ Below w.heap.size w w' := by
  have H1 := Lib.hid h1
  have H2 := Lib.hid h2
  clear h1 h2
  go_enter Tryz.func54, Tryz.ntmps54
  go_wp2
  go_loopw [5] (fun i wr => ∃ k : Nat, k ≤ L.length ∧ i = .int .i64 k ∧ Below w.heap.size w wr) (fun i _ => L.length - (RowKit.intOf i).toNat)
  case atStart => exact ⟨0, Nat.zero_le _, rfl, Below.refl _ _⟩
  case round =>
    obtain ⟨k, hk, rfl, hb⟩ := hrel
    by_cases hlt : k < L.length
    · obtain ⟨b, off, x, rfl, hx, hc⟩ := (H1.out.below hb).at k hlt
      obtain ⟨b', off', x', rfl, hx', hc'⟩ := (H2.out.below hb).at k hlt
      obtain rfl : x = x' := hx.symm.trans hx'
      clear hx hx'
      go_wp2_with fail
      have e1 : (0 : Int) ≤ (k : Int) := by omega
      have e2 : (k : Int) < (L.length : Int) := by omega
      go_quiet (fail)
      go_wp2
      go_roundw
      case rel => exact ⟨k + 1, by omega, by go_num, below_drewN hb _⟩
      case measure => simp [RowKit.intOf]; omega
    · go_wp2
      go_ret
      exact ⟨rfl, hb⟩
end Go.Proofs.YtbpgblmhacpjlaaGreat
namespace Go.Proofs.YtbpgblmhacpjlaaGreat
open Go.RowKit

theorem NTab.ints {A : Option Addr} {L : List Nat} {w : World} (h : NTab A L w) : Tab A (L.map fun i : Nat => (i : Int)) w := by
  intro hn
  obtain ⟨b, off, hA, hlt, hc⟩ := h (by simpa using hn)
  refine ⟨b, off, hA, hlt, fun i hi => ?_⟩
  have hi' : i < L.length := by simpa using hi
  rw [hc i hi', List.getElem_map, List.getD_eq_getElem?_getD, List.getElem?_eq_getElem hi']; rfl
theorem same_n {L : List Nat} {A A' : Option Addr} {c c' : Nat} {w : World} (hl : L.length ≤ 128) (h1 : NTab A L w) (h2 : NTab A' L w) :
    Calls Tryz.prog 54 #[.slice A L.length c, .slice A' L.length c'] w fun e w' => e = .returned (.bool true) ∧ Below w.heap.size w w' := by
  have := same_yes (L.map fun i : Nat => (i : Int)) A A' c c' w (by simpa using hl) h1.ints h2.ints
  rw [List.length_map] at this
  exact this
def SmS (w : World) (gx gk : Nat) (a v : Value) (s : ByteArray) (W : World) : Prop :=
  (W.cell? ⟨gx, 0, none⟩ = some (.pointer (some ⟨gk, 0, none⟩)) ∧ W.cell? ⟨gk, 0, none⟩ = some (.string s) ∧ W.cell? ⟨gx, 7, none⟩ = some a ∧ W.cell? ⟨gx, 8, none⟩ = some v) ∧ Below w.heap.size w W
theorem SmS.b {w W : World} {gx gk : Nat} {a v : Value} {s : ByteArray} (h : SmS w gx gk a v s W) : Below w.heap.size w W := h.2
theorem SmS.next {w W W' : World} {gx gk : Nat} {a v : Value} {s : ByteArray} (hx : gx < w.heap.size) (hk : gk < w.heap.size) (h : SmS w gx gk a v s W) (hb : Below W.heap.size W W') : SmS w gx gk a v s W' := by
  obtain ⟨⟨c1, c2, c3, c4⟩, hB⟩ := h
  have hs := hB.size
  have c := (bcell hb).1
  exact ⟨⟨(c _ _ (by omega)).trans c1, (c _ _ (by omega)).trans c2, (c _ _ (by omega)).trans c3, (c _ _ (by omega)).trans c4⟩, b0 hB hb⟩
set_option maxRecDepth 100000 in
set_option maxHeartbeats 6400000 in
theorem same_v {F : Nat → Prop} {w : World} {g gq gk gx n : Nat} {xs : List UInt8} {q : Vs} (h : (stars [drvP g gq xs q, refP gk gx xs n q]).P F w) (hq : q.Ok xs.length) (h128 : q.size ≤ 128) :
    Calls Tryz.prog 20 #[.pointer (some ⟨g, 0, none⟩), .pointer (some ⟨gq, 0, none⟩), .pointer (some ⟨gx, 0, none⟩)] w fun e w' => e = .returned (.bool true) ∧ Below w.heap.size w w' := by
  have S0 := St.start h
  have hat : ∀ W, Below w.heap.size w W → (stars [drvP g gq xs q, refP gk gx xs n q]).P F W := fun W hb => (stars _).keep h (fun k hk => hb.block k ((stars _).lt h k hk))
  have hd : ∀ W, Below w.heap.size w W → (∃ F1, (memA g xs).P F1 W) ∧ ∃ F2, (drvA gq g q).P F2 W := fun W hb => by
    obtain ⟨F1, hA⟩ := (St.start (hat W hb)).get 0 (by simp)
    exact drvP_parts hA
  have hr : ∀ W, Below w.heap.size w W → (∃ F1, (rmemA gk xs n).P F1 W) ∧ ∃ F2, (refA gx gk q).P F2 W := fun W hb => by
    obtain ⟨F1, hA⟩ := (St.start (hat W hb)).get 1 (by simp)
    have hA := St.start (A := stars [rmemA gk xs n, refA gx gk q]) hA
    exact ⟨hA.get 0 (by simp), hA.get 1 (by simp)⟩
  have hhl : q.hs.length ≤ 32768 := by have := hq.hl; have := hq.s2; omega
  have hH : (heldL q.hs).length ≤ 128 := by have := heldL_length q.hs; have := hq.hl; omega
  have HIm : ∀ W, Below w.heap.size w W → Calls Tryz.prog 26 #[.pointer (some ⟨g, 0, none⟩)] W fun e w' => e = .returned (.string ⟨xs.toArray⟩) ∧ W = w' := fun W hb => by
    obtain ⟨⟨F1, hm⟩, -⟩ := hd W hb
    exact memA_image hm
  have HFr : ∀ W, Below w.heap.size w W → Calls Tryz.prog 53 #[.pointer (some ⟨gq, 0, none⟩)] W fun e w' => e = .returned (.int .i64 (q.free : Int)) ∧ W = w' := fun W hb => by
    obtain ⟨-, F2, hm⟩ := hd W hb
    exact dfree_v hm
  have HRf : ∀ W, Below w.heap.size w W → Calls Tryz.prog 32 #[.pointer (some ⟨gx, 0, none⟩)] W fun e w' => e = .returned (.int .i64 (q.free : Int)) ∧ Below W.heap.size W w' := fun W hb => by
    obtain ⟨-, F2, hm⟩ := hr W hb
    exact rfree_v hm hq
  have HHe : ∀ W, Below w.heap.size w W → Calls Tryz.prog 55 #[.pointer (some ⟨gq, 0, none⟩)] W fun e w' => ∃ A cap, e = .returned (.slice A (heldL q.hs).length cap) ∧ NTab A (heldL q.hs) w' ∧ Below W.heap.size W w' := fun W hb => by
    obtain ⟨-, F2, hm⟩ := hd W hb
    refine (dheld_v hm hhl).mono fun e w' hh => ?_
    obtain ⟨A, cap, he, ho, hB⟩ := hh
    exact ⟨A, cap, he, NTab.of_own ho rfl, hB⟩
  have HRh : ∀ W, Below w.heap.size w W → Calls Tryz.prog 56 #[.pointer (some ⟨gx, 0, none⟩)] W fun e w' => ∃ A cap, e = .returned (.slice A (heldL q.hs).length cap) ∧ NTab A (heldL q.hs) w' ∧ Below W.heap.size W w' := fun W hb => by
    obtain ⟨-, F2, hm⟩ := hr W hb
    exact rheld_v hm hq
  have HBk : ∀ W, Below w.heap.size w W → Calls Tryz.prog 57 #[.pointer (some ⟨gq, 0, none⟩)] W fun e w' => e = .returned (.agg #[.int .i64 (q.ba : Int), .bool q.bw]) ∧ Below W.heap.size W w' := fun W hb => by
    obtain ⟨-, F2, hm⟩ := hd W hb
    exact dback_v hm
  have HSm := fun A A' c c' W (t1 : NTab A (heldL q.hs) W) (t2 : NTab A' (heldL q.hs) W) => same_n (c := c) (c' := c') hH t1 t2
  obtain ⟨⟨F1, hk⟩, F2, hx⟩ := hr w (Below.refl _ _)
  have k0 := rmemA_c0 hk
  obtain ⟨hv, hbx, -, -⟩ := hx
  have x0 : w.cell? ⟨gx, 0, none⟩ = some (.pointer (some ⟨gk, 0, none⟩)) := hbx.cell 0
  have x7 : w.cell? ⟨gx, 7, none⟩ = some (.int .i64 (q.ba : Int)) := hbx.cell 7
  have x8 : w.cell? ⟨gx, 8, none⟩ = some (.bool q.bw) := hbx.cell 8
  have ltx := hbx.lt
  have ltk := rmemA_lt hk
  have nex := Nat.ne_of_lt ltx
  have nek := Nat.ne_of_lt ltk
  obtain ⟨S, hS⟩ : ∃ S : ByteArray, ⟨xs.toArray⟩ = S := ⟨_, rfl⟩
  obtain ⟨H, hHe⟩ : ∃ H, heldL q.hs = H := ⟨_, rfl⟩
  obtain ⟨L, hL⟩ : ∃ L, H.length = L := ⟨_, rfl⟩
  obtain ⟨fr, hfr⟩ : ∃ fr, q.free = fr := ⟨_, rfl⟩
  obtain ⟨ba, hba⟩ : ∃ ba, q.ba = ba := ⟨_, rfl⟩
  obtain ⟨bw, hbw⟩ : ∃ bw, q.bw = bw := ⟨_, rfl⟩
  rw [hHe] at HHe HRh HSm
  rw [hL] at HHe HRh HSm
  rw [hfr] at HFr HRf
  rw [hba, hbw] at HBk
  rw [hba] at x7
  rw [hbw] at x8
  rw [hS] at HIm k0
  have X0 : SmS w gx gk (.int .i64 (ba : Int)) (.bool bw) S w := ⟨⟨x0, k0, x7, x8⟩, Below.refl _ _⟩
  have X0 := Lib.hid (X0.next ltx ltk (Below.refl _ _).drew)
  have HIm := Lib.hid HIm
  have HFr := Lib.hid HFr
  have HRf := Lib.hid HRf
  have HHe := Lib.hid HHe
  have HRh := Lib.hid HRh
  have HBk := Lib.hid HBk
  have HSm := Lib.hid HSm
  have b1 : (S.toList == S.toList) = true := by simp
  have b2 : ((fr : Int) == (fr : Int)) = true := by simp
  have b3 : ((ba : Int) == (ba : Int)) = true := by simp
  have b4 : (bw == bw) = true := by simp
  clear S0 hat hd hr hhl hH hk hbx hS hHe hL hfr hba hbw h hq
  go_enter Tryz.func20, Tryz.ntmps20
  go_wp2_with fail
  go_region_held3 (fun W => (W.cell? ⟨gx, 0, none⟩ = some (.pointer (some ⟨gk, 0, none⟩)) ∧ W.cell? ⟨gk, 0, none⟩ = some (.string S) ∧ W.cell? ⟨gx, 7, none⟩ = some (.int .i64 (ba : Int)) ∧ W.cell? ⟨gx, 8, none⟩ = some (.bool bw)) ∧ Below w.heap.size w W)
    ((refine (_root_.id (α := SmS w gx gk (.int .i64 (ba : Int)) (.bool bw) S _) ?_); with_reducible (first | exact X0.out | exact X1 | exact X2 | exact X3 | exact X4 | exact X5)))
    (first
      | (go_at_call 26; ((with_reducible refine (HIm.out _ (SmS.b X0.out)).mono ?_); rintro e w1 ⟨rfl, rfl⟩))
      | (go_at_call 53; ((with_reducible refine (HFr.out _ (SmS.b X0.out)).mono ?_); rintro e w1 ⟨rfl, rfl⟩))
      | (go_at_call 32; ((with_reducible refine (HRf.out _ (SmS.b X0.out)).mono ?_); rintro e w1 ⟨rfl, hq1⟩; have X1 := SmS.next ltx ltk X0.out hq1))
      | (go_at_call 55; ((with_reducible refine (HHe.out _ (SmS.b X1)).mono ?_); rintro e w2 ⟨A2, cap2, rfl, t2, hq2⟩; have X2 := SmS.next ltx ltk X1 hq2))
      | (go_at_call 56; ((with_reducible refine (HRh.out _ (SmS.b X2)).mono ?_); rintro e w3 ⟨A3, cap3, rfl, t3, hq3⟩; have X3 := SmS.next ltx ltk X2 hq3; have t2 := t2.below hq3))
      | (go_at_call 54; ((with_reducible refine (HSm.out _ _ _ _ _ t2 t3).mono ?_); rintro e w4 ⟨rfl, hq4⟩; have X4 := SmS.next ltx ltk X3 hq4))
      | (go_at_call 57; ((with_reducible refine (HBk.out _ (SmS.b X4)).mono ?_); rintro e w5 ⟨rfl, hq5⟩; have X5 := SmS.next ltx ltk X4 hq5)))
  have HE := Lib.hid (SmS.b X5)
  clear X0 HIm HFr HRf HHe HRh HBk HSm
  go_wp2_with fail
  go_ret
  exact ⟨rfl, HE.out⟩
end Go.Proofs.YtbpgblmhacpjlaaGreat
