/-
  The laws' parts and used; R11.Same; what Post and Reap leave: where DrvqRefuses' loop stands; no condition.
-/
import Derived.Test.YtbpgblmhacpjlaaWfr
import Derived.Test.YtbpgblmhacpjlaaDbr
import Derived.Test.YtbpgblmhacpjlaaLw0
import Derived.Deep.RegionHeld3
import Derived.Deep.QuietTactic
import Derived.Test.YtbpgblmhacpjlaaLc
import Derived.BigQuiet
namespace Go.Proofs.Ytbpgblmhacpjlaa
open Go.RowKit

set_option maxHeartbeats 1600000 in
theorem parts_v (o : OpV) (w w0 : World) (ho : o.Ok w0) :
    Calls Try.prog 25 #[.agg #[.int .i64 o.k, .int .i64 o.a, .int .i64 o.id, .int .i64 o.n, .slice o.pA o.pl.length o.pc, .string o.s, .int .i64 o.eo, .bool o.ew, .int .i64 o.ef, .bool o.wr]] w fun e w' => e = .returned (.slice o.pA (o.pl.take 70).length o.pc) ∧ Below w.heap.size w w' := by
  obtain ⟨k, a, id, n, pA, pl, pc, s, eo, ew, ef, wr⟩ := o
  obtain ⟨h1, h2⟩ := ho.most
  have h1 : pl.length ≤ pc := h1
  have h2 : pc ≤ maxLen := h2
  unfold maxLen at h2
  have el : (pl.take 70).length = min 70 pl.length := List.length_take
  clear ho
  show Calls Try.prog 25 #[.agg #[.int .i64 k, .int .i64 a, .int .i64 id, .int .i64 n, .slice pA pl.length pc, .string s, .int .i64 eo, .bool ew, .int .i64 ef, .bool wr]] w fun e w' => e = .returned (.slice pA (pl.take 70).length pc) ∧ Below w.heap.size w w'
  rw [el]
  generalize pl.length = L at *
  have HB := Lib.hid (ba (Below.refl w.heap.size w) (.cells #[.int .i64 k, .int .i64 a, .int .i64 id, .int .i64 n, .slice pA L pc, .string s, .int .i64 eo, .bool ew, .int .i64 ef, .bool wr] 66))
  by_cases hL : L ≤ 70
  · obtain ⟨M, hM, hM2⟩ : ∃ M : Int, min (L : Int) 70 = M ∧ M = (L : Int) := ⟨_, rfl, by omega⟩
    rw [show min 70 L = L by omega]
    go_enter Try.func25, Try.ntmps25
    go_wp2_with fail
    go_ret
    exact ⟨rfl, HB.out⟩
  · obtain ⟨M, hM, hM2⟩ : ∃ M : Int, min (L : Int) 70 = M ∧ M = 70 := ⟨_, rfl, by omega⟩
    rw [show min 70 L = 70 by omega]
    go_enter Try.func25, Try.ntmps25
    go_wp2_with fail
    go_ret
    exact ⟨rfl, HB.out⟩
theorem u32_wrap (n : Int) : ∃ L : Nat, L < 4294967296 ∧ IntKind.u32.wrap n = (L : Int) := by
  refine ⟨(n % 4294967296).toNat, by omega, ?_⟩
  show n % 4294967296 = _
  omega
/-- where used reads -/
def UF (w : World) (n d : Int) (v : Bool) (W : World) : Prop :=
  (W.cell? ⟨w.heap.size, 3, none⟩ = some (.int .i64 n) ∧ W.cell? ⟨w.heap.size, 2, none⟩ = some (.int .i64 d) ∧ W.cell? ⟨w.heap.size, 9, none⟩ = some (.bool v)) ∧ ∃ l, St (fun _ => False) w (stars l) W
theorem UF.below {w W W' : World} {n d : Int} {v : Bool} (h : UF w n d v W) (hb : Below W.heap.size W W') : UF w n d v W' := by
  obtain ⟨⟨a, b, c⟩, l, hS⟩ := h
  have hl := World.block_lt_of_cell? W _ a
  exact ⟨⟨(hb.cell (p := ⟨w.heap.size, 3, none⟩) hl).trans a, (hb.cell (p := ⟨w.heap.size, 2, none⟩) hl).trans b, (hb.cell (p := ⟨w.heap.size, 9, none⟩) hl).trans c⟩, l, hS.below hb⟩
set_option maxHeartbeats 3200000 in
/-- the used descriptor's last eight bytes: a string that hangs on the op and the wrap alone -/
theorem used_v (o : OpV) (v : Bool) (w0 : World) (ho : o.Ok w0) : ∃ t : ByteArray, t.size = 8 ∧ ∀ w : World,
    Calls Try.prog 28 #[.agg #[.int .i64 o.k, .int .i64 o.a, .int .i64 o.id, .int .i64 o.n, .slice o.pA o.pl.length o.pc, .string o.s, .int .i64 o.eo, .bool o.ew, .int .i64 o.ef, .bool o.wr], .bool v] w fun e w' => e = .returned (.string t) ∧ Below w.heap.size w w' := by
  obtain ⟨k, a, id, n, pA, pl, pc, s, eo, ew, ef, wr⟩ := o
  obtain ⟨L, hL, eL⟩ := u32_wrap n
  obtain ⟨X, hX, eX⟩ := and16 id
  obtain ⟨z, hz⟩ : ∃ z : Bool, (v == wr) = z := ⟨_, rfl⟩
  obtain ⟨F, hF, hF2⟩ : ∃ F : Nat, mk z (z == true) = F ∧ F < 65536 := ⟨_, rfl, by cases z <;> decide⟩
  obtain ⟨S, hS⟩ : ∃ S, desB 0 L X F = S := ⟨_, rfl⟩
  have hS16 : S.size = 16 := by
    rw [← hS]
    unfold desB
    simp [ByteArray.size_append, pb_size]
  have HM : ∀ W, Calls Try.prog 53 #[.int .i64 0, .bool z, .bool true] W fun e W' => e = .returned (.int .i64 (F : Int)) ∧ W = W' := fun W => by
    have := rmark_any 0 ⟨by decide, by decide, by decide⟩ false false z true W
    rw [Nat.zero_add, Nat.zero_add, hF] at this
    exact this
  have HB : ∀ W, Calls Try.prog 52 #[.agg #[.int .u64 0, .int .u32 (L : Int), .int .i64 (X : Int), .int .i64 (F : Int)]] W fun e W' => e = .returned (.tuple #[.string S, .int .i64 0]) ∧ Below W.heap.size W W' := fun W => by
    have := rbuild_any 0 L (X : Int) (F : Int) (by omega) hL W
    rw [buS, buE, if_pos ⟨by omega, by omega⟩, if_pos ⟨by omega, by omega⟩] at this
    rw [← hS]
    exact this
  have HM := Lib.hid HM
  have HB := Lib.hid HB
  refine ⟨S.extract 8 16, by rw [ByteArray.size_extract]; omega, fun w => ?_⟩
  have Z1 : UF w n id wr (w.alloc (.cells #[.int .i64 k, .int .i64 a, .int .i64 id, .int .i64 n, .slice pA pl.length pc, .string s, .int .i64 eo, .bool ew, .int .i64 ef, .bool wr] 66)).drew := by
    have S1 := ((St.begin w).push 66 #[.int .i64 k, .int .i64 a, .int .i64 id, .int .i64 n, .slice pA pl.length pc, .string s, .int .i64 eo, .bool ew, .int .i64 ef, .bool wr]).drew
    have b := S1.blk 0 (by simp) rfl
    exact ⟨⟨b.cell 3, b.cell 2, b.cell 9⟩, _, S1⟩
  have X1 := Lib.hid Z1
  clear ho hF hS Z1 hL hX
  show Calls Try.prog 28 #[.agg #[.int .i64 k, .int .i64 a, .int .i64 id, .int .i64 n, .slice pA pl.length pc, .string s, .int .i64 eo, .bool ew, .int .i64 ef, .bool wr], .bool v] w fun e w' => e = .returned (.string (S.extract 8 16)) ∧ Below w.heap.size w w'
  go_enter Try.func28, Try.ntmps28
  go_wp2_with fail
  go_region_held3 (fun W => (W.cell? ⟨w.heap.size, 3, none⟩ = some (.int .i64 n) ∧ W.cell? ⟨w.heap.size, 2, none⟩ = some (.int .i64 id) ∧ W.cell? ⟨w.heap.size, 9, none⟩ = some (.bool wr)) ∧ ∃ l, St (fun _ => False) w (stars l) W)
    ((refine (_root_.id (α := UF w n id wr _) ?_); with_reducible (first | exact X1.out | exact Z2)))
    (first | (go_at_call 53; ((with_reducible refine (HM.out _).mono ?_); rintro e W2 ⟨rfl, rfl⟩)) | (go_at_call 52; ((with_reducible refine (HB.out _).mono ?_); rintro e w6 ⟨rfl, hb⟩; have Z2 := UF.below X1.out hb)))
  obtain ⟨-, l, S6⟩ := Z2
  have HE := Lib.hid S6.law
  clear S6 X1 HM HB
  go_wp2_with fail
  go_ret
  exact ⟨rfl, HE.out⟩
end Go.Proofs.Ytbpgblmhacpjlaa
namespace Go.Proofs.Ytbpgblmhacpjlaa
open Go.RowKit

/-- A slice whose cells are these numbers. -/
def Tab (A : Option Addr) (L : List Int) (w : World) : Prop :=
  0 < L.length → ∃ b off, A = some ⟨b, off, none⟩ ∧ b < w.heap.size ∧ ∀ (i : Nat) (h : i < L.length), w.cell? ⟨b, off + i, none⟩ = some (.int .i64 L[i])
theorem Tab.below {w w' : World} {A : Option Addr} {L : List Int} (h : Tab A L w) (hb : Below w.heap.size w w') : Tab A L w' := by
  intro hn
  obtain ⟨b, off, hA, hlt, hc⟩ := h hn
  exact ⟨b, off, hA, by have := hb.size; omega, fun i hi => (hb.cell (p := ⟨b, off + i, none⟩) hlt).trans (hc i hi)⟩
theorem Tab.at {w : World} {A : Option Addr} {L : List Int} (h : Tab A L w) (k : Nat) (hk : k < L.length) : ∃ b off x, A = some ⟨b, off, none⟩ ∧ L[k] = x ∧ w.cell? ⟨b, off + k, none⟩ = some (.int .i64 x) := by
  obtain ⟨b, off, hA, _, hc⟩ := h (by omega)
  exact ⟨b, off, _, hA, rfl, hc k hk⟩
set_option maxHeartbeats 1000000 in
theorem same_yes (L : List Int) (A A' : Option Addr) (c c' : Nat) (w : World) (hl : L.length ≤ 128) (h1 : Tab A L w) (h2 : Tab A' L w) :
    Calls Try.prog 26 #[.slice A L.length c, .slice A' L.length c'] w fun e w' => e = .returned (.bool true) ∧ Below w.heap.size w w' := by
  have H1 := Lib.hid h1
  have H2 := Lib.hid h2
  clear h1 h2
  go_enter Try.func26, Try.ntmps26
  go_wp2
  go_loopw [5] (fun i wr => ∃ k : Nat, k ≤ L.length ∧ i = .int .i64 k ∧ Below w.heap.size w wr) (fun i _ => L.length - (intOf i).toNat)
  case atStart => exact ⟨0, Nat.zero_le _, rfl, Below.refl _ _⟩
  case round =>
    obtain ⟨k, hk, rfl, hb⟩ := hrel
    by_cases hlt : k < L.length
    · obtain ⟨b, off, x, rfl, hx, hc⟩ := (H1.out.below hb).at k hlt
      obtain ⟨b', off', x', rfl, hx', hc'⟩ := (H2.out.below hb).at k hlt
      obtain rfl : x = x' := hx.symm.trans hx'
      clear hx hx'
      go_wp2_with fail
      have e1 : (0 : Int) ≤ (k : Int) := by omega
      have e2 : (k : Int) < (L.length : Int) := by omega
      go_quiet (fail)
      go_wp2
      go_roundw
      case rel => exact ⟨k + 1, by omega, by go_num, below_drewN hb _⟩
      case measure => simp [intOf]; omega
    · go_wp2
      go_ret
      exact ⟨rfl, hb⟩
end Go.Proofs.Ytbpgblmhacpjlaa
namespace Go.Proofs.Ytbpgblmhacpjlaa
open Go.RowKit

theorem PsAt.take {A : Option Addr} {l : List IPt} {w : World} (h : PsAt A l w) (n : Nat) : PsAt A (l.take n) w := by
  intro j hj
  have hj' : j < l.length := by rw [List.length_take] at hj; omega
  obtain ⟨b, off, e, hlt, c0, c1, c2⟩ := h j hj'
  have e2 : (l.take n)[j] = l[j] := List.getElem_take
  rw [e2]
  exact ⟨b, off, e, hlt, c0, c1, c2⟩
theorem PsAt.old {A : Option Addr} {l : List IPt} {w w0 : World} (h : PsAt A l w0) (hb : Below w0.heap.size w0 w) : PsAt A l w := h.far (Nat.le_refl _) hb
/-- the parts lie in old blocks, or there are none -/
theorem PsAt.off {A : Option Addr} {l : List IPt} {w0 : World} (h : PsAt A l w0) (hl : 0 < l.length) : ∀ ad : Addr, A = some ad → ad.block < w0.heap.size := by
  obtain ⟨b, off, e, hlt, -⟩ := h 0 hl
  intro ad e2
  rw [e] at e2
  injection e2 with e2
  subst e2
  exact hlt
theorem xs0_bytes (b : Int) : (xs0 (bytesN b)).length = bytesN b := xs0_length (bytesN_le b).1
theorem layX_length {b r z x y : Int} (h : layB (xs0 (bytesN b)) r z x y = true) : (layX b r z x y).length = (xs0 (bytesN b)).length := by
  obtain ⟨⟨a1, a2⟩, ⟨b1, b2⟩, ⟨c1, c2⟩, d1, d2⟩ := lay_facts h
  exact newX_length (by omega) (by omega) (by omega)
theorem newV_at {xs : List UInt8} {r z x y : Int} (h : layB xs r z x y = true) : ((newV r z x y).ring : Int) = r ∧ ((newV r z x y).size : Int) = z ∧ (newV r z x y).since = 0 := by
  obtain ⟨⟨a1, a2⟩, ⟨b1, b2⟩, ⟨c1, c2⟩, d1, d2⟩ := lay_facts h
  exact ⟨by show ((r.toNat : Nat) : Int) = r; omega, by show ((z.toNat : Nat) : Int) = z; omega, rfl⟩
/-- Post of parts that came in -/
theorem St.postOld {w0 w : World} {l : List As} {g gq : Nat} {xs : List UInt8} {q : Vs} (h : St (fun _ => False) w0 (stars l) w) (i : Nat) (hi : i < l.length) (he : l[i] = drvP g gq xs q) (hq : q.Ok xs.length) (hs : q.since ≤ 1099511627776) {ps : List IPt} {A : Option Addr} {cap : Nat} (hP : PsAt A ps w0) (hl : ps.length ≤ 1099511627776)
    (hN : ∀ j (h : j < ps.length), ps[j].n < 9223372036854775808) (r : Int × Int × List UInt8 × Vs) (hr : postC xs q ps = r) :
    Calls Try.prog 11 #[.pointer (some ⟨gq, 0, none⟩), .slice A ps.length cap] w fun e w' => e = .returned (.tuple #[.int .i64 r.1, .int .i64 r.2.1]) ∧ St (fun _ => False) w0 (stars (l.set i (drvP g gq r.2.2.1 r.2.2.2))) w' := by
  rcases Nat.eq_zero_or_pos ps.length with h0 | h0
  · obtain rfl := List.eq_nil_of_length_eq_zero h0
    have e : postC xs q [] = (0, 150, xs, q) := rfl
    rw [e] at hr
    subst hr
    obtain ⟨F, hA, hb⟩ := h.at i hi
    rw [he] at hA
    exact (post_form hA (hP.old h.law) hl hN rfl).mono fun _ _ ⟨h1, h2⟩ => ⟨h1, hb _ _ h2⟩
  · exact h.post i hi he hq hs (hP.old h.law) (off_old (hP.off h0)) hl hN r hr
/-- what Post leaves, refused or not -/
theorem postC_cases {xs : List UInt8} {q : Vs} (hq : q.Ok xs.length) (l : List IPt) (hl : l.length ≤ 70) :
    (∃ E : Int, (E == 0) = false ∧ (E != 0) = true ∧ postC xs q l = (0, E, xs, q)) ∨
    (∃ (id : Nat) (xs' : List UInt8) (q' : Vs), postC xs q l = ((id : Int), 0, xs', q') ∧ l.length ≤ 64 ∧ l.length ≤ q.free ∧ q'.free = q.free - l.length ∧ (heldL q'.hs).length = (heldL q.hs).length + 1 ∧ id < q.size ∧ xs'.length = xs.length ∧ q'.Ok xs'.length ∧ q'.since = q.since + l.length ∧ q'.ring = q.ring ∧ q'.size = q.size) := by
  have _ := hl
  have hok := postC_ok hq l
  unfold postC at hok ⊢
  split
  · rename_i hc
    rw [if_pos hc] at hok
    obtain ⟨l1, l64⟩ := chain_len hc
    split
    · exact .inl ⟨151, rfl, rfl, rfl⟩
    · rename_i hf
      rw [if_neg hf] at hok
      have hr := post_room hq l1 hf
      have hhl := hq.hl
      exact .inr ⟨_, _, _, rfl, l64, by omega, posted_free hq l1 hf, held_posted hq l1 hf, by omega, hok.1, by rw [hok.1]; exact hok.2, rfl, rfl, rfl⟩
  · exact .inl ⟨150, rfl, rfl, rfl⟩
theorem reapC_cases {xs : List UInt8} {q : Vs} (hq : q.Ok xs.length) :
    (∃ E : Int, reapC xs q = (0, 0, false, E, q)) ∨
    (∃ (id : Nat) (m : Int) (q' : Vs), reapC xs q = ((id : Int), m, true, 0, q') ∧ id ∈ heldL q.hs ∧ (heldL q'.hs).length + 1 = (heldL q.hs).length ∧ q'.Ok xs.length ∧ q'.since = q.since ∧ q'.ring = q.ring ∧ q'.size = q.size) := by
  have hok := reapC_ok (xs := xs) hq
  unfold reapC at hok ⊢
  split
  · rename_i hu
    rw [if_pos hu] at hok
    split
    · rename_i hp
      rw [if_pos hp] at hok
      exact .inr ⟨_, _, _, rfl, mem_heldL.2 hp, held_reaped hp, hok, rfl, rfl, rfl⟩
    · exact .inl ⟨150, rfl⟩
  · exact .inl ⟨0, rfl⟩
/-- the held ids as ints -/
def heldI (hs : List Nat) : List Int := (heldL hs).map fun i : Nat => (i : Int)
theorem heldI_length (hs : List Nat) : (heldI hs).length = (heldL hs).length := by simp [heldI]
theorem Tab.of_own {w : World} {B : Nat} {A : Option Addr} {cap n : Nat} {hs : List Nat} (hn : n = (heldL hs).length) (h : w.ownsRow B 3 1 (.slice A n cap) n (heldV hs)) : Tab A (heldI hs) w := by
  subst hn
  intro hp
  rw [heldI_length] at hp
  obtain ⟨gl, cap', hv, _, hlt⟩ := h.form hp
  have hA : A = some ⟨gl, 0, none⟩ := by injection hv
  subst hA
  refine ⟨gl, 0, rfl, hlt, fun i hi => ?_⟩
  have hi' : i < (heldL hs).length := by rw [← heldI_length]; exact hi
  have hc := h.cells (g := gl) rfl i (.int .i64 (heldI hs)[i]) (by
    have e : heldV hs = (heldI hs).map fun x => .int .i64 x := by simp [heldV, heldI]
    rw [e, List.getElem?_map, List.getElem?_eq_getElem hi]; rfl)
  rw [addr_zero] at hc
  rw [Nat.zero_add]; exact hc
/-- is this id among the first j? -/
def hadB (L : List Int) (id : Int) (j : Nat) : Bool := (L.take j).any (· == id)
theorem hadB_zero (L : List Int) (id : Int) : hadB L id 0 = false := rfl
theorem hadB_succ {L : List Int} {id : Int} {j : Nat} (hj : j < L.length) {x : Int} (hx : L[j] = x) : hadB L id (j + 1) = (hadB L id j || x == id) := by
  subst hx
  unfold hadB
  rw [List.take_succ_eq_append_getElem hj, List.any_append]
  simp
theorem hadB_all {hs : List Nat} {id : Nat} (h : id ∈ heldL hs) : hadB (heldI hs) (id : Int) (heldI hs).length = true := by
  unfold hadB
  rw [List.take_length, List.any_eq_true]
  exact ⟨(id : Int), List.mem_map.2 ⟨id, h, rfl⟩, by simp⟩
/-- where a round stands: the world's lay, the place, the call -/
def RfS (w0 : World) (g0 B O : Nat) (r z : Int) (q : Vs) (o : OpV) (W : World) : Prop :=
  (W.cell? ⟨g0, 1, none⟩ = some (.int .i64 r) ∧ W.cell? ⟨g0, 2, none⟩ = some (.int .i64 z) ∧ W.cell? ⟨B, 0, none⟩ = some (.int .i64 (q.ba : Int)) ∧ W.cell? ⟨B, 1, none⟩ = some (.bool q.bw) ∧
    W.cell? ⟨O, 0, none⟩ = some (.int .i64 o.k) ∧ W.cell? ⟨O, 1, none⟩ = some (.int .i64 o.a) ∧ W.cell? ⟨O, 2, none⟩ = some (.int .i64 o.id) ∧ W.cell? ⟨O, 3, none⟩ = some (.int .i64 o.n) ∧ W.cell? ⟨O, 4, none⟩ = some (.slice o.pA o.pl.length o.pc) ∧ W.cell? ⟨O, 5, none⟩ = some (.string o.s) ∧ W.cell? ⟨O, 6, none⟩ = some (.int .i64 o.eo) ∧ W.cell? ⟨O, 7, none⟩ = some (.bool o.ew) ∧ W.cell? ⟨O, 8, none⟩ = some (.int .i64 o.ef) ∧ W.cell? ⟨O, 9, none⟩ = some (.bool o.wr)) ∧ (g0 < W.heap.size ∧ B < W.heap.size ∧ O < W.heap.size) ∧ ∃ l, St (fun _ => False) w0 (stars l) W
theorem RfS.of {w0 W : World} {g0 B O : Nat} {b r z x y : Int} {v : Value} {q : Vs} {o : OpV} {l : List As} (hbx : Blk w0 g0 59 #[.int .i64 b, .int .i64 r, .int .i64 z, .int .i64 x, .int .i64 y, v]) (h : St (fun _ => False) w0 (stars l) W) (i j : Nat) (hi : i < l.length) (hj : j < l.length)
    (ei : l[i] = box B 69 #[.int .i64 (q.ba : Int), .bool q.bw]) (ej : l[j] = box O 66 #[.int .i64 o.k, .int .i64 o.a, .int .i64 o.id, .int .i64 o.n, .slice o.pA o.pl.length o.pc, .string o.s, .int .i64 o.eo, .bool o.ew, .int .i64 o.ef, .bool o.wr]) : RfS w0 g0 B O r z q o W := by
  have hb := h.law
  have hbk := hbx.same (hb.block _ hbx.lt)
  have kB := h.blk i hi ei
  have kO := h.blk j hj ej
  exact ⟨⟨hbk.cell 1, hbk.cell 2, kB.cell 0, kB.cell 1, kO.cell 0, kO.cell 1, kO.cell 2, kO.cell 3, kO.cell 4, kO.cell 5, kO.cell 6, kO.cell 7, kO.cell 8, kO.cell 9⟩, ⟨hbk.lt, kB.lt, kO.lt⟩, l, h⟩
theorem RfS.below {w0 W W' : World} {g0 B O : Nat} {r z : Int} {q : Vs} {o : OpV} (h : RfS w0 g0 B O r z q o W) (hb : Below W.heap.size W W') : RfS w0 g0 B O r z q o W' := by
  obtain ⟨⟨c1, c2, c3, c4, o0, o1, o2, o3, o4, o5, o6, o7, o8, o9⟩, ⟨l1, l2, l3⟩, l, hS⟩ := h
  have e1 : ∀ i, W'.cell? ⟨g0, i, none⟩ = W.cell? ⟨g0, i, none⟩ := fun i => hb.cell (p := ⟨g0, i, none⟩) l1
  have e2 : ∀ i, W'.cell? ⟨B, i, none⟩ = W.cell? ⟨B, i, none⟩ := fun i => hb.cell (p := ⟨B, i, none⟩) l2
  have e3 : ∀ i, W'.cell? ⟨O, i, none⟩ = W.cell? ⟨O, i, none⟩ := fun i => hb.cell (p := ⟨O, i, none⟩) l3
  have hs := hb.size
  exact ⟨⟨(e1 _).trans c1, (e1 _).trans c2, (e2 _).trans c3, (e2 _).trans c4, (e3 _).trans o0, (e3 _).trans o1, (e3 _).trans o2, (e3 _).trans o3, (e3 _).trans o4, (e3 _).trans o5, (e3 _).trans o6, (e3 _).trans o7, (e3 _).trans o8, (e3 _).trans o9⟩, ⟨by omega, by omega, by omega⟩, l, hS.below hb⟩
theorem RfS.step {w0 W W' : World} {g0 B O : Nat} {r z : Int} {q : Vs} {o : OpV} (h : RfS w0 g0 B O r z q o W) {F : Nat → Prop} (hs : Step F W W') (hF : ¬ F g0 ∧ ¬ F B ∧ ¬ F O) (l : List As) (hS : St (fun _ => False) w0 (stars l) W') : RfS w0 g0 B O r z q o W' := by
  obtain ⟨⟨c1, c2, c3, c4, o0, o1, o2, o3, o4, o5, o6, o7, o8, o9⟩, ⟨l1, l2, l3⟩, -⟩ := h
  have e1 : ∀ i, W'.cell? ⟨g0, i, none⟩ = W.cell? ⟨g0, i, none⟩ := fun i => World.cell?_of_block (a := ⟨g0, i, none⟩) (hs.block _ l1 hF.1)
  have e2 : ∀ i, W'.cell? ⟨B, i, none⟩ = W.cell? ⟨B, i, none⟩ := fun i => World.cell?_of_block (a := ⟨B, i, none⟩) (hs.block _ l2 hF.2.1)
  have e3 : ∀ i, W'.cell? ⟨O, i, none⟩ = W.cell? ⟨O, i, none⟩ := fun i => World.cell?_of_block (a := ⟨O, i, none⟩) (hs.block _ l3 hF.2.2)
  have := hs.size
  exact ⟨⟨(e1 _).trans c1, (e1 _).trans c2, (e2 _).trans c3, (e2 _).trans c4, (e3 _).trans o0, (e3 _).trans o1, (e3 _).trans o2, (e3 _).trans o3, (e3 _).trans o4, (e3 _).trans o5, (e3 _).trans o6, (e3 _).trans o7, (e3 _).trans o8, (e3 _).trans o9⟩, ⟨by omega, by omega, by omega⟩, l, hS⟩
theorem RfS.drew {w0 W : World} {g0 B O : Nat} {r z : Int} {q : Vs} {o : OpV} (h : RfS w0 g0 B O r z q o W) : RfS w0 g0 B O r z q o W.drew := h.below (Below.refl _ _).drew
end Go.Proofs.Ytbpgblmhacpjlaa
