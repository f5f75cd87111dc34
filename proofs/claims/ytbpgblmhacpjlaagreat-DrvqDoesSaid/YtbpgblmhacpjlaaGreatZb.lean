/-
  Numbers put into bytes.
-/
import Derived.Test.YtbpgblmhacpjlaaGreatZa
namespace Go.Proofs.YtbpgblmhacpjlaaGreat
open Go.RowKit

def Blk (w : World) (g : Nat) (t : TypeId) (cs : Array Value) : Prop := w.heap[g]? = some (.cells cs t (0, 0))
section
variable {w w' : World} {g : Nat} {t : TypeId} {cs : Array Value}
theorem Blk.lt (h : Blk w g t cs) : g < w.heap.size := by
  rcases Nat.lt_or_ge g w.heap.size with hlt | hge
  · exact hlt
  · unfold Blk at h; rw [Array.getElem?_eq_none hge] at h; cases h
theorem Blk.cell (h : Blk w g t cs) (i : Nat) : w.cell? ⟨g, i, none⟩ = cs[i]? := cell_of_row w g i cs t (0, 0) h
theorem Blk.frozen (h : Blk w g t cs) (i : Nat) : w.frozen? ⟨g, i, none⟩ = false := by
  unfold Blk at h
  simp [World.frozen?, h]
theorem Blk.new (w : World) (t : TypeId) (cs : Array Value) : Blk (w.alloc (.cells cs t)) w.heap.size t cs := heap_alloc_new w _
theorem Blk.alloc (h : Blk w g t cs) (o : Obj) : Blk (w.alloc o) g t cs := (Below.heap_alloc w o g h.lt).trans h
theorem Blk.put (h : Blk w g t cs) (i : Nat) (u : Value) : Blk (w.setCell ⟨g, i, none⟩ u) g t (cs.setIfInBounds i u) := by
  unfold Blk at h ⊢
  simp [World.setCell, Array.getElem?_modify, h]
theorem Blk.other (h : Blk w g t cs) {k : Nat} (hk : g ≠ k) (i : Nat) (u : Value) : Blk (w.setCell ⟨k, i, none⟩ u) g t cs := (Below.heap_setCell w _ u g hk).trans h
theorem Blk.same (h : Blk w g t cs) (hb : w'.heap[g]? = w.heap[g]?) : Blk w' g t cs := hb.trans h
end
/-- A variable in its block, and all else as it was. -/
structure Held (w0 : World) (t : TypeId) (cs : Array Value) (w : World) : Prop where
  blk : Blk w w0.heap.size t cs
  below : Below w0.heap.size w0 w
theorem Held.new (w : World) (t : TypeId) (cs : Array Value) : Held w t cs (w.alloc (.cells cs t)) := ⟨Blk.new w t _, (Below.refl _ _).alloc (Nat.le_refl _) _⟩
theorem Held.next {w w1 w' : World} {t : TypeId} {cs : Array Value} (h : Held w t cs w1) (hq : Below w1.heap.size w1 w') : Held w t cs w' :=
  ⟨h.blk.same (hq.block _ h.blk.lt), h.below.trans (hq.mono (by have := h.blk.lt; omega))⟩
theorem Held.drew {w w1 : World} {t : TypeId} {cs : Array Value} (h : Held w t cs w1) : Held w t cs w1.drew := ⟨h.blk, h.below.drew⟩
theorem bl {n : Nat} {w w1 w2 : World} (h : Below n w w1) (hn : n ≤ w1.heap.size) (hq : Below w1.heap.size w1 w2) : Below n w w2 := h.trans (hq.mono hn)
theorem b0 {w w1 w2 : World} (h : Below w.heap.size w w1) (hq : Below w1.heap.size w1 w2) : Below w.heap.size w w2 := h.trans (hq.mono h.size)
theorem ba {w w1 : World} (h : Below w.heap.size w w1) (o : Obj) : Below w.heap.size w (w1.alloc o) := h.alloc h.size o
/-- a variable of four cells, its cells said one by one -/
def H4 (w : World) (t : TypeId) (a b c d : Value) (w' : World) : Prop :=
  (w'.cell? ⟨w.heap.size, 0, none⟩ = some a ∧ w'.cell? ⟨w.heap.size, 1, none⟩ = some b ∧ w'.cell? ⟨w.heap.size, 2, none⟩ = some c ∧ w'.cell? ⟨w.heap.size, 3, none⟩ = some d) ∧ Held w t #[a, b, c, d] w'
theorem H4.of {w w' : World} {t : TypeId} {a b c d : Value} (h : Held w t #[a, b, c, d] w') : H4 w t a b c d w' :=
  ⟨⟨h.blk.cell 0, h.blk.cell 1, h.blk.cell 2, h.blk.cell 3⟩, h⟩
theorem H4.new (w : World) (t : TypeId) (a b c d : Value) : H4 w t a b c d (w.alloc (.cells #[a, b, c, d] t)) := H4.of (Held.new w t _)
theorem H4.next {w w1 w' : World} {t : TypeId} {a b c d : Value} (h : H4 w t a b c d w1) (hq : Below w1.heap.size w1 w') : H4 w t a b c d w' := H4.of (h.2.next hq)
theorem H4.drew {w w1 : World} {t : TypeId} {a b c d : Value} (h : H4 w t a b c d w1) : H4 w t a b c d w1.drew := H4.of h.2.drew
theorem H4.below {w w1 : World} {t : TypeId} {a b c d : Value} (h : H4 w t a b c d w1) : Below w.heap.size w w1 := h.2.below
end Go.Proofs.YtbpgblmhacpjlaaGreat
namespace Go.Proofs.YtbpgblmhacpjlaaGreat
open Go.RowKit

set_option maxHeartbeats 400000 in
theorem put_ok (v n : Nat) (big : Bool) (w : World) (h1 : 1 ≤ n) (h2 : n ≤ 8) (hv : v < 256 ^ n) :
    Calls Tryz.prog 52 #[.int .u64 v, .int .i64 n, .bool big] w fun e w' => e = .returned (.tuple #[.string ⟨(enc v n big).toArray⟩, .int .i64 0]) ∧ Below w.heap.size w w' := by
  have hf : decide ((v : Int) < 256 ^ n) = true := by
    have : ((256 ^ n : Nat) : Int) = 256 ^ n := by simp
    rw [← this]; exact decide_eq_true (by omega)
  have hfit := fun w => fits_any v n w (by omega) h1 h2
  rw [hf] at hfit
  have HF := Lib.hid hfit
  clear hfit hf
  have HV := Lib.hid hv
  clear hv
  obtain ⟨i0, hi, hz0, hz1, hz2⟩ := info_parts Tryz.info5
  have HI := Lib.hid hi
  have HZ0 := Lib.hid hz0
  have HZ1 := Lib.hid hz1
  have HZ2 := Lib.hid hz2
  clear hi hz0 hz1 hz2
  go_enter Tryz.func52, Tryz.ntmps52
  go_wp2_with (first
    | (go_at_call 77; refine (isSize_yes _ _ (by omega) (by omega)).mono ?_; rintro e w' ⟨rfl, rfl⟩)
    | (go_at_call 78; refine (HF.out _).mono ?_; rintro e w' ⟨rfl, rfl⟩)
    | (at_make; refine wpList_make_full _ rfl (.tmp 19) (.tmp 19) 65 rfl w.heap.size 5 i0 (.int .u8 0) 1 Tryz.underlying65 HI.out HZ0.out HZ1.out .i64 .i64 n n n rfl rfl rfl rfl (by rw [HZ2.out]; omega) (by unfold maxLen; omega) (Nat.le_refl _) ?_; intro w1 hrow hgrow))
  have hl := enc_length v n big
  have hst := Fill.start hl hrow hgrow
  have HL := Lib.hid hl
  clear hl hrow hgrow
  go_loopw [22] (fun i wr => ∃ k : Nat, k ≤ n ∧ i = .int .i64 k ∧ Fill w.heap.size (enc v n big) (fun j => j < k) w wr) (fun i _ => n - (intOf i).toNat)
  case atStart => exact ⟨0, Nat.zero_le _, rfl, hst.mono (fun _ _ h => by omega)⟩
  case round =>
    obtain ⟨k, hk, rfl, hfill⟩ := hrel
    clear hst
    by_cases hlt : k < n
    · obtain ⟨u, hcell⟩ := hfill.cell k (by rw [HL.out]; exact hlt)
      have hfree := hfill.free k
      have hp : plc n k big ≤ 7 := by cases big <;> simp [plc] <;> omega
      go_wp2_with (go_at_call 79; refine (shift_any _ _ _ _ hlt h2).mono ?_; rintro e w' ⟨rfl, rfl⟩)
      go_roundw
      case rel =>
        refine ⟨k + 1, by omega, by go_num, ?_⟩
        have hs := hfill.step k (by rw [HL.out]; exact hlt)
        rw [← byte_round v n k big hlt] at hs
        exact hs.mono (fun j _ h => by omega)
      case measure => simp [intOf]; omega
    · obtain rfl : k = n := by omega
      have hfull : Fill w.heap.size (enc v k big) (fun _ => True) w wr := hfill.mono (fun j hj _ => by rw [HL.out] at hj; exact hj)
      have hconv := hfull.text k
      rw [HL.out] at hconv
      go_wp2
      go_ret2
      exact ⟨rfl, hfull.below⟩
theorem put_size (v n : Int) (big : Bool) (w : World) (h : n < 1 ∨ 8 < n) :
    Calls Tryz.prog 52 #[.int .u64 v, .int .i64 n, .bool big] w fun e w' => e = .returned (.tuple #[.string ⟨#[]⟩, .int .i64 1]) ∧ w = w' := by
  go_enter Tryz.func52, Tryz.ntmps52
  go_wp2_with (go_at_call 77; refine (isSize_no _ _ h).mono ?_; rintro e w' ⟨rfl, rfl⟩)
  go_ret2
  exact ⟨rfl, rfl⟩
theorem put_great (v : Int) (n : Nat) (big : Bool) (w : World) (h0 : 0 ≤ v) (h1 : 1 ≤ n) (h2 : n ≤ 8) (hv : ¬ v < 256 ^ n) :
    Calls Tryz.prog 52 #[.int .u64 v, .int .i64 n, .bool big] w fun e w' => e = .returned (.tuple #[.string ⟨#[]⟩, .int .i64 1]) ∧ w = w' := by
  have hfit := fun w => fits_any v n w h0 h1 h2
  rw [decide_eq_false hv] at hfit
  have HF := Lib.hid hfit
  clear hfit hv
  go_enter Tryz.func52, Tryz.ntmps52
  go_wp2_with (first
    | (go_at_call 77; refine (isSize_yes _ _ (by omega) (by omega)).mono ?_; rintro e w' ⟨rfl, rfl⟩)
    | (go_at_call 78; refine (HF.out _).mono ?_; rintro e w' ⟨rfl, rfl⟩))
  go_ret2
  exact ⟨rfl, rfl⟩

def putE (v n : Int) : Int := if 1 ≤ n ∧ n ≤ 8 ∧ v < 256 ^ n.toNat then 0 else 1
def putS (v n : Int) (big : Bool) : ByteArray := if 1 ≤ n ∧ n ≤ 8 ∧ v < 256 ^ n.toNat then ⟨(enc v.toNat n.toNat big).toArray⟩ else ⟨#[]⟩
theorem pow_cast (n : Nat) : ((256 ^ n : Nat) : Int) = 256 ^ n := by simp
theorem put_any (v n : Int) (big : Bool) (w : World) (h0 : 0 ≤ v) :
    Calls Tryz.prog 52 #[.int .u64 v, .int .i64 n, .bool big] w fun e w' => e = .returned (.tuple #[.string (putS v n big), .int .i64 (putE v n)]) ∧ Below w.heap.size w w' := by
  by_cases h1 : 1 ≤ n ∧ n ≤ 8
  · obtain ⟨k, rfl⟩ := Int.eq_ofNat_of_zero_le (show 0 ≤ n by omega)
    obtain ⟨m, rfl⟩ := Int.eq_ofNat_of_zero_le h0
    by_cases h2 : (m : Int) < 256 ^ k
    · have h3 : m < 256 ^ k := by have := pow_cast k; omega
      refine (put_ok m k big w (by omega) (by omega) h3).mono fun e w' ⟨he, hw⟩ => ⟨?_, hw⟩
      rw [he, putS, putE, if_pos ⟨h1.1, h1.2, h2⟩, if_pos ⟨h1.1, h1.2, h2⟩]; rfl
    · refine (put_great m k big w h0 (by omega) (by omega) h2).mono fun e w' ⟨he, hw⟩ => ⟨?_, hw ▸ Below.refl _ _⟩
      rw [he, putS, putE, if_neg (fun h => h2 h.2.2), if_neg (fun h => h2 h.2.2)]
  · refine (put_size v n big w (by omega)).mono fun e w' ⟨he, hw⟩ => ⟨?_, hw ▸ Below.refl _ _⟩
    rw [he, putS, putE, if_neg (fun h => h1 ⟨h.1, h.2.1⟩), if_neg (fun h => h1 ⟨h.1, h.2.1⟩)]
end Go.Proofs.YtbpgblmhacpjlaaGreat
