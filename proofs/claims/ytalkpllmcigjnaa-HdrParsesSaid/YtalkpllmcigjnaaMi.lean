/-
  Segments: what segment.Parse answers.
-/
import Derived.Test.YtalkpllmcigjnaaMe
import Derived.Test.YtalkpllmcigjnaaMh
import Derived.Test.YtalkpllmcigjnaaMd
import Derived.Deep.RegionHeld3
namespace Go.Proofs.Ytalkpllmcigjnaa
open Go.RowKit

def sgL (g : Sg) : Array Value := #[.int .i64 g.src, .int .i64 g.dst, .int .u32 g.seq, .int .u32 g.ack, .int .i64 g.flags, .int .i64 g.win, .int .i64 g.urgent, .string g.opt, .string g.body, .bool g.nosum]
def Sg.zero : Sg := ⟨0, 0, 0, 0, 0, 0, 0, ⟨#[]⟩, ⟨#[]⟩, false⟩
theorem set10 {w : World} {g : Nat} {t : TypeId} {c0 c1 c2 c3 c4 c5 c6 c7 c8 c9 : Value} (h : Blk w g t #[c0, c1, c2, c3, c4, c5, c6, c7, c8, c9]) (x0 x1 x2 x3 x4 x5 x6 x7 x8 x9 : Value) : Blk ((((((((((w.setCell ⟨g, 0, none⟩ x0).setCell ⟨g, 1, none⟩ x1).setCell ⟨g, 2, none⟩ x2).setCell ⟨g, 3, none⟩ x3).setCell ⟨g, 4, none⟩ x4).setCell ⟨g, 5, none⟩ x5).setCell ⟨g, 6, none⟩ x6).setCell ⟨g, 7, none⟩ x7).setCell ⟨g, 8, none⟩ x8).setCell ⟨g, 9, none⟩ x9) g t #[x0, x1, x2, x3, x4, x5, x6, x7, x8, x9] :=
  ((((((((((h.put' 0 x0 (cs' := #[x0, c1, c2, c3, c4, c5, c6, c7, c8, c9]) rfl).put' 1 x1 (cs' := #[x0, x1, c2, c3, c4, c5, c6, c7, c8, c9]) rfl).put' 2 x2 (cs' := #[x0, x1, x2, c3, c4, c5, c6, c7, c8, c9]) rfl).put' 3 x3 (cs' := #[x0, x1, x2, x3, c4, c5, c6, c7, c8, c9]) rfl).put' 4 x4 (cs' := #[x0, x1, x2, x3, x4, c5, c6, c7, c8, c9]) rfl).put' 5 x5 (cs' := #[x0, x1, x2, x3, x4, x5, c6, c7, c8, c9]) rfl).put' 6 x6 (cs' := #[x0, x1, x2, x3, x4, x5, x6, c7, c8, c9]) rfl).put' 7 x7 (cs' := #[x0, x1, x2, x3, x4, x5, x6, x7, c8, c9]) rfl).put' 8 x8 (cs' := #[x0, x1, x2, x3, x4, x5, x6, x7, x8, c9]) rfl).put' 9 x9 (cs' := #[x0, x1, x2, x3, x4, x5, x6, x7, x8, x9]) rfl)
theorem other10 {w : World} {g k : Nat} {t : TypeId} {cs : Array Value} (h : Blk w k t cs) (hk : k ≠ g) (x0 x1 x2 x3 x4 x5 x6 x7 x8 x9 : Value) : Blk ((((((((((w.setCell ⟨g, 0, none⟩ x0).setCell ⟨g, 1, none⟩ x1).setCell ⟨g, 2, none⟩ x2).setCell ⟨g, 3, none⟩ x3).setCell ⟨g, 4, none⟩ x4).setCell ⟨g, 5, none⟩ x5).setCell ⟨g, 6, none⟩ x6).setCell ⟨g, 7, none⟩ x7).setCell ⟨g, 8, none⟩ x8).setCell ⟨g, 9, none⟩ x9) k t cs :=
  ((((((((((h.other hk 0 x0).other hk 1 x1).other hk 2 x2).other hk 3 x3).other hk 4 x4).other hk 5 x5).other hk 6 x6).other hk 7 x7).other hk 8 x8).other hk 9 x9)
theorem below10 {B : Nat} {w0 w : World} {g : Nat} (h : Below B w0 w) (hB : B ≤ g) (x0 x1 x2 x3 x4 x5 x6 x7 x8 x9 : Value) : Below B w0 ((((((((((w.setCell ⟨g, 0, none⟩ x0).setCell ⟨g, 1, none⟩ x1).setCell ⟨g, 2, none⟩ x2).setCell ⟨g, 3, none⟩ x3).setCell ⟨g, 4, none⟩ x4).setCell ⟨g, 5, none⟩ x5).setCell ⟨g, 6, none⟩ x6).setCell ⟨g, 7, none⟩ x7).setCell ⟨g, 8, none⟩ x8).setCell ⟨g, 9, none⟩ x9) :=
  ((((((((((h.setCell hB x0).setCell hB x1).setCell hB x2).setCell hB x3).setCell hB x4).setCell hB x5).setCell hB x6).setCell hB x7).setCell hB x8).setCell hB x9)
theorem get8_any (s : ByteArray) (a n : Nat) (w : World) (hs : s.size ≤ maxLen) (h1 : 1 ≤ n) (h2 : n ≤ 4) (h3 : a + n ≤ s.size) :
    Calls Try.prog 115 #[.string s, .int .i64 a, .int .i64 n] w fun e w' => e = .returned (.int .i64 (nat s a n)) ∧ Below w.heap.size w w' := by
  have hlt := nat_lt s a n
  have hp : 256 ^ n ≤ 256 ^ 4 := Nat.pow_le_pow_right (by decide) h2
  have G := fun W => get_ok s a n true W hs h1 (by omega) h3
  change ∀ W, Calls Try.prog 56 #[.string s, .int .i64 a, .int .i64 n, .bool true] W fun e w' => e = .returned (.tuple #[.int .u64 (nat s a n), .int .i64 0]) ∧ Below W.heap.size W w' at G
  have HG := Lib.hid G
  have hX : nat s a n < 4294967296 := by omega
  clear G hlt hp
  generalize nat s a n = X at *
  go_enter Try.func115, Try.ntmps115
  go_wp2_with (go_at_call 56; (with_reducible refine (HG.out _).mono ?_); rintro e w' ⟨rfl, hq⟩)
  go_ret
  exact ⟨rfl, hq⟩
theorem low4' (n : Int) : bits .and .i64 n 15 = n % 16 := low4 n
/-- What a segment's bytes are with the right checksum in them. -/
def sumdS (p : Pk) (s : ByteArray) : ByteArray := withS s (atV p.proto) (segSum (pseudoB p s.size ++ withS s (atV p.proto) 0))
def tcpN (s : ByteArray) : Nat := 4 * (nat s 12 1 / 16)
def tcpE (p : Pk) : Int := if p.body.size < 20 ∨ p.body.size < tcpN p.body then 80 else if tcpN p.body < 20 ∨ nat p.body 12 1 % 16 ≠ 0 then 81 else if sumdS p p.body = p.body then 0 else 82
def tcpG (s : ByteArray) : Sg := ⟨nat s 0 2, nat s 2 2, nat s 4 4, nat s 8 4, nat s 13 1, nat s 14 2, nat s 18 2, s.extract 20 (tcpN s), s.extract (tcpN s) s.size, false⟩
def noS (p : Pk) : Bool := (p.v == 4) && (nat p.body 6 2 == 0)
def udpE (p : Pk) : Int := if p.body.size < 8 then 80 else if nat p.body 4 2 ≠ p.body.size then 81 else if noS p = true ∨ sumdS p p.body = p.body then 0 else 82
def udpG (p : Pk) : Sg := ⟨nat p.body 0 2, nat p.body 2 2, 0, 0, 0, 0, 0, ⟨#[]⟩, p.body.extract 8 p.body.size, noS p⟩
/-- The ten cells of a segment, whatever is in them. -/
def cellF (w : World) (g i : Nat) : Value := (w.cell? ⟨g, i, none⟩).getD undef
def SF (w0 : World) (g : Nat) (w : World) : Prop := (∃ c0 c1 c2 c3 c4 c5 c6 c7 c8 c9, Blk w g 39 #[c0, c1, c2, c3, c4, c5, c6, c7, c8, c9]) ∧ Below w0.heap.size w0 w ∧ w0.heap.size ≤ g
theorem SF.cells {w0 w : World} (h : SF w0 (w0.heap.size + 1) w) : (w.cell? ⟨w0.heap.size + 1, 0, none⟩ = some (cellF w (w0.heap.size + 1) 0) ∧ w.cell? ⟨w0.heap.size + 1, 1, none⟩ = some (cellF w (w0.heap.size + 1) 1) ∧ w.cell? ⟨w0.heap.size + 1, 2, none⟩ = some (cellF w (w0.heap.size + 1) 2) ∧ w.cell? ⟨w0.heap.size + 1, 3, none⟩ = some (cellF w (w0.heap.size + 1) 3) ∧ w.cell? ⟨w0.heap.size + 1, 4, none⟩ = some (cellF w (w0.heap.size + 1) 4) ∧ w.cell? ⟨w0.heap.size + 1, 5, none⟩ = some (cellF w (w0.heap.size + 1) 5) ∧ w.cell? ⟨w0.heap.size + 1, 6, none⟩ = some (cellF w (w0.heap.size + 1) 6) ∧ w.cell? ⟨w0.heap.size + 1, 7, none⟩ = some (cellF w (w0.heap.size + 1) 7) ∧ w.cell? ⟨w0.heap.size + 1, 8, none⟩ = some (cellF w (w0.heap.size + 1) 8) ∧ w.cell? ⟨w0.heap.size + 1, 9, none⟩ = some (cellF w (w0.heap.size + 1) 9) ∧ (∀ i, w.frozen? ⟨w0.heap.size + 1, i, none⟩ = false)) := by
  obtain ⟨⟨c0, c1, c2, c3, c4, c5, c6, c7, c8, c9, hb⟩, _⟩ := h
  refine ⟨?_, ?_, ?_, ?_, ?_, ?_, ?_, ?_, ?_, ?_, hb.frozen⟩ <;> (unfold cellF; rw [hb.cell]; rfl)
theorem SF.on {w0 w w' : World} {g : Nat} (h : SF w0 g w) (hq : Below w.heap.size w w') : SF w0 g w' := by
  obtain ⟨⟨c0, c1, c2, c3, c4, c5, c6, c7, c8, c9, hb⟩, hB, hg⟩ := h
  exact ⟨⟨_, _, _, _, _, _, _, _, _, _, hb.same (hq.block _ hb.lt)⟩, hB.trans (hq.mono hB.size), hg⟩
theorem SF.drew {w0 w : World} {g : Nat} (h : SF w0 g w) : SF w0 g w.drew := ⟨h.1, h.2.1.drew, h.2.2⟩
theorem SF.store {w0 w : World} {g : Nat} (h : SF w0 g w) (x0 x1 x2 x3 x4 x5 x6 x7 x8 x9 : Value) : SF w0 g ((((((((((w.setCell ⟨g, 0, none⟩ x0).setCell ⟨g, 1, none⟩ x1).setCell ⟨g, 2, none⟩ x2).setCell ⟨g, 3, none⟩ x3).setCell ⟨g, 4, none⟩ x4).setCell ⟨g, 5, none⟩ x5).setCell ⟨g, 6, none⟩ x6).setCell ⟨g, 7, none⟩ x7).setCell ⟨g, 8, none⟩ x8).setCell ⟨g, 9, none⟩ x9) := by
  obtain ⟨⟨c0, c1, c2, c3, c4, c5, c6, c7, c8, c9, hb⟩, hB, hg⟩ := h
  exact ⟨⟨_, _, _, _, _, _, _, _, _, _, set10 hb x0 x1 x2 x3 x4 x5 x6 x7 x8 x9⟩, below10 hB hg x0 x1 x2 x3 x4 x5 x6 x7 x8 x9, hg⟩
theorem sf_next {w0 w1 w' : World} (h : (w1.cell? ⟨w0.heap.size + 1, 0, none⟩ = some (cellF w1 (w0.heap.size + 1) 0) ∧ w1.cell? ⟨w0.heap.size + 1, 1, none⟩ = some (cellF w1 (w0.heap.size + 1) 1) ∧ w1.cell? ⟨w0.heap.size + 1, 2, none⟩ = some (cellF w1 (w0.heap.size + 1) 2) ∧ w1.cell? ⟨w0.heap.size + 1, 3, none⟩ = some (cellF w1 (w0.heap.size + 1) 3) ∧ w1.cell? ⟨w0.heap.size + 1, 4, none⟩ = some (cellF w1 (w0.heap.size + 1) 4) ∧ w1.cell? ⟨w0.heap.size + 1, 5, none⟩ = some (cellF w1 (w0.heap.size + 1) 5) ∧ w1.cell? ⟨w0.heap.size + 1, 6, none⟩ = some (cellF w1 (w0.heap.size + 1) 6) ∧ w1.cell? ⟨w0.heap.size + 1, 7, none⟩ = some (cellF w1 (w0.heap.size + 1) 7) ∧ w1.cell? ⟨w0.heap.size + 1, 8, none⟩ = some (cellF w1 (w0.heap.size + 1) 8) ∧ w1.cell? ⟨w0.heap.size + 1, 9, none⟩ = some (cellF w1 (w0.heap.size + 1) 9) ∧ (∀ i, w1.frozen? ⟨w0.heap.size + 1, i, none⟩ = false)) ∧ SF w0 (w0.heap.size + 1) w1) (hq : Below w1.heap.size w1 w') : (w'.cell? ⟨w0.heap.size + 1, 0, none⟩ = some (cellF w' (w0.heap.size + 1) 0) ∧ w'.cell? ⟨w0.heap.size + 1, 1, none⟩ = some (cellF w' (w0.heap.size + 1) 1) ∧ w'.cell? ⟨w0.heap.size + 1, 2, none⟩ = some (cellF w' (w0.heap.size + 1) 2) ∧ w'.cell? ⟨w0.heap.size + 1, 3, none⟩ = some (cellF w' (w0.heap.size + 1) 3) ∧ w'.cell? ⟨w0.heap.size + 1, 4, none⟩ = some (cellF w' (w0.heap.size + 1) 4) ∧ w'.cell? ⟨w0.heap.size + 1, 5, none⟩ = some (cellF w' (w0.heap.size + 1) 5) ∧ w'.cell? ⟨w0.heap.size + 1, 6, none⟩ = some (cellF w' (w0.heap.size + 1) 6) ∧ w'.cell? ⟨w0.heap.size + 1, 7, none⟩ = some (cellF w' (w0.heap.size + 1) 7) ∧ w'.cell? ⟨w0.heap.size + 1, 8, none⟩ = some (cellF w' (w0.heap.size + 1) 8) ∧ w'.cell? ⟨w0.heap.size + 1, 9, none⟩ = some (cellF w' (w0.heap.size + 1) 9) ∧ (∀ i, w'.frozen? ⟨w0.heap.size + 1, i, none⟩ = false)) ∧ SF w0 (w0.heap.size + 1) w' := ⟨(h.2.on hq).cells, h.2.on hq⟩
theorem sf_here {w0 w1 : World} (h : SF w0 (w0.heap.size + 1) w1) : (w1.drew.cell? ⟨w0.heap.size + 1, 0, none⟩ = some (cellF w1.drew (w0.heap.size + 1) 0) ∧ w1.drew.cell? ⟨w0.heap.size + 1, 1, none⟩ = some (cellF w1.drew (w0.heap.size + 1) 1) ∧ w1.drew.cell? ⟨w0.heap.size + 1, 2, none⟩ = some (cellF w1.drew (w0.heap.size + 1) 2) ∧ w1.drew.cell? ⟨w0.heap.size + 1, 3, none⟩ = some (cellF w1.drew (w0.heap.size + 1) 3) ∧ w1.drew.cell? ⟨w0.heap.size + 1, 4, none⟩ = some (cellF w1.drew (w0.heap.size + 1) 4) ∧ w1.drew.cell? ⟨w0.heap.size + 1, 5, none⟩ = some (cellF w1.drew (w0.heap.size + 1) 5) ∧ w1.drew.cell? ⟨w0.heap.size + 1, 6, none⟩ = some (cellF w1.drew (w0.heap.size + 1) 6) ∧ w1.drew.cell? ⟨w0.heap.size + 1, 7, none⟩ = some (cellF w1.drew (w0.heap.size + 1) 7) ∧ w1.drew.cell? ⟨w0.heap.size + 1, 8, none⟩ = some (cellF w1.drew (w0.heap.size + 1) 8) ∧ w1.drew.cell? ⟨w0.heap.size + 1, 9, none⟩ = some (cellF w1.drew (w0.heap.size + 1) 9) ∧ (∀ i, w1.drew.frozen? ⟨w0.heap.size + 1, i, none⟩ = false)) ∧ SF w0 (w0.heap.size + 1) w1.drew := ⟨h.drew.cells, h.drew⟩
theorem sf_store {w0 w1 : World} (h : (w1.cell? ⟨w0.heap.size + 1, 0, none⟩ = some (cellF w1 (w0.heap.size + 1) 0) ∧ w1.cell? ⟨w0.heap.size + 1, 1, none⟩ = some (cellF w1 (w0.heap.size + 1) 1) ∧ w1.cell? ⟨w0.heap.size + 1, 2, none⟩ = some (cellF w1 (w0.heap.size + 1) 2) ∧ w1.cell? ⟨w0.heap.size + 1, 3, none⟩ = some (cellF w1 (w0.heap.size + 1) 3) ∧ w1.cell? ⟨w0.heap.size + 1, 4, none⟩ = some (cellF w1 (w0.heap.size + 1) 4) ∧ w1.cell? ⟨w0.heap.size + 1, 5, none⟩ = some (cellF w1 (w0.heap.size + 1) 5) ∧ w1.cell? ⟨w0.heap.size + 1, 6, none⟩ = some (cellF w1 (w0.heap.size + 1) 6) ∧ w1.cell? ⟨w0.heap.size + 1, 7, none⟩ = some (cellF w1 (w0.heap.size + 1) 7) ∧ w1.cell? ⟨w0.heap.size + 1, 8, none⟩ = some (cellF w1 (w0.heap.size + 1) 8) ∧ w1.cell? ⟨w0.heap.size + 1, 9, none⟩ = some (cellF w1 (w0.heap.size + 1) 9) ∧ (∀ i, w1.frozen? ⟨w0.heap.size + 1, i, none⟩ = false)) ∧ SF w0 (w0.heap.size + 1) w1) (x0 x1 x2 x3 x4 x5 x6 x7 x8 x9 : Value) : (((((((((((w1.setCell ⟨w0.heap.size + 1, 0, none⟩ x0).setCell ⟨w0.heap.size + 1, 1, none⟩ x1).setCell ⟨w0.heap.size + 1, 2, none⟩ x2).setCell ⟨w0.heap.size + 1, 3, none⟩ x3).setCell ⟨w0.heap.size + 1, 4, none⟩ x4).setCell ⟨w0.heap.size + 1, 5, none⟩ x5).setCell ⟨w0.heap.size + 1, 6, none⟩ x6).setCell ⟨w0.heap.size + 1, 7, none⟩ x7).setCell ⟨w0.heap.size + 1, 8, none⟩ x8).setCell ⟨w0.heap.size + 1, 9, none⟩ x9).cell? ⟨w0.heap.size + 1, 0, none⟩ = some (cellF ((((((((((w1.setCell ⟨w0.heap.size + 1, 0, none⟩ x0).setCell ⟨w0.heap.size + 1, 1, none⟩ x1).setCell ⟨w0.heap.size + 1, 2, none⟩ x2).setCell ⟨w0.heap.size + 1, 3, none⟩ x3).setCell ⟨w0.heap.size + 1, 4, none⟩ x4).setCell ⟨w0.heap.size + 1, 5, none⟩ x5).setCell ⟨w0.heap.size + 1, 6, none⟩ x6).setCell ⟨w0.heap.size + 1, 7, none⟩ x7).setCell ⟨w0.heap.size + 1, 8, none⟩ x8).setCell ⟨w0.heap.size + 1, 9, none⟩ x9) (w0.heap.size + 1) 0) ∧ ((((((((((w1.setCell ⟨w0.heap.size + 1, 0, none⟩ x0).setCell ⟨w0.heap.size + 1, 1, none⟩ x1).setCell ⟨w0.heap.size + 1, 2, none⟩ x2).setCell ⟨w0.heap.size + 1, 3, none⟩ x3).setCell ⟨w0.heap.size + 1, 4, none⟩ x4).setCell ⟨w0.heap.size + 1, 5, none⟩ x5).setCell ⟨w0.heap.size + 1, 6, none⟩ x6).setCell ⟨w0.heap.size + 1, 7, none⟩ x7).setCell ⟨w0.heap.size + 1, 8, none⟩ x8).setCell ⟨w0.heap.size + 1, 9, none⟩ x9).cell? ⟨w0.heap.size + 1, 1, none⟩ = some (cellF ((((((((((w1.setCell ⟨w0.heap.size + 1, 0, none⟩ x0).setCell ⟨w0.heap.size + 1, 1, none⟩ x1).setCell ⟨w0.heap.size + 1, 2, none⟩ x2).setCell ⟨w0.heap.size + 1, 3, none⟩ x3).setCell ⟨w0.heap.size + 1, 4, none⟩ x4).setCell ⟨w0.heap.size + 1, 5, none⟩ x5).setCell ⟨w0.heap.size + 1, 6, none⟩ x6).setCell ⟨w0.heap.size + 1, 7, none⟩ x7).setCell ⟨w0.heap.size + 1, 8, none⟩ x8).setCell ⟨w0.heap.size + 1, 9, none⟩ x9) (w0.heap.size + 1) 1) ∧ ((((((((((w1.setCell ⟨w0.heap.size + 1, 0, none⟩ x0).setCell ⟨w0.heap.size + 1, 1, none⟩ x1).setCell ⟨w0.heap.size + 1, 2, none⟩ x2).setCell ⟨w0.heap.size + 1, 3, none⟩ x3).setCell ⟨w0.heap.size + 1, 4, none⟩ x4).setCell ⟨w0.heap.size + 1, 5, none⟩ x5).setCell ⟨w0.heap.size + 1, 6, none⟩ x6).setCell ⟨w0.heap.size + 1, 7, none⟩ x7).setCell ⟨w0.heap.size + 1, 8, none⟩ x8).setCell ⟨w0.heap.size + 1, 9, none⟩ x9).cell? ⟨w0.heap.size + 1, 2, none⟩ = some (cellF ((((((((((w1.setCell ⟨w0.heap.size + 1, 0, none⟩ x0).setCell ⟨w0.heap.size + 1, 1, none⟩ x1).setCell ⟨w0.heap.size + 1, 2, none⟩ x2).setCell ⟨w0.heap.size + 1, 3, none⟩ x3).setCell ⟨w0.heap.size + 1, 4, none⟩ x4).setCell ⟨w0.heap.size + 1, 5, none⟩ x5).setCell ⟨w0.heap.size + 1, 6, none⟩ x6).setCell ⟨w0.heap.size + 1, 7, none⟩ x7).setCell ⟨w0.heap.size + 1, 8, none⟩ x8).setCell ⟨w0.heap.size + 1, 9, none⟩ x9) (w0.heap.size + 1) 2) ∧ ((((((((((w1.setCell ⟨w0.heap.size + 1, 0, none⟩ x0).setCell ⟨w0.heap.size + 1, 1, none⟩ x1).setCell ⟨w0.heap.size + 1, 2, none⟩ x2).setCell ⟨w0.heap.size + 1, 3, none⟩ x3).setCell ⟨w0.heap.size + 1, 4, none⟩ x4).setCell ⟨w0.heap.size + 1, 5, none⟩ x5).setCell ⟨w0.heap.size + 1, 6, none⟩ x6).setCell ⟨w0.heap.size + 1, 7, none⟩ x7).setCell ⟨w0.heap.size + 1, 8, none⟩ x8).setCell ⟨w0.heap.size + 1, 9, none⟩ x9).cell? ⟨w0.heap.size + 1, 3, none⟩ = some (cellF ((((((((((w1.setCell ⟨w0.heap.size + 1, 0, none⟩ x0).setCell ⟨w0.heap.size + 1, 1, none⟩ x1).setCell ⟨w0.heap.size + 1, 2, none⟩ x2).setCell ⟨w0.heap.size + 1, 3, none⟩ x3).setCell ⟨w0.heap.size + 1, 4, none⟩ x4).setCell ⟨w0.heap.size + 1, 5, none⟩ x5).setCell ⟨w0.heap.size + 1, 6, none⟩ x6).setCell ⟨w0.heap.size + 1, 7, none⟩ x7).setCell ⟨w0.heap.size + 1, 8, none⟩ x8).setCell ⟨w0.heap.size + 1, 9, none⟩ x9) (w0.heap.size + 1) 3) ∧ ((((((((((w1.setCell ⟨w0.heap.size + 1, 0, none⟩ x0).setCell ⟨w0.heap.size + 1, 1, none⟩ x1).setCell ⟨w0.heap.size + 1, 2, none⟩ x2).setCell ⟨w0.heap.size + 1, 3, none⟩ x3).setCell ⟨w0.heap.size + 1, 4, none⟩ x4).setCell ⟨w0.heap.size + 1, 5, none⟩ x5).setCell ⟨w0.heap.size + 1, 6, none⟩ x6).setCell ⟨w0.heap.size + 1, 7, none⟩ x7).setCell ⟨w0.heap.size + 1, 8, none⟩ x8).setCell ⟨w0.heap.size + 1, 9, none⟩ x9).cell? ⟨w0.heap.size + 1, 4, none⟩ = some (cellF ((((((((((w1.setCell ⟨w0.heap.size + 1, 0, none⟩ x0).setCell ⟨w0.heap.size + 1, 1, none⟩ x1).setCell ⟨w0.heap.size + 1, 2, none⟩ x2).setCell ⟨w0.heap.size + 1, 3, none⟩ x3).setCell ⟨w0.heap.size + 1, 4, none⟩ x4).setCell ⟨w0.heap.size + 1, 5, none⟩ x5).setCell ⟨w0.heap.size + 1, 6, none⟩ x6).setCell ⟨w0.heap.size + 1, 7, none⟩ x7).setCell ⟨w0.heap.size + 1, 8, none⟩ x8).setCell ⟨w0.heap.size + 1, 9, none⟩ x9) (w0.heap.size + 1) 4) ∧ ((((((((((w1.setCell ⟨w0.heap.size + 1, 0, none⟩ x0).setCell ⟨w0.heap.size + 1, 1, none⟩ x1).setCell ⟨w0.heap.size + 1, 2, none⟩ x2).setCell ⟨w0.heap.size + 1, 3, none⟩ x3).setCell ⟨w0.heap.size + 1, 4, none⟩ x4).setCell ⟨w0.heap.size + 1, 5, none⟩ x5).setCell ⟨w0.heap.size + 1, 6, none⟩ x6).setCell ⟨w0.heap.size + 1, 7, none⟩ x7).setCell ⟨w0.heap.size + 1, 8, none⟩ x8).setCell ⟨w0.heap.size + 1, 9, none⟩ x9).cell? ⟨w0.heap.size + 1, 5, none⟩ = some (cellF ((((((((((w1.setCell ⟨w0.heap.size + 1, 0, none⟩ x0).setCell ⟨w0.heap.size + 1, 1, none⟩ x1).setCell ⟨w0.heap.size + 1, 2, none⟩ x2).setCell ⟨w0.heap.size + 1, 3, none⟩ x3).setCell ⟨w0.heap.size + 1, 4, none⟩ x4).setCell ⟨w0.heap.size + 1, 5, none⟩ x5).setCell ⟨w0.heap.size + 1, 6, none⟩ x6).setCell ⟨w0.heap.size + 1, 7, none⟩ x7).setCell ⟨w0.heap.size + 1, 8, none⟩ x8).setCell ⟨w0.heap.size + 1, 9, none⟩ x9) (w0.heap.size + 1) 5) ∧ ((((((((((w1.setCell ⟨w0.heap.size + 1, 0, none⟩ x0).setCell ⟨w0.heap.size + 1, 1, none⟩ x1).setCell ⟨w0.heap.size + 1, 2, none⟩ x2).setCell ⟨w0.heap.size + 1, 3, none⟩ x3).setCell ⟨w0.heap.size + 1, 4, none⟩ x4).setCell ⟨w0.heap.size + 1, 5, none⟩ x5).setCell ⟨w0.heap.size + 1, 6, none⟩ x6).setCell ⟨w0.heap.size + 1, 7, none⟩ x7).setCell ⟨w0.heap.size + 1, 8, none⟩ x8).setCell ⟨w0.heap.size + 1, 9, none⟩ x9).cell? ⟨w0.heap.size + 1, 6, none⟩ = some (cellF ((((((((((w1.setCell ⟨w0.heap.size + 1, 0, none⟩ x0).setCell ⟨w0.heap.size + 1, 1, none⟩ x1).setCell ⟨w0.heap.size + 1, 2, none⟩ x2).setCell ⟨w0.heap.size + 1, 3, none⟩ x3).setCell ⟨w0.heap.size + 1, 4, none⟩ x4).setCell ⟨w0.heap.size + 1, 5, none⟩ x5).setCell ⟨w0.heap.size + 1, 6, none⟩ x6).setCell ⟨w0.heap.size + 1, 7, none⟩ x7).setCell ⟨w0.heap.size + 1, 8, none⟩ x8).setCell ⟨w0.heap.size + 1, 9, none⟩ x9) (w0.heap.size + 1) 6) ∧ ((((((((((w1.setCell ⟨w0.heap.size + 1, 0, none⟩ x0).setCell ⟨w0.heap.size + 1, 1, none⟩ x1).setCell ⟨w0.heap.size + 1, 2, none⟩ x2).setCell ⟨w0.heap.size + 1, 3, none⟩ x3).setCell ⟨w0.heap.size + 1, 4, none⟩ x4).setCell ⟨w0.heap.size + 1, 5, none⟩ x5).setCell ⟨w0.heap.size + 1, 6, none⟩ x6).setCell ⟨w0.heap.size + 1, 7, none⟩ x7).setCell ⟨w0.heap.size + 1, 8, none⟩ x8).setCell ⟨w0.heap.size + 1, 9, none⟩ x9).cell? ⟨w0.heap.size + 1, 7, none⟩ = some (cellF ((((((((((w1.setCell ⟨w0.heap.size + 1, 0, none⟩ x0).setCell ⟨w0.heap.size + 1, 1, none⟩ x1).setCell ⟨w0.heap.size + 1, 2, none⟩ x2).setCell ⟨w0.heap.size + 1, 3, none⟩ x3).setCell ⟨w0.heap.size + 1, 4, none⟩ x4).setCell ⟨w0.heap.size + 1, 5, none⟩ x5).setCell ⟨w0.heap.size + 1, 6, none⟩ x6).setCell ⟨w0.heap.size + 1, 7, none⟩ x7).setCell ⟨w0.heap.size + 1, 8, none⟩ x8).setCell ⟨w0.heap.size + 1, 9, none⟩ x9) (w0.heap.size + 1) 7) ∧ ((((((((((w1.setCell ⟨w0.heap.size + 1, 0, none⟩ x0).setCell ⟨w0.heap.size + 1, 1, none⟩ x1).setCell ⟨w0.heap.size + 1, 2, none⟩ x2).setCell ⟨w0.heap.size + 1, 3, none⟩ x3).setCell ⟨w0.heap.size + 1, 4, none⟩ x4).setCell ⟨w0.heap.size + 1, 5, none⟩ x5).setCell ⟨w0.heap.size + 1, 6, none⟩ x6).setCell ⟨w0.heap.size + 1, 7, none⟩ x7).setCell ⟨w0.heap.size + 1, 8, none⟩ x8).setCell ⟨w0.heap.size + 1, 9, none⟩ x9).cell? ⟨w0.heap.size + 1, 8, none⟩ = some (cellF ((((((((((w1.setCell ⟨w0.heap.size + 1, 0, none⟩ x0).setCell ⟨w0.heap.size + 1, 1, none⟩ x1).setCell ⟨w0.heap.size + 1, 2, none⟩ x2).setCell ⟨w0.heap.size + 1, 3, none⟩ x3).setCell ⟨w0.heap.size + 1, 4, none⟩ x4).setCell ⟨w0.heap.size + 1, 5, none⟩ x5).setCell ⟨w0.heap.size + 1, 6, none⟩ x6).setCell ⟨w0.heap.size + 1, 7, none⟩ x7).setCell ⟨w0.heap.size + 1, 8, none⟩ x8).setCell ⟨w0.heap.size + 1, 9, none⟩ x9) (w0.heap.size + 1) 8) ∧ ((((((((((w1.setCell ⟨w0.heap.size + 1, 0, none⟩ x0).setCell ⟨w0.heap.size + 1, 1, none⟩ x1).setCell ⟨w0.heap.size + 1, 2, none⟩ x2).setCell ⟨w0.heap.size + 1, 3, none⟩ x3).setCell ⟨w0.heap.size + 1, 4, none⟩ x4).setCell ⟨w0.heap.size + 1, 5, none⟩ x5).setCell ⟨w0.heap.size + 1, 6, none⟩ x6).setCell ⟨w0.heap.size + 1, 7, none⟩ x7).setCell ⟨w0.heap.size + 1, 8, none⟩ x8).setCell ⟨w0.heap.size + 1, 9, none⟩ x9).cell? ⟨w0.heap.size + 1, 9, none⟩ = some (cellF ((((((((((w1.setCell ⟨w0.heap.size + 1, 0, none⟩ x0).setCell ⟨w0.heap.size + 1, 1, none⟩ x1).setCell ⟨w0.heap.size + 1, 2, none⟩ x2).setCell ⟨w0.heap.size + 1, 3, none⟩ x3).setCell ⟨w0.heap.size + 1, 4, none⟩ x4).setCell ⟨w0.heap.size + 1, 5, none⟩ x5).setCell ⟨w0.heap.size + 1, 6, none⟩ x6).setCell ⟨w0.heap.size + 1, 7, none⟩ x7).setCell ⟨w0.heap.size + 1, 8, none⟩ x8).setCell ⟨w0.heap.size + 1, 9, none⟩ x9) (w0.heap.size + 1) 9) ∧ (∀ i, ((((((((((w1.setCell ⟨w0.heap.size + 1, 0, none⟩ x0).setCell ⟨w0.heap.size + 1, 1, none⟩ x1).setCell ⟨w0.heap.size + 1, 2, none⟩ x2).setCell ⟨w0.heap.size + 1, 3, none⟩ x3).setCell ⟨w0.heap.size + 1, 4, none⟩ x4).setCell ⟨w0.heap.size + 1, 5, none⟩ x5).setCell ⟨w0.heap.size + 1, 6, none⟩ x6).setCell ⟨w0.heap.size + 1, 7, none⟩ x7).setCell ⟨w0.heap.size + 1, 8, none⟩ x8).setCell ⟨w0.heap.size + 1, 9, none⟩ x9).frozen? ⟨w0.heap.size + 1, i, none⟩ = false)) ∧ SF w0 (w0.heap.size + 1) ((((((((((w1.setCell ⟨w0.heap.size + 1, 0, none⟩ x0).setCell ⟨w0.heap.size + 1, 1, none⟩ x1).setCell ⟨w0.heap.size + 1, 2, none⟩ x2).setCell ⟨w0.heap.size + 1, 3, none⟩ x3).setCell ⟨w0.heap.size + 1, 4, none⟩ x4).setCell ⟨w0.heap.size + 1, 5, none⟩ x5).setCell ⟨w0.heap.size + 1, 6, none⟩ x6).setCell ⟨w0.heap.size + 1, 7, none⟩ x7).setCell ⟨w0.heap.size + 1, 8, none⟩ x8).setCell ⟨w0.heap.size + 1, 9, none⟩ x9) := ⟨(h.2.store x0 x1 x2 x3 x4 x5 x6 x7 x8 x9).cells, h.2.store x0 x1 x2 x3 x4 x5 x6 x7 x8 x9⟩
theorem seg105_results (w : World) (tmps : Array Value) (gf : Nat) (h2 : tmps[2]?.getD undef = .pointer (some ⟨gf, 0, none⟩)) {y0 y1 y2 y3 y4 y5 y6 y7 y8 y9 : Value}
    (hF : Blk w gf 39 #[y0, y1, y2, y3, y4, y5, y6, y7, y8, y9]) : (results Try.f105 tmps).run Try.prog w = .ok (.agg #[y0, y1, y2, y3, y4, y5, y6, y7, y8, y9]) w := by
  have c0 := hF.cell 0
  have c1 := hF.cell 1
  have c2 := hF.cell 2
  have c3 := hF.cell 3
  have c4 := hF.cell 4
  have c5 := hF.cell 5
  have c6 := hF.cell 6
  have c7 := hF.cell 7
  have c8 := hF.cell 8
  have c9 := hF.cell 9
  simp only [List.getElem?_toArray, List.getElem?_cons_zero, List.getElem?_cons_succ] at c0 c1 c2 c3 c4 c5 c6 c7 c8 c9
  simp [results, Try.results105, go_sem, h2, c0, c1, c2, c3, c4, c5, c6, c7, c8, c9]
theorem seg106_results (w : World) (tmps : Array Value) (gf : Nat) (h2 : tmps[2]?.getD undef = .pointer (some ⟨gf, 0, none⟩)) {y0 y1 y2 y3 y4 y5 y6 y7 y8 y9 : Value}
    (hF : Blk w gf 39 #[y0, y1, y2, y3, y4, y5, y6, y7, y8, y9]) : (results Try.f106 tmps).run Try.prog w = .ok (.agg #[y0, y1, y2, y3, y4, y5, y6, y7, y8, y9]) w := by
  have c0 := hF.cell 0
  have c1 := hF.cell 1
  have c2 := hF.cell 2
  have c3 := hF.cell 3
  have c4 := hF.cell 4
  have c5 := hF.cell 5
  have c6 := hF.cell 6
  have c7 := hF.cell 7
  have c8 := hF.cell 8
  have c9 := hF.cell 9
  simp only [List.getElem?_toArray, List.getElem?_cons_zero, List.getElem?_cons_succ] at c0 c1 c2 c3 c4 c5 c6 c7 c8 c9
  simp [results, Try.results106, go_sem, h2, c0, c1, c2, c3, c4, c5, c6, c7, c8, c9]
set_option maxRecDepth 100000 in
set_option maxHeartbeats 3200000 in
theorem tcp_few (v : Int) (src dst : ByteArray) (proto hops cls id flags off label : Int) (opt body : ByteArray) (w : World) (h : body.size < 20) :
    Calls Try.prog 105 #[.agg #[.int .i64 v, .string src, .string dst, .int .i64 proto, .int .i64 hops, .int .i64 cls, .int .i64 id, .int .i64 flags, .int .i64 off, .int .i64 label, .string opt, .string body]] w (PanicsF w 80) := by
  have HX := Lib.hid (req_no 80)
  have d20 : decide ((20 : Int) ≤ body.size) = false := decide_eq_false (by omega)
  have hN := Two2.new w #[.int .i64 v, .string src, .string dst, .int .i64 proto, .int .i64 hops, .int .i64 cls, .int .i64 id, .int .i64 flags, .int .i64 off, .int .i64 label, .string opt, .string body] #[.int .i64 0, .int .i64 0, .int .u32 0, .int .u32 0, .int .i64 0, .int .i64 0, .int .i64 0, .string ⟨#[]⟩, .string ⟨#[]⟩, .bool false]
  go_enter Try.func105, Try.ntmps105
  go_wp2_with fail
  refine (HX.out _).mono ?_
  rintro e w' ⟨rfl, rfl⟩
  exact ⟨rfl, rfl, hN.below⟩
set_option maxRecDepth 100000 in
set_option maxHeartbeats 3200000 in
theorem tcp_less (v : Int) (src dst : ByteArray) (proto hops cls id flags off label : Int) (opt body : ByteArray) (w : World) (C D m : Nat) (hC : nat body 12 1 = C) (hD : C / 16 = D) (hm : C % 16 = m) (h : 20 ≤ body.size) (hb : body.size ≤ 65535) (hz1 : body.size < 4 * D) :
    Calls Try.prog 105 #[.agg #[.int .i64 v, .string src, .string dst, .int .i64 proto, .int .i64 hops, .int .i64 cls, .int .i64 id, .int .i64 flags, .int .i64 off, .int .i64 label, .string opt, .string body]] w (PanicsF w 80) := by
  have hbz : body.size ≤ maxLen := by unfold maxLen; omega
  have G : ∀ W, Calls Try.prog 115 #[.string body, .int .i64 12, .int .i64 1] W fun e w' => e = .returned (.int .i64 (nat body 12 1)) ∧ Below W.heap.size W w' := fun W => get8_any body 12 1 W hbz (by omega) (by omega) (by omega)
  have l12 := nat_lt body 12 1
  rw [hC] at G l12
  have HG := Lib.hid G
  clear G
  have t1 : (C : Int) / 2 ^ 4 = (D : Int) := by omega
  have t2 : (C : Int) / 16 = (D : Int) := by omega
  have t3 : bits .and .i64 (C : Int) 15 = (m : Int) := by rw [low4]; omega
  have t4 : D < 16 := by omega
  have t5 : m < 16 := by omega
  have Y80 := Lib.hid (req_yes 80)
  have d20 : decide ((20 : Int) ≤ body.size) = true := decide_eq_true (by omega)
  have HX := Lib.hid (req_no 80)
  have dn : decide (4 * (D : Int) ≤ body.size) = false := decide_eq_false (by omega)
  have hN := Two2.new w #[.int .i64 v, .string src, .string dst, .int .i64 proto, .int .i64 hops, .int .i64 cls, .int .i64 id, .int .i64 flags, .int .i64 off, .int .i64 label, .string opt, .string body] #[.int .i64 0, .int .i64 0, .int .u32 0, .int .u32 0, .int .i64 0, .int .i64 0, .int .i64 0, .string ⟨#[]⟩, .string ⟨#[]⟩, .bool false]
  go_enter Try.func105, Try.ntmps105
  go_wp2_with fail
  refine (Y80.out _).mono ?_
  rintro e w0 ⟨rfl, rfl⟩
  obtain ⟨⟨c0, c1, c2, c3, c4, c5, c6, c7, c8, c9, c10, c11⟩, ⟨g0, g1, g2, g3, g4, g5, g6, g7, g8, g9⟩⟩ := hN.cells
  go_wp2_with fail
  refine (HG.out _).mono ?_
  rintro e w1 ⟨rfl, hq⟩
  have h1 := hN.next hq
  clear hq hN
  clear c0 c1 c2 c3 c4 c5 c6 c7 c8 c9 c10 c11 g0 g1 g2 g3 g4 g5 g6 g7 g8 g9
  obtain ⟨⟨c0, c1, c2, c3, c4, c5, c6, c7, c8, c9, c10, c11⟩, ⟨g0, g1, g2, g3, g4, g5, g6, g7, g8, g9⟩⟩ := h1.cells
  go_wp2_with fail
  refine (HX.out _).mono ?_
  rintro e w' ⟨rfl, rfl⟩
  exact ⟨rfl, rfl, h1.below⟩
set_option maxRecDepth 100000 in
set_option maxHeartbeats 3200000 in
theorem tcp_form1 (v : Int) (src dst : ByteArray) (proto hops cls id flags off label : Int) (opt body : ByteArray) (w : World) (C D m : Nat) (hC : nat body 12 1 = C) (hD : C / 16 = D) (hm : C % 16 = m) (h : 20 ≤ body.size) (hb : body.size ≤ 65535) (hz1 : 4 * D ≤ body.size) (h2 : D < 5) :
    Calls Try.prog 105 #[.agg #[.int .i64 v, .string src, .string dst, .int .i64 proto, .int .i64 hops, .int .i64 cls, .int .i64 id, .int .i64 flags, .int .i64 off, .int .i64 label, .string opt, .string body]] w (PanicsF w 81) := by
  have hbz : body.size ≤ maxLen := by unfold maxLen; omega
  have G : ∀ W, Calls Try.prog 115 #[.string body, .int .i64 12, .int .i64 1] W fun e w' => e = .returned (.int .i64 (nat body 12 1)) ∧ Below W.heap.size W w' := fun W => get8_any body 12 1 W hbz (by omega) (by omega) (by omega)
  have l12 := nat_lt body 12 1
  rw [hC] at G l12
  have HG := Lib.hid G
  clear G
  have t1 : (C : Int) / 2 ^ 4 = (D : Int) := by omega
  have t2 : (C : Int) / 16 = (D : Int) := by omega
  have t3 : bits .and .i64 (C : Int) 15 = (m : Int) := by rw [low4]; omega
  have t4 : D < 16 := by omega
  have t5 : m < 16 := by omega
  have Y80 := Lib.hid (req_yes 80)
  have d20 : decide ((20 : Int) ≤ body.size) = true := decide_eq_true (by omega)
  have HX := Lib.hid (req_no 81)
  have dn : decide (4 * (D : Int) ≤ body.size) = true := decide_eq_true (by omega)
  have d5 : decide ((20 : Int) ≤ 4 * (D : Int)) = false := decide_eq_false (by omega)
  have hN := Two2.new w #[.int .i64 v, .string src, .string dst, .int .i64 proto, .int .i64 hops, .int .i64 cls, .int .i64 id, .int .i64 flags, .int .i64 off, .int .i64 label, .string opt, .string body] #[.int .i64 0, .int .i64 0, .int .u32 0, .int .u32 0, .int .i64 0, .int .i64 0, .int .i64 0, .string ⟨#[]⟩, .string ⟨#[]⟩, .bool false]
  go_enter Try.func105, Try.ntmps105
  go_wp2_with fail
  refine (Y80.out _).mono ?_
  rintro e w0 ⟨rfl, rfl⟩
  obtain ⟨⟨c0, c1, c2, c3, c4, c5, c6, c7, c8, c9, c10, c11⟩, ⟨g0, g1, g2, g3, g4, g5, g6, g7, g8, g9⟩⟩ := hN.cells
  go_wp2_with fail
  refine (HG.out _).mono ?_
  rintro e w1 ⟨rfl, hq⟩
  have h1 := hN.next hq
  clear hq hN
  clear c0 c1 c2 c3 c4 c5 c6 c7 c8 c9 c10 c11 g0 g1 g2 g3 g4 g5 g6 g7 g8 g9
  obtain ⟨⟨c0, c1, c2, c3, c4, c5, c6, c7, c8, c9, c10, c11⟩, ⟨g0, g1, g2, g3, g4, g5, g6, g7, g8, g9⟩⟩ := h1.cells
  go_wp2_with fail
  refine (Y80.out _).mono ?_
  rintro e w2 ⟨rfl, rfl⟩
  go_wp2_with fail
  refine (HX.out _).mono ?_
  rintro e w' ⟨rfl, rfl⟩
  exact ⟨rfl, rfl, h1.below⟩
set_option maxRecDepth 100000 in
set_option maxHeartbeats 3200000 in
theorem tcp_form2 (v : Int) (src dst : ByteArray) (proto hops cls id flags off label : Int) (opt body : ByteArray) (w : World) (C D m : Nat) (hC : nat body 12 1 = C) (hD : C / 16 = D) (hm : C % 16 = m) (h : 20 ≤ body.size) (hb : body.size ≤ 65535) (hz1 : 4 * D ≤ body.size) (h2 : 5 ≤ D) (h3 : m ≠ 0) :
    Calls Try.prog 105 #[.agg #[.int .i64 v, .string src, .string dst, .int .i64 proto, .int .i64 hops, .int .i64 cls, .int .i64 id, .int .i64 flags, .int .i64 off, .int .i64 label, .string opt, .string body]] w (PanicsF w 81) := by
  have hbz : body.size ≤ maxLen := by unfold maxLen; omega
  have G : ∀ W, Calls Try.prog 115 #[.string body, .int .i64 12, .int .i64 1] W fun e w' => e = .returned (.int .i64 (nat body 12 1)) ∧ Below W.heap.size W w' := fun W => get8_any body 12 1 W hbz (by omega) (by omega) (by omega)
  have l12 := nat_lt body 12 1
  rw [hC] at G l12
  have HG := Lib.hid G
  clear G
  have t1 : (C : Int) / 2 ^ 4 = (D : Int) := by omega
  have t2 : (C : Int) / 16 = (D : Int) := by omega
  have t3 : bits .and .i64 (C : Int) 15 = (m : Int) := by rw [low4]; omega
  have t4 : D < 16 := by omega
  have t5 : m < 16 := by omega
  have Y80 := Lib.hid (req_yes 80)
  have d20 : decide ((20 : Int) ≤ body.size) = true := decide_eq_true (by omega)
  have HX := Lib.hid (req_no 81)
  have dn : decide (4 * (D : Int) ≤ body.size) = true := decide_eq_true (by omega)
  have d5 : decide ((20 : Int) ≤ 4 * (D : Int)) = true := decide_eq_true (by omega)
  have e3 : ((m : Int) == 0) = false := by simpa using (by omega : (m : Int) ≠ 0)
  have hN := Two2.new w #[.int .i64 v, .string src, .string dst, .int .i64 proto, .int .i64 hops, .int .i64 cls, .int .i64 id, .int .i64 flags, .int .i64 off, .int .i64 label, .string opt, .string body] #[.int .i64 0, .int .i64 0, .int .u32 0, .int .u32 0, .int .i64 0, .int .i64 0, .int .i64 0, .string ⟨#[]⟩, .string ⟨#[]⟩, .bool false]
  go_enter Try.func105, Try.ntmps105
  go_wp2_with fail
  refine (Y80.out _).mono ?_
  rintro e w0 ⟨rfl, rfl⟩
  obtain ⟨⟨c0, c1, c2, c3, c4, c5, c6, c7, c8, c9, c10, c11⟩, ⟨g0, g1, g2, g3, g4, g5, g6, g7, g8, g9⟩⟩ := hN.cells
  go_wp2_with fail
  refine (HG.out _).mono ?_
  rintro e w1 ⟨rfl, hq⟩
  have h1 := hN.next hq
  clear hq hN
  clear c0 c1 c2 c3 c4 c5 c6 c7 c8 c9 c10 c11 g0 g1 g2 g3 g4 g5 g6 g7 g8 g9
  obtain ⟨⟨c0, c1, c2, c3, c4, c5, c6, c7, c8, c9, c10, c11⟩, ⟨g0, g1, g2, g3, g4, g5, g6, g7, g8, g9⟩⟩ := h1.cells
  go_wp2_with fail
  refine (Y80.out _).mono ?_
  rintro e w2 ⟨rfl, rfl⟩
  go_wp2_with fail
  refine (HX.out _).mono ?_
  rintro e w' ⟨rfl, rfl⟩
  exact ⟨rfl, rfl, h1.below⟩
set_option maxRecDepth 100000 in
set_option maxHeartbeats 3200000 in
theorem tcp_sum (v : Int) (src dst : ByteArray) (proto hops cls id flags off label : Int) (opt body : ByteArray) (w : World) (C D m : Nat) (hC : nat body 12 1 = C) (hD : C / 16 = D) (hm : C % 16 = m) (h : 20 ≤ body.size) (hb : body.size ≤ 65535) (hz1 : 4 * D ≤ body.size) (h2 : 5 ≤ D) (h3 : m = 0) (R : ByteArray) (AS : ∀ W, Calls Try.prog 46 #[.agg #[.int .i64 v, .string src, .string dst, .int .i64 proto, .int .i64 hops, .int .i64 cls, .int .i64 id, .int .i64 flags, .int .i64 off, .int .i64 label, .string opt, .string body], .string body] W fun e w' => e = .returned (.string R) ∧ Below W.heap.size W w') (hR : R ≠ body) :
    Calls Try.prog 105 #[.agg #[.int .i64 v, .string src, .string dst, .int .i64 proto, .int .i64 hops, .int .i64 cls, .int .i64 id, .int .i64 flags, .int .i64 off, .int .i64 label, .string opt, .string body]] w (PanicsF w 82) := by
  have hbz : body.size ≤ maxLen := by unfold maxLen; omega
  have G : ∀ W, Calls Try.prog 115 #[.string body, .int .i64 12, .int .i64 1] W fun e w' => e = .returned (.int .i64 (nat body 12 1)) ∧ Below W.heap.size W w' := fun W => get8_any body 12 1 W hbz (by omega) (by omega) (by omega)
  have l12 := nat_lt body 12 1
  rw [hC] at G l12
  have HG := Lib.hid G
  clear G
  have t1 : (C : Int) / 2 ^ 4 = (D : Int) := by omega
  have t2 : (C : Int) / 16 = (D : Int) := by omega
  have t3 : bits .and .i64 (C : Int) 15 = (m : Int) := by rw [low4]; omega
  have t4 : D < 16 := by omega
  have t5 : m < 16 := by omega
  have Y80 := Lib.hid (req_yes 80)
  have d20 : decide ((20 : Int) ≤ body.size) = true := decide_eq_true (by omega)
  have HX := Lib.hid (req_no 82)
  have dn : decide (4 * (D : Int) ≤ body.size) = true := decide_eq_true (by omega)
  have d5 : decide ((20 : Int) ≤ 4 * (D : Int)) = true := decide_eq_true (by omega)
  have Y81 := Lib.hid (req_yes 81)
  have HS := Lib.hid AS
  have hne := str_ne hR
  clear hR AS
  subst h3
  have hN := Two2.new w #[.int .i64 v, .string src, .string dst, .int .i64 proto, .int .i64 hops, .int .i64 cls, .int .i64 id, .int .i64 flags, .int .i64 off, .int .i64 label, .string opt, .string body] #[.int .i64 0, .int .i64 0, .int .u32 0, .int .u32 0, .int .i64 0, .int .i64 0, .int .i64 0, .string ⟨#[]⟩, .string ⟨#[]⟩, .bool false]
  go_enter Try.func105, Try.ntmps105
  go_wp2_with fail
  refine (Y80.out _).mono ?_
  rintro e w0 ⟨rfl, rfl⟩
  obtain ⟨⟨c0, c1, c2, c3, c4, c5, c6, c7, c8, c9, c10, c11⟩, ⟨g0, g1, g2, g3, g4, g5, g6, g7, g8, g9⟩⟩ := hN.cells
  go_wp2_with fail
  refine (HG.out _).mono ?_
  rintro e w1 ⟨rfl, hq⟩
  have h1 := hN.next hq
  clear hq hN
  clear c0 c1 c2 c3 c4 c5 c6 c7 c8 c9 c10 c11 g0 g1 g2 g3 g4 g5 g6 g7 g8 g9
  obtain ⟨⟨c0, c1, c2, c3, c4, c5, c6, c7, c8, c9, c10, c11⟩, ⟨g0, g1, g2, g3, g4, g5, g6, g7, g8, g9⟩⟩ := h1.cells
  go_wp2_with fail
  refine (Y80.out _).mono ?_
  rintro e w2 ⟨rfl, rfl⟩
  go_wp2_with fail
  refine (Y81.out _).mono ?_
  rintro e w3 ⟨rfl, rfl⟩
  go_wp2_with fail
  refine (HS.out _).mono ?_
  rintro e w4 ⟨rfl, hq⟩
  have h4 := h1.next hq
  clear hq h1
  clear c0 c1 c2 c3 c4 c5 c6 c7 c8 c9 c10 c11 g0 g1 g2 g3 g4 g5 g6 g7 g8 g9
  obtain ⟨⟨c0, c1, c2, c3, c4, c5, c6, c7, c8, c9, c10, c11⟩, ⟨g0, g1, g2, g3, g4, g5, g6, g7, g8, g9⟩⟩ := h4.cells
  go_wp2_with fail
  refine (HX.out _).mono ?_
  rintro e w' ⟨rfl, rfl⟩
  exact ⟨rfl, rfl, h4.below⟩
end Go.Proofs.Ytalkpllmcigjnaa
namespace Go.Proofs.Ytalkpllmcigjnaa
open Go.RowKit

set_option maxRecDepth 100000 in
set_option maxHeartbeats 3200000 in
theorem tcp_good (v : Int) (src dst : ByteArray) (proto hops cls id flags off label : Int) (opt body : ByteArray) (w : World) (C D m : Nat) (hC : nat body 12 1 = C) (hD : C / 16 = D) (hm : C % 16 = m) (h : 20 ≤ body.size) (hb : body.size ≤ 65535) (hz1 : 4 * D ≤ body.size) (h2 : 5 ≤ D) (h3 : m = 0) (AS : ∀ W, Calls Try.prog 46 #[.agg #[.int .i64 v, .string src, .string dst, .int .i64 proto, .int .i64 hops, .int .i64 cls, .int .i64 id, .int .i64 flags, .int .i64 off, .int .i64 label, .string opt, .string body], .string body] W fun e w' => e = .returned (.string body) ∧ Below W.heap.size W w') :
    Calls Try.prog 105 #[.agg #[.int .i64 v, .string src, .string dst, .int .i64 proto, .int .i64 hops, .int .i64 cls, .int .i64 id, .int .i64 flags, .int .i64 off, .int .i64 label, .string opt, .string body]] w (fun e w' => e = .returned (.agg #[.int .i64 (nat body 0 2), .int .i64 (nat body 2 2), .int .u32 (nat body 4 4), .int .u32 (nat body 8 4), .int .i64 (nat body 13 1), .int .i64 (nat body 14 2), .int .i64 (nat body 18 2), .string (body.extract 20 (4 * D)), .string (body.extract (4 * D) body.size), .bool false]) ∧ Below w.heap.size w w') := by
  have hbz : body.size ≤ maxLen := by unfold maxLen; omega
  have G : ∀ W, Calls Try.prog 115 #[.string body, .int .i64 12, .int .i64 1] W fun e w' => e = .returned (.int .i64 (nat body 12 1)) ∧ Below W.heap.size W w' := fun W => get8_any body 12 1 W hbz (by omega) (by omega) (by omega)
  have l12 := nat_lt body 12 1
  rw [hC] at G l12
  have HG := Lib.hid G
  clear G
  have t1 : (C : Int) / 2 ^ 4 = (D : Int) := by omega
  have t2 : (C : Int) / 16 = (D : Int) := by omega
  have t3 : bits .and .i64 (C : Int) 15 = (m : Int) := by rw [low4]; omega
  have t4 : D < 16 := by omega
  have t5 : m < 16 := by omega
  have Y80 := Lib.hid (req_yes 80)
  have d20 : decide ((20 : Int) ≤ body.size) = true := decide_eq_true (by omega)
  have dn : decide (4 * (D : Int) ≤ body.size) = true := decide_eq_true (by omega)
  have d5 : decide ((20 : Int) ≤ 4 * (D : Int)) = true := decide_eq_true (by omega)
  have Y81 := Lib.hid (req_yes 81)
  have Y82 := Lib.hid (req_yes 82)
  have HS := Lib.hid AS
  clear AS
  subst h3
  have AX0 : ∀ W, Calls Try.prog 115 #[.string body, .int .i64 0, .int .i64 2] W fun e w' => e = .returned (.int .i64 (nat body 0 2)) ∧ Below W.heap.size W w' := fun W => get8_any body 0 2 W hbz (by omega) (by omega) (by omega)
  have LX0 := nat_lt body 0 2
  generalize nat body 0 2 = X0 at *
  have HX0 := Lib.hid AX0
  have AX2 : ∀ W, Calls Try.prog 115 #[.string body, .int .i64 2, .int .i64 2] W fun e w' => e = .returned (.int .i64 (nat body 2 2)) ∧ Below W.heap.size W w' := fun W => get8_any body 2 2 W hbz (by omega) (by omega) (by omega)
  have LX2 := nat_lt body 2 2
  generalize nat body 2 2 = X2 at *
  have HX2 := Lib.hid AX2
  have AX4 : ∀ W, Calls Try.prog 115 #[.string body, .int .i64 4, .int .i64 4] W fun e w' => e = .returned (.int .i64 (nat body 4 4)) ∧ Below W.heap.size W w' := fun W => get8_any body 4 4 W hbz (by omega) (by omega) (by omega)
  have LX4 := nat_lt body 4 4
  generalize nat body 4 4 = X4 at *
  have HX4 := Lib.hid AX4
  have AX8 : ∀ W, Calls Try.prog 115 #[.string body, .int .i64 8, .int .i64 4] W fun e w' => e = .returned (.int .i64 (nat body 8 4)) ∧ Below W.heap.size W w' := fun W => get8_any body 8 4 W hbz (by omega) (by omega) (by omega)
  have LX8 := nat_lt body 8 4
  generalize nat body 8 4 = X8 at *
  have HX8 := Lib.hid AX8
  have AX13 : ∀ W, Calls Try.prog 115 #[.string body, .int .i64 13, .int .i64 1] W fun e w' => e = .returned (.int .i64 (nat body 13 1)) ∧ Below W.heap.size W w' := fun W => get8_any body 13 1 W hbz (by omega) (by omega) (by omega)
  have LX13 := nat_lt body 13 1
  generalize nat body 13 1 = X13 at *
  have HX13 := Lib.hid AX13
  have AX14 : ∀ W, Calls Try.prog 115 #[.string body, .int .i64 14, .int .i64 2] W fun e w' => e = .returned (.int .i64 (nat body 14 2)) ∧ Below W.heap.size W w' := fun W => get8_any body 14 2 W hbz (by omega) (by omega) (by omega)
  have LX14 := nat_lt body 14 2
  generalize nat body 14 2 = X14 at *
  have HX14 := Lib.hid AX14
  have AX18 : ∀ W, Calls Try.prog 115 #[.string body, .int .i64 18, .int .i64 2] W fun e w' => e = .returned (.int .i64 (nat body 18 2)) ∧ Below W.heap.size W w' := fun W => get8_any body 18 2 W hbz (by omega) (by omega) (by omega)
  have LX18 := nat_lt body 18 2
  generalize nat body 18 2 = X18 at *
  have HX18 := Lib.hid AX18
  clear AX0 AX2 AX4 AX8 AX13 AX14 AX18
  obtain ⟨n, hn, eN, eI⟩ : ∃ n : Nat, (20 ≤ n ∧ n ≤ 60 ∧ n ≤ body.size) ∧ 4 * D = n ∧ 4 * (D : Int) = (n : Int) := ⟨4 * D, by omega, rfl, by omega⟩
  rw [eN]
  rw [eI] at dn d5
  have q1 : (20 : Int) ≤ (n : Int) := by omega
  have q2 : (n : Int) ≤ body.size := by omega
  have q3 : ¬ (n : Int) < 20 := by omega
  have q4 : ¬ (body.size : Int) < (n : Int) := by omega
  have q5 : 20 ≤ n := by omega
  have q6 : n ≤ body.size := by omega
  have q7 : 20 ≤ body.size := by omega
  have q8 : ¬ (body.size : Int) < 20 := by omega
  have u4 : IntKind.u32.wrap (X4 : Int) = (X4 : Int) := IntKind.wrap_u32 _ |>.trans (by omega)
  have u8 : IntKind.u32.wrap (X8 : Int) = (X8 : Int) := IntKind.wrap_u32 _ |>.trans (by omega)
  have hN := Two2.new w #[.int .i64 v, .string src, .string dst, .int .i64 proto, .int .i64 hops, .int .i64 cls, .int .i64 id, .int .i64 flags, .int .i64 off, .int .i64 label, .string opt, .string body] #[.int .i64 0, .int .i64 0, .int .u32 0, .int .u32 0, .int .i64 0, .int .i64 0, .int .i64 0, .string ⟨#[]⟩, .string ⟨#[]⟩, .bool false]
  go_enter Try.func105, Try.ntmps105
  go_wp2_with fail
  refine (Y80.out _).mono ?_
  rintro e w0 ⟨rfl, rfl⟩
  obtain ⟨⟨c0, c1, c2, c3, c4, c5, c6, c7, c8, c9, c10, c11⟩, ⟨g0, g1, g2, g3, g4, g5, g6, g7, g8, g9⟩⟩ := hN.cells
  go_wp2_with fail
  refine (HG.out _).mono ?_
  rintro e w1 ⟨rfl, hq⟩
  have h1 := hN.next hq
  clear hq hN
  clear c0 c1 c2 c3 c4 c5 c6 c7 c8 c9 c10 c11 g0 g1 g2 g3 g4 g5 g6 g7 g8 g9
  obtain ⟨⟨c0, c1, c2, c3, c4, c5, c6, c7, c8, c9, c10, c11⟩, ⟨g0, g1, g2, g3, g4, g5, g6, g7, g8, g9⟩⟩ := h1.cells
  go_wp2_with fail
  refine (Y80.out _).mono ?_
  rintro e w2 ⟨rfl, rfl⟩
  go_wp2_with fail
  refine (Y81.out _).mono ?_
  rintro e w3 ⟨rfl, rfl⟩
  go_wp2_with fail
  refine (HS.out _).mono ?_
  rintro e w4 ⟨rfl, hq⟩
  have h4 := h1.next hq
  clear hq h1
  clear c0 c1 c2 c3 c4 c5 c6 c7 c8 c9 c10 c11 g0 g1 g2 g3 g4 g5 g6 g7 g8 g9
  obtain ⟨⟨c0, c1, c2, c3, c4, c5, c6, c7, c8, c9, c10, c11⟩, ⟨g0, g1, g2, g3, g4, g5, g6, g7, g8, g9⟩⟩ := h4.cells
  go_wp2_with fail
  refine (Y82.out _).mono ?_
  rintro e w5 ⟨rfl, rfl⟩
  go_wp2_with fail
  have hF : SF w (w.heap.size + 1) w4 := ⟨⟨_, _, _, _, _, _, _, _, _, _, h4.g⟩, h4.below, by omega⟩
  have c0' := sf_here hF
  clear c0 c1 c2 c3 c4 c5 c6 c7 c8 c9 c10 c11 g0 g1 g2 g3 g4 g5 g6 g7 g8 g9
  go_region_held3 (fun w' => (w'.cell? ⟨w.heap.size + 1, 0, none⟩ = some (cellF w' (w.heap.size + 1) 0) ∧ w'.cell? ⟨w.heap.size + 1, 1, none⟩ = some (cellF w' (w.heap.size + 1) 1) ∧ w'.cell? ⟨w.heap.size + 1, 2, none⟩ = some (cellF w' (w.heap.size + 1) 2) ∧ w'.cell? ⟨w.heap.size + 1, 3, none⟩ = some (cellF w' (w.heap.size + 1) 3) ∧ w'.cell? ⟨w.heap.size + 1, 4, none⟩ = some (cellF w' (w.heap.size + 1) 4) ∧ w'.cell? ⟨w.heap.size + 1, 5, none⟩ = some (cellF w' (w.heap.size + 1) 5) ∧ w'.cell? ⟨w.heap.size + 1, 6, none⟩ = some (cellF w' (w.heap.size + 1) 6) ∧ w'.cell? ⟨w.heap.size + 1, 7, none⟩ = some (cellF w' (w.heap.size + 1) 7) ∧ w'.cell? ⟨w.heap.size + 1, 8, none⟩ = some (cellF w' (w.heap.size + 1) 8) ∧ w'.cell? ⟨w.heap.size + 1, 9, none⟩ = some (cellF w' (w.heap.size + 1) 9) ∧ (∀ i, w'.frozen? ⟨w.heap.size + 1, i, none⟩ = false)) ∧ SF w (w.heap.size + 1) w')
    (first | (with_reducible exact sf_store (by assumption) _ _ _ _ _ _ _ _ _ _) | (with_reducible exact c0') | (with_reducible exact sf_next (by assumption) hq))
    (first | (go_at_call 115; (first | (with_reducible refine (HX0.out _).mono ?_) | (with_reducible refine (HX2.out _).mono ?_) | (with_reducible refine (HX4.out _).mono ?_) | (with_reducible refine (HX8.out _).mono ?_) | (with_reducible refine (HX13.out _).mono ?_) | (with_reducible refine (HX14.out _).mono ?_) | (with_reducible refine (HX18.out _).mono ?_)); rintro e w' ⟨rfl, hq⟩))
  all_goals
    rename_i v1 i1 v2 i2 v3 i3 v4 i4 v5 i5 v6 i6 hH
    have hS := (((((((hF.drew.on i1).on i2).on i3).on i4).on i5).on i6).on hq)
    clear hH i1 i2 i3 i4 i5 i6 hq c0' hF
    obtain ⟨⟨y0, y1, y2, y3, y4, y5, y6, y7, y8, y9, hb9⟩, hB, _⟩ := hS
    have hZ := set10 hb9 (.int .i64 X0) (.int .i64 X2) (.int .u32 X4) (.int .u32 X8) (.int .i64 X13) (.int .i64 X14) (.int .i64 X18) (.string (body.extract 20 n)) (.string (body.extract n body.size)) (.bool false)
    have hZB := below10 hB (by omega : w.heap.size ≤ w.heap.size + 1) (.int .i64 X0) (.int .i64 X2) (.int .u32 X4) (.int .u32 X8) (.int .i64 X13) (.int .i64 X14) (.int .i64 X18) (.string (body.extract 20 n)) (.string (body.extract n body.size)) (.bool false)
    clear hb9 hB
    go_wp2_with fail
    exact bodyPost_ret (v := .agg #[.int .i64 X0, .int .i64 X2, .int .u32 X4, .int .u32 X8, .int .i64 X13, .int .i64 X14, .int .i64 X18, .string (body.extract 20 n), .string (body.extract n body.size), .bool false]) (seg105_results _ _ (w.heap.size + 1) rfl hZ) rfl ⟨rfl, hZB⟩
end Go.Proofs.Ytalkpllmcigjnaa
namespace Go.Proofs.Ytalkpllmcigjnaa
open Go.RowKit

set_option maxRecDepth 100000 in
set_option maxHeartbeats 3200000 in
theorem udp_few (v : Int) (src dst : ByteArray) (proto hops cls id flags off label : Int) (opt body : ByteArray) (w : World) (h : body.size < 8) :
    Calls Try.prog 106 #[.agg #[.int .i64 v, .string src, .string dst, .int .i64 proto, .int .i64 hops, .int .i64 cls, .int .i64 id, .int .i64 flags, .int .i64 off, .int .i64 label, .string opt, .string body]] w (PanicsF w 80) := by
  have HX := Lib.hid (req_no 80)
  have d8 : decide ((8 : Int) ≤ body.size) = false := decide_eq_false (by omega)
  have hN := Two2.new w #[.int .i64 v, .string src, .string dst, .int .i64 proto, .int .i64 hops, .int .i64 cls, .int .i64 id, .int .i64 flags, .int .i64 off, .int .i64 label, .string opt, .string body] #[.int .i64 0, .int .i64 0, .int .u32 0, .int .u32 0, .int .i64 0, .int .i64 0, .int .i64 0, .string ⟨#[]⟩, .string ⟨#[]⟩, .bool false]
  go_enter Try.func106, Try.ntmps106
  go_wp2_with fail
  refine (HX.out _).mono ?_
  rintro e w' ⟨rfl, rfl⟩
  exact ⟨rfl, rfl, hN.below⟩
set_option maxRecDepth 100000 in
set_option maxHeartbeats 3200000 in
theorem udp_form_4 (src dst : ByteArray) (proto hops cls id flags off label : Int) (opt body : ByteArray) (w : World) (X4 X6 : Nat) (hX4 : nat body 4 2 = X4) (hX6 : nat body 6 2 = X6) (h : 8 ≤ body.size) (hb : body.size ≤ 65535) (h4 : X4 ≠ body.size) :
    Calls Try.prog 106 #[.agg #[.int .i64 4, .string src, .string dst, .int .i64 proto, .int .i64 hops, .int .i64 cls, .int .i64 id, .int .i64 flags, .int .i64 off, .int .i64 label, .string opt, .string body]] w (PanicsF w 81) := by
  have hbz : body.size ≤ maxLen := by unfold maxLen; omega
  have G : ∀ W, Calls Try.prog 115 #[.string body, .int .i64 4, .int .i64 2] W fun e w' => e = .returned (.int .i64 (nat body 4 2)) ∧ Below W.heap.size W w' := fun W => get8_any body 4 2 W hbz (by omega) (by omega) (by omega)
  have G6 : ∀ W, Calls Try.prog 115 #[.string body, .int .i64 6, .int .i64 2] W fun e w' => e = .returned (.int .i64 (nat body 6 2)) ∧ Below W.heap.size W w' := fun W => get8_any body 6 2 W hbz (by omega) (by omega) (by omega)
  rw [hX4] at G
  rw [hX6] at G6
  have HG := Lib.hid G
  have HG6 := Lib.hid G6
  clear G G6
  have Y80 := Lib.hid (req_yes 80)
  have d8 : decide ((8 : Int) ≤ body.size) = true := decide_eq_true (by omega)
  have hN := Two2.new w #[.int .i64 4, .string src, .string dst, .int .i64 proto, .int .i64 hops, .int .i64 cls, .int .i64 id, .int .i64 flags, .int .i64 off, .int .i64 label, .string opt, .string body] #[.int .i64 0, .int .i64 0, .int .u32 0, .int .u32 0, .int .i64 0, .int .i64 0, .int .i64 0, .string ⟨#[]⟩, .string ⟨#[]⟩, .bool false]
  have HX := Lib.hid (req_no 81)
  have e4 : ((X4 : Int) == (body.size : Int)) = false := by simpa using (by omega : (X4 : Int) ≠ body.size)
  go_enter Try.func106, Try.ntmps106
  go_wp2_with fail
  refine (Y80.out _).mono ?_
  rintro e w0 ⟨rfl, rfl⟩
  obtain ⟨⟨c0, c1, c2, c3, c4, c5, c6, c7, c8, c9, c10, c11⟩, ⟨g0, g1, g2, g3, g4, g5, g6, g7, g8, g9⟩⟩ := hN.cells
  go_wp2_with fail
  refine (HG.out _).mono ?_
  rintro e w1 ⟨rfl, hq⟩
  have h1 := hN.next hq
  clear hq hN
  clear c0 c1 c2 c3 c4 c5 c6 c7 c8 c9 c10 c11 g0 g1 g2 g3 g4 g5 g6 g7 g8 g9
  obtain ⟨⟨c0, c1, c2, c3, c4, c5, c6, c7, c8, c9, c10, c11⟩, ⟨g0, g1, g2, g3, g4, g5, g6, g7, g8, g9⟩⟩ := h1.cells
  go_wp2_with fail
  refine (HX.out _).mono ?_
  rintro e w' ⟨rfl, rfl⟩
  exact ⟨rfl, rfl, h1.below⟩
set_option maxRecDepth 100000 in
set_option maxHeartbeats 3200000 in
theorem udp_form_n (v : Int) (src dst : ByteArray) (proto hops cls id flags off label : Int) (opt body : ByteArray) (w : World) (X4 X6 : Nat) (hX4 : nat body 4 2 = X4) (hX6 : nat body 6 2 = X6) (h : 8 ≤ body.size) (hb : body.size ≤ 65535) (hv : (v == 4) = false) (h4 : X4 ≠ body.size) :
    Calls Try.prog 106 #[.agg #[.int .i64 v, .string src, .string dst, .int .i64 proto, .int .i64 hops, .int .i64 cls, .int .i64 id, .int .i64 flags, .int .i64 off, .int .i64 label, .string opt, .string body]] w (PanicsF w 81) := by
  have hbz : body.size ≤ maxLen := by unfold maxLen; omega
  have G : ∀ W, Calls Try.prog 115 #[.string body, .int .i64 4, .int .i64 2] W fun e w' => e = .returned (.int .i64 (nat body 4 2)) ∧ Below W.heap.size W w' := fun W => get8_any body 4 2 W hbz (by omega) (by omega) (by omega)
  have G6 : ∀ W, Calls Try.prog 115 #[.string body, .int .i64 6, .int .i64 2] W fun e w' => e = .returned (.int .i64 (nat body 6 2)) ∧ Below W.heap.size W w' := fun W => get8_any body 6 2 W hbz (by omega) (by omega) (by omega)
  rw [hX4] at G
  rw [hX6] at G6
  have HG := Lib.hid G
  have HG6 := Lib.hid G6
  clear G G6
  have Y80 := Lib.hid (req_yes 80)
  have d8 : decide ((8 : Int) ≤ body.size) = true := decide_eq_true (by omega)
  have _ := hv
  have hN := Two2.new w #[.int .i64 v, .string src, .string dst, .int .i64 proto, .int .i64 hops, .int .i64 cls, .int .i64 id, .int .i64 flags, .int .i64 off, .int .i64 label, .string opt, .string body] #[.int .i64 0, .int .i64 0, .int .u32 0, .int .u32 0, .int .i64 0, .int .i64 0, .int .i64 0, .string ⟨#[]⟩, .string ⟨#[]⟩, .bool false]
  have HX := Lib.hid (req_no 81)
  have e4 : ((X4 : Int) == (body.size : Int)) = false := by simpa using (by omega : (X4 : Int) ≠ body.size)
  go_enter Try.func106, Try.ntmps106
  go_wp2_with fail
  refine (Y80.out _).mono ?_
  rintro e w0 ⟨rfl, rfl⟩
  obtain ⟨⟨c0, c1, c2, c3, c4, c5, c6, c7, c8, c9, c10, c11⟩, ⟨g0, g1, g2, g3, g4, g5, g6, g7, g8, g9⟩⟩ := hN.cells
  go_wp2_with fail
  refine (HG.out _).mono ?_
  rintro e w1 ⟨rfl, hq⟩
  have h1 := hN.next hq
  clear hq hN
  clear c0 c1 c2 c3 c4 c5 c6 c7 c8 c9 c10 c11 g0 g1 g2 g3 g4 g5 g6 g7 g8 g9
  obtain ⟨⟨c0, c1, c2, c3, c4, c5, c6, c7, c8, c9, c10, c11⟩, ⟨g0, g1, g2, g3, g4, g5, g6, g7, g8, g9⟩⟩ := h1.cells
  go_wp2_with fail
  refine (HX.out _).mono ?_
  rintro e w' ⟨rfl, rfl⟩
  exact ⟨rfl, rfl, h1.below⟩
set_option maxRecDepth 100000 in
set_option maxHeartbeats 3200000 in
theorem udp_sum_4 (src dst : ByteArray) (proto hops cls id flags off label : Int) (opt body : ByteArray) (w : World) (X4 X6 : Nat) (hX4 : nat body 4 2 = X4) (hX6 : nat body 6 2 = X6) (h : 8 ≤ body.size) (hb : body.size ≤ 65535) (h4 : X4 = body.size) (h6 : X6 ≠ 0) (R : ByteArray) (AS : ∀ W, Calls Try.prog 46 #[.agg #[.int .i64 4, .string src, .string dst, .int .i64 proto, .int .i64 hops, .int .i64 cls, .int .i64 id, .int .i64 flags, .int .i64 off, .int .i64 label, .string opt, .string body], .string body] W fun e w' => e = .returned (.string R) ∧ Below W.heap.size W w') (hR : R ≠ body) :
    Calls Try.prog 106 #[.agg #[.int .i64 4, .string src, .string dst, .int .i64 proto, .int .i64 hops, .int .i64 cls, .int .i64 id, .int .i64 flags, .int .i64 off, .int .i64 label, .string opt, .string body]] w (PanicsF w 82) := by
  have hbz : body.size ≤ maxLen := by unfold maxLen; omega
  have G : ∀ W, Calls Try.prog 115 #[.string body, .int .i64 4, .int .i64 2] W fun e w' => e = .returned (.int .i64 (nat body 4 2)) ∧ Below W.heap.size W w' := fun W => get8_any body 4 2 W hbz (by omega) (by omega) (by omega)
  have G6 : ∀ W, Calls Try.prog 115 #[.string body, .int .i64 6, .int .i64 2] W fun e w' => e = .returned (.int .i64 (nat body 6 2)) ∧ Below W.heap.size W w' := fun W => get8_any body 6 2 W hbz (by omega) (by omega) (by omega)
  rw [hX4] at G
  rw [hX6] at G6
  have HG := Lib.hid G
  have HG6 := Lib.hid G6
  clear G G6
  have Y80 := Lib.hid (req_yes 80)
  have d8 : decide ((8 : Int) ≤ body.size) = true := decide_eq_true (by omega)
  have hN := Two2.new w #[.int .i64 4, .string src, .string dst, .int .i64 proto, .int .i64 hops, .int .i64 cls, .int .i64 id, .int .i64 flags, .int .i64 off, .int .i64 label, .string opt, .string body] #[.int .i64 0, .int .i64 0, .int .u32 0, .int .u32 0, .int .i64 0, .int .i64 0, .int .i64 0, .string ⟨#[]⟩, .string ⟨#[]⟩, .bool false]
  have e4 : ((X4 : Int) == (body.size : Int)) = true := by rw [h4]; simp
  have Y81 := Lib.hid (req_yes 81)
  have e6 : ((X6 : Int) == 0) = false := by simpa using (by omega : (X6 : Int) ≠ 0)
  have HX := Lib.hid (req_no 82)
  have HS := Lib.hid AS
  have hne := str_ne hR
  clear hR AS
  go_enter Try.func106, Try.ntmps106
  go_wp2_with fail
  refine (Y80.out _).mono ?_
  rintro e w0 ⟨rfl, rfl⟩
  obtain ⟨⟨c0, c1, c2, c3, c4, c5, c6, c7, c8, c9, c10, c11⟩, ⟨g0, g1, g2, g3, g4, g5, g6, g7, g8, g9⟩⟩ := hN.cells
  go_wp2_with fail
  refine (HG.out _).mono ?_
  rintro e w1 ⟨rfl, hq⟩
  have h1 := hN.next hq
  clear hq hN
  clear c0 c1 c2 c3 c4 c5 c6 c7 c8 c9 c10 c11 g0 g1 g2 g3 g4 g5 g6 g7 g8 g9
  obtain ⟨⟨c0, c1, c2, c3, c4, c5, c6, c7, c8, c9, c10, c11⟩, ⟨g0, g1, g2, g3, g4, g5, g6, g7, g8, g9⟩⟩ := h1.cells
  go_wp2_with fail
  refine (Y81.out _).mono ?_
  rintro e w2 ⟨rfl, rfl⟩
  go_wp2_with fail
  refine (HG6.out _).mono ?_
  rintro e w3 ⟨rfl, hq⟩
  have h3 := h1.next hq
  clear hq h1
  clear c0 c1 c2 c3 c4 c5 c6 c7 c8 c9 c10 c11 g0 g1 g2 g3 g4 g5 g6 g7 g8 g9
  obtain ⟨⟨c0, c1, c2, c3, c4, c5, c6, c7, c8, c9, c10, c11⟩, ⟨g0, g1, g2, g3, g4, g5, g6, g7, g8, g9⟩⟩ := h3.cells
  go_wp2_with fail
  refine (HS.out _).mono ?_
  rintro e w4 ⟨rfl, hq⟩
  have h4' := h3.next hq
  clear hq h3
  clear c0 c1 c2 c3 c4 c5 c6 c7 c8 c9 c10 c11 g0 g1 g2 g3 g4 g5 g6 g7 g8 g9
  obtain ⟨⟨c0, c1, c2, c3, c4, c5, c6, c7, c8, c9, c10, c11⟩, ⟨g0, g1, g2, g3, g4, g5, g6, g7, g8, g9⟩⟩ := h4'.cells
  go_wp2_with fail
  refine (HX.out _).mono ?_
  rintro e w' ⟨rfl, rfl⟩
  exact ⟨rfl, rfl, h4'.below⟩
set_option maxRecDepth 100000 in
set_option maxHeartbeats 3200000 in
theorem udp_good_4 (src dst : ByteArray) (proto hops cls id flags off label : Int) (opt body : ByteArray) (w : World) (X4 X6 : Nat) (hX4 : nat body 4 2 = X4) (hX6 : nat body 6 2 = X6) (h : 8 ≤ body.size) (hb : body.size ≤ 65535) (h4 : X4 = body.size) (h6 : X6 ≠ 0) (AS : ∀ W, Calls Try.prog 46 #[.agg #[.int .i64 4, .string src, .string dst, .int .i64 proto, .int .i64 hops, .int .i64 cls, .int .i64 id, .int .i64 flags, .int .i64 off, .int .i64 label, .string opt, .string body], .string body] W fun e w' => e = .returned (.string body) ∧ Below W.heap.size W w') :
    Calls Try.prog 106 #[.agg #[.int .i64 4, .string src, .string dst, .int .i64 proto, .int .i64 hops, .int .i64 cls, .int .i64 id, .int .i64 flags, .int .i64 off, .int .i64 label, .string opt, .string body]] w (fun e w' => e = .returned (.agg #[.int .i64 (nat body 0 2), .int .i64 (nat body 2 2), .int .u32 0, .int .u32 0, .int .i64 0, .int .i64 0, .int .i64 0, .string ⟨#[]⟩, .string (body.extract 8 body.size), .bool false]) ∧ Below w.heap.size w w') := by
  have hbz : body.size ≤ maxLen := by unfold maxLen; omega
  have G : ∀ W, Calls Try.prog 115 #[.string body, .int .i64 4, .int .i64 2] W fun e w' => e = .returned (.int .i64 (nat body 4 2)) ∧ Below W.heap.size W w' := fun W => get8_any body 4 2 W hbz (by omega) (by omega) (by omega)
  have G6 : ∀ W, Calls Try.prog 115 #[.string body, .int .i64 6, .int .i64 2] W fun e w' => e = .returned (.int .i64 (nat body 6 2)) ∧ Below W.heap.size W w' := fun W => get8_any body 6 2 W hbz (by omega) (by omega) (by omega)
  rw [hX4] at G
  rw [hX6] at G6
  have HG := Lib.hid G
  have HG6 := Lib.hid G6
  clear G G6
  have Y80 := Lib.hid (req_yes 80)
  have d8 : decide ((8 : Int) ≤ body.size) = true := decide_eq_true (by omega)
  have hN := Two2.new w #[.int .i64 4, .string src, .string dst, .int .i64 proto, .int .i64 hops, .int .i64 cls, .int .i64 id, .int .i64 flags, .int .i64 off, .int .i64 label, .string opt, .string body] #[.int .i64 0, .int .i64 0, .int .u32 0, .int .u32 0, .int .i64 0, .int .i64 0, .int .i64 0, .string ⟨#[]⟩, .string ⟨#[]⟩, .bool false]
  have e4 : ((X4 : Int) == (body.size : Int)) = true := by rw [h4]; simp
  have Y81 := Lib.hid (req_yes 81)
  have e6 : ((X6 : Int) == 0) = false := by simpa using (by omega : (X6 : Int) ≠ 0)
  have HS := Lib.hid AS
  clear AS
  have AX0 : ∀ W, Calls Try.prog 115 #[.string body, .int .i64 0, .int .i64 2] W fun e w' => e = .returned (.int .i64 (nat body 0 2)) ∧ Below W.heap.size W w' := fun W => get8_any body 0 2 W hbz (by omega) (by omega) (by omega)
  have AX2 : ∀ W, Calls Try.prog 115 #[.string body, .int .i64 2, .int .i64 2] W fun e w' => e = .returned (.int .i64 (nat body 2 2)) ∧ Below W.heap.size W w' := fun W => get8_any body 2 2 W hbz (by omega) (by omega) (by omega)
  generalize nat body 0 2 = X0 at *
  generalize nat body 2 2 = X2 at *
  have HX0 := Lib.hid AX0
  have HX2 := Lib.hid AX2
  clear AX0 AX2
  have Y82 := Lib.hid (req_yes 82)
  have q1 : (8 : Int) ≤ body.size := by omega
  have q2 : ¬ (body.size : Int) < 8 := by omega
  go_enter Try.func106, Try.ntmps106
  go_wp2_with fail
  refine (Y80.out _).mono ?_
  rintro e w0 ⟨rfl, rfl⟩
  obtain ⟨⟨c0, c1, c2, c3, c4, c5, c6, c7, c8, c9, c10, c11⟩, ⟨g0, g1, g2, g3, g4, g5, g6, g7, g8, g9⟩⟩ := hN.cells
  go_wp2_with fail
  refine (HG.out _).mono ?_
  rintro e w1 ⟨rfl, hq⟩
  have h1 := hN.next hq
  clear hq hN
  clear c0 c1 c2 c3 c4 c5 c6 c7 c8 c9 c10 c11 g0 g1 g2 g3 g4 g5 g6 g7 g8 g9
  obtain ⟨⟨c0, c1, c2, c3, c4, c5, c6, c7, c8, c9, c10, c11⟩, ⟨g0, g1, g2, g3, g4, g5, g6, g7, g8, g9⟩⟩ := h1.cells
  go_wp2_with fail
  refine (Y81.out _).mono ?_
  rintro e w2 ⟨rfl, rfl⟩
  go_wp2_with fail
  refine (HG6.out _).mono ?_
  rintro e w3 ⟨rfl, hq⟩
  have h3 := h1.next hq
  clear hq h1
  clear c0 c1 c2 c3 c4 c5 c6 c7 c8 c9 c10 c11 g0 g1 g2 g3 g4 g5 g6 g7 g8 g9
  obtain ⟨⟨c0, c1, c2, c3, c4, c5, c6, c7, c8, c9, c10, c11⟩, ⟨g0, g1, g2, g3, g4, g5, g6, g7, g8, g9⟩⟩ := h3.cells
  go_wp2_with fail
  refine (HS.out _).mono ?_
  rintro e w4 ⟨rfl, hq⟩
  have h4' := h3.next hq
  clear hq h3
  clear c0 c1 c2 c3 c4 c5 c6 c7 c8 c9 c10 c11 g0 g1 g2 g3 g4 g5 g6 g7 g8 g9
  obtain ⟨⟨c0, c1, c2, c3, c4, c5, c6, c7, c8, c9, c10, c11⟩, ⟨g0, g1, g2, g3, g4, g5, g6, g7, g8, g9⟩⟩ := h4'.cells
  go_wp2_with fail
  refine (Y82.out _).mono ?_
  rintro e w5 ⟨rfl, rfl⟩
  go_wp2_with fail
  have hF : SF w (w.heap.size + 1) w4 := ⟨⟨_, _, _, _, _, _, _, _, _, _, h4'.g⟩, h4'.below, by omega⟩
  have c0' := sf_here hF
  clear c0 c1 c2 c3 c4 c5 c6 c7 c8 c9 c10 c11 g0 g1 g2 g3 g4 g5 g6 g7 g8 g9
  go_region_held3 (fun w' => (w'.cell? ⟨w.heap.size + 1, 0, none⟩ = some (cellF w' (w.heap.size + 1) 0) ∧ w'.cell? ⟨w.heap.size + 1, 1, none⟩ = some (cellF w' (w.heap.size + 1) 1) ∧ w'.cell? ⟨w.heap.size + 1, 2, none⟩ = some (cellF w' (w.heap.size + 1) 2) ∧ w'.cell? ⟨w.heap.size + 1, 3, none⟩ = some (cellF w' (w.heap.size + 1) 3) ∧ w'.cell? ⟨w.heap.size + 1, 4, none⟩ = some (cellF w' (w.heap.size + 1) 4) ∧ w'.cell? ⟨w.heap.size + 1, 5, none⟩ = some (cellF w' (w.heap.size + 1) 5) ∧ w'.cell? ⟨w.heap.size + 1, 6, none⟩ = some (cellF w' (w.heap.size + 1) 6) ∧ w'.cell? ⟨w.heap.size + 1, 7, none⟩ = some (cellF w' (w.heap.size + 1) 7) ∧ w'.cell? ⟨w.heap.size + 1, 8, none⟩ = some (cellF w' (w.heap.size + 1) 8) ∧ w'.cell? ⟨w.heap.size + 1, 9, none⟩ = some (cellF w' (w.heap.size + 1) 9) ∧ (∀ i, w'.frozen? ⟨w.heap.size + 1, i, none⟩ = false)) ∧ SF w (w.heap.size + 1) w')
    (first | (with_reducible exact sf_store (by assumption) _ _ _ _ _ _ _ _ _ _) | (with_reducible exact c0') | (with_reducible exact sf_next (by assumption) hq))
    (first | (go_at_call 115; (first | (with_reducible refine (HX0.out _).mono ?_) | (with_reducible refine (HX2.out _).mono ?_)); rintro e w' ⟨rfl, hq⟩))
  all_goals
    rename_i v1 i1 hH
    have hS := ((hF.drew.on i1).on hq)
    clear hH i1 hq c0' hF
    obtain ⟨⟨y0, y1, y2, y3, y4, y5, y6, y7, y8, y9, hb9⟩, hB, _⟩ := hS
    have hZ := set10 hb9 (.int .i64 X0) (.int .i64 X2) (.int .u32 0) (.int .u32 0) (.int .i64 0) (.int .i64 0) (.int .i64 0) (.string ⟨#[]⟩) (.string (body.extract 8 body.size)) (.bool false)
    have hZB := below10 hB (by omega : w.heap.size ≤ w.heap.size + 1) (.int .i64 X0) (.int .i64 X2) (.int .u32 0) (.int .u32 0) (.int .i64 0) (.int .i64 0) (.int .i64 0) (.string ⟨#[]⟩) (.string (body.extract 8 body.size)) (.bool false)
    clear hb9 hB
    go_wp2_with fail
    exact bodyPost_ret (v := .agg #[.int .i64 X0, .int .i64 X2, .int .u32 0, .int .u32 0, .int .i64 0, .int .i64 0, .int .i64 0, .string ⟨#[]⟩, .string (body.extract 8 body.size), .bool false]) (seg106_results _ _ (w.heap.size + 1) rfl hZ) rfl ⟨rfl, hZB⟩
set_option maxRecDepth 100000 in
set_option maxHeartbeats 3200000 in
theorem udp_sum_n (v : Int) (src dst : ByteArray) (proto hops cls id flags off label : Int) (opt body : ByteArray) (w : World) (X4 X6 : Nat) (hX4 : nat body 4 2 = X4) (hX6 : nat body 6 2 = X6) (h : 8 ≤ body.size) (hb : body.size ≤ 65535) (hv : (v == 4) = false) (h4 : X4 = body.size) (R : ByteArray) (AS : ∀ W, Calls Try.prog 46 #[.agg #[.int .i64 v, .string src, .string dst, .int .i64 proto, .int .i64 hops, .int .i64 cls, .int .i64 id, .int .i64 flags, .int .i64 off, .int .i64 label, .string opt, .string body], .string body] W fun e w' => e = .returned (.string R) ∧ Below W.heap.size W w') (hR : R ≠ body) :
    Calls Try.prog 106 #[.agg #[.int .i64 v, .string src, .string dst, .int .i64 proto, .int .i64 hops, .int .i64 cls, .int .i64 id, .int .i64 flags, .int .i64 off, .int .i64 label, .string opt, .string body]] w (PanicsF w 82) := by
  have hbz : body.size ≤ maxLen := by unfold maxLen; omega
  have G : ∀ W, Calls Try.prog 115 #[.string body, .int .i64 4, .int .i64 2] W fun e w' => e = .returned (.int .i64 (nat body 4 2)) ∧ Below W.heap.size W w' := fun W => get8_any body 4 2 W hbz (by omega) (by omega) (by omega)
  have G6 : ∀ W, Calls Try.prog 115 #[.string body, .int .i64 6, .int .i64 2] W fun e w' => e = .returned (.int .i64 (nat body 6 2)) ∧ Below W.heap.size W w' := fun W => get8_any body 6 2 W hbz (by omega) (by omega) (by omega)
  rw [hX4] at G
  rw [hX6] at G6
  have HG := Lib.hid G
  have HG6 := Lib.hid G6
  clear G G6
  have Y80 := Lib.hid (req_yes 80)
  have d8 : decide ((8 : Int) ≤ body.size) = true := decide_eq_true (by omega)
  have _ := hv
  have hN := Two2.new w #[.int .i64 v, .string src, .string dst, .int .i64 proto, .int .i64 hops, .int .i64 cls, .int .i64 id, .int .i64 flags, .int .i64 off, .int .i64 label, .string opt, .string body] #[.int .i64 0, .int .i64 0, .int .u32 0, .int .u32 0, .int .i64 0, .int .i64 0, .int .i64 0, .string ⟨#[]⟩, .string ⟨#[]⟩, .bool false]
  have e4 : ((X4 : Int) == (body.size : Int)) = true := by rw [h4]; simp
  have Y81 := Lib.hid (req_yes 81)
  have HX := Lib.hid (req_no 82)
  have HS := Lib.hid AS
  have hne := str_ne hR
  clear hR AS
  go_enter Try.func106, Try.ntmps106
  go_wp2_with fail
  refine (Y80.out _).mono ?_
  rintro e w0 ⟨rfl, rfl⟩
  obtain ⟨⟨c0, c1, c2, c3, c4, c5, c6, c7, c8, c9, c10, c11⟩, ⟨g0, g1, g2, g3, g4, g5, g6, g7, g8, g9⟩⟩ := hN.cells
  go_wp2_with fail
  refine (HG.out _).mono ?_
  rintro e w1 ⟨rfl, hq⟩
  have h1 := hN.next hq
  clear hq hN
  clear c0 c1 c2 c3 c4 c5 c6 c7 c8 c9 c10 c11 g0 g1 g2 g3 g4 g5 g6 g7 g8 g9
  obtain ⟨⟨c0, c1, c2, c3, c4, c5, c6, c7, c8, c9, c10, c11⟩, ⟨g0, g1, g2, g3, g4, g5, g6, g7, g8, g9⟩⟩ := h1.cells
  go_wp2_with fail
  refine (Y81.out _).mono ?_
  rintro e w2 ⟨rfl, rfl⟩
  go_wp2_with fail
  refine (HS.out _).mono ?_
  rintro e w4 ⟨rfl, hq⟩
  have h4' := h1.next hq
  clear hq h1
  clear c0 c1 c2 c3 c4 c5 c6 c7 c8 c9 c10 c11 g0 g1 g2 g3 g4 g5 g6 g7 g8 g9
  obtain ⟨⟨c0, c1, c2, c3, c4, c5, c6, c7, c8, c9, c10, c11⟩, ⟨g0, g1, g2, g3, g4, g5, g6, g7, g8, g9⟩⟩ := h4'.cells
  go_wp2_with fail
  refine (HX.out _).mono ?_
  rintro e w' ⟨rfl, rfl⟩
  exact ⟨rfl, rfl, h4'.below⟩
set_option maxRecDepth 100000 in
set_option maxHeartbeats 3200000 in
theorem udp_good_n (v : Int) (src dst : ByteArray) (proto hops cls id flags off label : Int) (opt body : ByteArray) (w : World) (X4 X6 : Nat) (hX4 : nat body 4 2 = X4) (hX6 : nat body 6 2 = X6) (h : 8 ≤ body.size) (hb : body.size ≤ 65535) (hv : (v == 4) = false) (h4 : X4 = body.size) (AS : ∀ W, Calls Try.prog 46 #[.agg #[.int .i64 v, .string src, .string dst, .int .i64 proto, .int .i64 hops, .int .i64 cls, .int .i64 id, .int .i64 flags, .int .i64 off, .int .i64 label, .string opt, .string body], .string body] W fun e w' => e = .returned (.string body) ∧ Below W.heap.size W w') :
    Calls Try.prog 106 #[.agg #[.int .i64 v, .string src, .string dst, .int .i64 proto, .int .i64 hops, .int .i64 cls, .int .i64 id, .int .i64 flags, .int .i64 off, .int .i64 label, .string opt, .string body]] w (fun e w' => e = .returned (.agg #[.int .i64 (nat body 0 2), .int .i64 (nat body 2 2), .int .u32 0, .int .u32 0, .int .i64 0, .int .i64 0, .int .i64 0, .string ⟨#[]⟩, .string (body.extract 8 body.size), .bool false]) ∧ Below w.heap.size w w') := by
  have hbz : body.size ≤ maxLen := by unfold maxLen; omega
  have G : ∀ W, Calls Try.prog 115 #[.string body, .int .i64 4, .int .i64 2] W fun e w' => e = .returned (.int .i64 (nat body 4 2)) ∧ Below W.heap.size W w' := fun W => get8_any body 4 2 W hbz (by omega) (by omega) (by omega)
  have G6 : ∀ W, Calls Try.prog 115 #[.string body, .int .i64 6, .int .i64 2] W fun e w' => e = .returned (.int .i64 (nat body 6 2)) ∧ Below W.heap.size W w' := fun W => get8_any body 6 2 W hbz (by omega) (by omega) (by omega)
  rw [hX4] at G
  rw [hX6] at G6
  have HG := Lib.hid G
  have HG6 := Lib.hid G6
  clear G G6
  have Y80 := Lib.hid (req_yes 80)
  have d8 : decide ((8 : Int) ≤ body.size) = true := decide_eq_true (by omega)
  have _ := hv
  have hN := Two2.new w #[.int .i64 v, .string src, .string dst, .int .i64 proto, .int .i64 hops, .int .i64 cls, .int .i64 id, .int .i64 flags, .int .i64 off, .int .i64 label, .string opt, .string body] #[.int .i64 0, .int .i64 0, .int .u32 0, .int .u32 0, .int .i64 0, .int .i64 0, .int .i64 0, .string ⟨#[]⟩, .string ⟨#[]⟩, .bool false]
  have e4 : ((X4 : Int) == (body.size : Int)) = true := by rw [h4]; simp
  have Y81 := Lib.hid (req_yes 81)
  have HS := Lib.hid AS
  clear AS
  have AX0 : ∀ W, Calls Try.prog 115 #[.string body, .int .i64 0, .int .i64 2] W fun e w' => e = .returned (.int .i64 (nat body 0 2)) ∧ Below W.heap.size W w' := fun W => get8_any body 0 2 W hbz (by omega) (by omega) (by omega)
  have AX2 : ∀ W, Calls Try.prog 115 #[.string body, .int .i64 2, .int .i64 2] W fun e w' => e = .returned (.int .i64 (nat body 2 2)) ∧ Below W.heap.size W w' := fun W => get8_any body 2 2 W hbz (by omega) (by omega) (by omega)
  generalize nat body 0 2 = X0 at *
  generalize nat body 2 2 = X2 at *
  have HX0 := Lib.hid AX0
  have HX2 := Lib.hid AX2
  clear AX0 AX2
  have Y82 := Lib.hid (req_yes 82)
  have q1 : (8 : Int) ≤ body.size := by omega
  have q2 : ¬ (body.size : Int) < 8 := by omega
  go_enter Try.func106, Try.ntmps106
  go_wp2_with fail
  refine (Y80.out _).mono ?_
  rintro e w0 ⟨rfl, rfl⟩
  obtain ⟨⟨c0, c1, c2, c3, c4, c5, c6, c7, c8, c9, c10, c11⟩, ⟨g0, g1, g2, g3, g4, g5, g6, g7, g8, g9⟩⟩ := hN.cells
  go_wp2_with fail
  refine (HG.out _).mono ?_
  rintro e w1 ⟨rfl, hq⟩
  have h1 := hN.next hq
  clear hq hN
  clear c0 c1 c2 c3 c4 c5 c6 c7 c8 c9 c10 c11 g0 g1 g2 g3 g4 g5 g6 g7 g8 g9
  obtain ⟨⟨c0, c1, c2, c3, c4, c5, c6, c7, c8, c9, c10, c11⟩, ⟨g0, g1, g2, g3, g4, g5, g6, g7, g8, g9⟩⟩ := h1.cells
  go_wp2_with fail
  refine (Y81.out _).mono ?_
  rintro e w2 ⟨rfl, rfl⟩
  go_wp2_with fail
  refine (HS.out _).mono ?_
  rintro e w4 ⟨rfl, hq⟩
  have h4' := h1.next hq
  clear hq h1
  clear c0 c1 c2 c3 c4 c5 c6 c7 c8 c9 c10 c11 g0 g1 g2 g3 g4 g5 g6 g7 g8 g9
  obtain ⟨⟨c0, c1, c2, c3, c4, c5, c6, c7, c8, c9, c10, c11⟩, ⟨g0, g1, g2, g3, g4, g5, g6, g7, g8, g9⟩⟩ := h4'.cells
  go_wp2_with fail
  refine (Y82.out _).mono ?_
  rintro e w5 ⟨rfl, rfl⟩
  go_wp2_with fail
  have hF : SF w (w.heap.size + 1) w4 := ⟨⟨_, _, _, _, _, _, _, _, _, _, h4'.g⟩, h4'.below, by omega⟩
  have c0' := sf_here hF
  clear c0 c1 c2 c3 c4 c5 c6 c7 c8 c9 c10 c11 g0 g1 g2 g3 g4 g5 g6 g7 g8 g9
  go_region_held3 (fun w' => (w'.cell? ⟨w.heap.size + 1, 0, none⟩ = some (cellF w' (w.heap.size + 1) 0) ∧ w'.cell? ⟨w.heap.size + 1, 1, none⟩ = some (cellF w' (w.heap.size + 1) 1) ∧ w'.cell? ⟨w.heap.size + 1, 2, none⟩ = some (cellF w' (w.heap.size + 1) 2) ∧ w'.cell? ⟨w.heap.size + 1, 3, none⟩ = some (cellF w' (w.heap.size + 1) 3) ∧ w'.cell? ⟨w.heap.size + 1, 4, none⟩ = some (cellF w' (w.heap.size + 1) 4) ∧ w'.cell? ⟨w.heap.size + 1, 5, none⟩ = some (cellF w' (w.heap.size + 1) 5) ∧ w'.cell? ⟨w.heap.size + 1, 6, none⟩ = some (cellF w' (w.heap.size + 1) 6) ∧ w'.cell? ⟨w.heap.size + 1, 7, none⟩ = some (cellF w' (w.heap.size + 1) 7) ∧ w'.cell? ⟨w.heap.size + 1, 8, none⟩ = some (cellF w' (w.heap.size + 1) 8) ∧ w'.cell? ⟨w.heap.size + 1, 9, none⟩ = some (cellF w' (w.heap.size + 1) 9) ∧ (∀ i, w'.frozen? ⟨w.heap.size + 1, i, none⟩ = false)) ∧ SF w (w.heap.size + 1) w')
    (first | (with_reducible exact sf_store (by assumption) _ _ _ _ _ _ _ _ _ _) | (with_reducible exact c0') | (with_reducible exact sf_next (by assumption) hq))
    (first | (go_at_call 115; (first | (with_reducible refine (HX0.out _).mono ?_) | (with_reducible refine (HX2.out _).mono ?_)); rintro e w' ⟨rfl, hq⟩))
  all_goals
    rename_i v1 i1 hH
    have hS := ((hF.drew.on i1).on hq)
    clear hH i1 hq c0' hF
    obtain ⟨⟨y0, y1, y2, y3, y4, y5, y6, y7, y8, y9, hb9⟩, hB, _⟩ := hS
    have hZ := set10 hb9 (.int .i64 X0) (.int .i64 X2) (.int .u32 0) (.int .u32 0) (.int .i64 0) (.int .i64 0) (.int .i64 0) (.string ⟨#[]⟩) (.string (body.extract 8 body.size)) (.bool false)
    have hZB := below10 hB (by omega : w.heap.size ≤ w.heap.size + 1) (.int .i64 X0) (.int .i64 X2) (.int .u32 0) (.int .u32 0) (.int .i64 0) (.int .i64 0) (.int .i64 0) (.string ⟨#[]⟩) (.string (body.extract 8 body.size)) (.bool false)
    clear hb9 hB
    go_wp2_with fail
    exact bodyPost_ret (v := .agg #[.int .i64 X0, .int .i64 X2, .int .u32 0, .int .u32 0, .int .i64 0, .int .i64 0, .int .i64 0, .string ⟨#[]⟩, .string (body.extract 8 body.size), .bool false]) (seg106_results _ _ (w.heap.size + 1) rfl hZ) rfl ⟨rfl, hZB⟩
set_option maxRecDepth 100000 in
set_option maxHeartbeats 3200000 in
theorem udp_nosum (src dst : ByteArray) (proto hops cls id flags off label : Int) (opt body : ByteArray) (w : World) (X4 X6 : Nat) (hX4 : nat body 4 2 = X4) (hX6 : nat body 6 2 = X6) (h : 8 ≤ body.size) (hb : body.size ≤ 65535) (h4 : X4 = body.size) (h6 : X6 = 0) :
    Calls Try.prog 106 #[.agg #[.int .i64 4, .string src, .string dst, .int .i64 proto, .int .i64 hops, .int .i64 cls, .int .i64 id, .int .i64 flags, .int .i64 off, .int .i64 label, .string opt, .string body]] w (fun e w' => e = .returned (.agg #[.int .i64 (nat body 0 2), .int .i64 (nat body 2 2), .int .u32 0, .int .u32 0, .int .i64 0, .int .i64 0, .int .i64 0, .string ⟨#[]⟩, .string (body.extract 8 body.size), .bool true]) ∧ Below w.heap.size w w') := by
  have hbz : body.size ≤ maxLen := by unfold maxLen; omega
  have G : ∀ W, Calls Try.prog 115 #[.string body, .int .i64 4, .int .i64 2] W fun e w' => e = .returned (.int .i64 (nat body 4 2)) ∧ Below W.heap.size W w' := fun W => get8_any body 4 2 W hbz (by omega) (by omega) (by omega)
  have G6 : ∀ W, Calls Try.prog 115 #[.string body, .int .i64 6, .int .i64 2] W fun e w' => e = .returned (.int .i64 (nat body 6 2)) ∧ Below W.heap.size W w' := fun W => get8_any body 6 2 W hbz (by omega) (by omega) (by omega)
  rw [hX4] at G
  rw [hX6] at G6
  have HG := Lib.hid G
  have HG6 := Lib.hid G6
  clear G G6
  have Y80 := Lib.hid (req_yes 80)
  have d8 : decide ((8 : Int) ≤ body.size) = true := decide_eq_true (by omega)
  have hN := Two2.new w #[.int .i64 4, .string src, .string dst, .int .i64 proto, .int .i64 hops, .int .i64 cls, .int .i64 id, .int .i64 flags, .int .i64 off, .int .i64 label, .string opt, .string body] #[.int .i64 0, .int .i64 0, .int .u32 0, .int .u32 0, .int .i64 0, .int .i64 0, .int .i64 0, .string ⟨#[]⟩, .string ⟨#[]⟩, .bool false]
  have e4 : ((X4 : Int) == (body.size : Int)) = true := by rw [h4]; simp
  have Y81 := Lib.hid (req_yes 81)
  subst h6
  have AX0 : ∀ W, Calls Try.prog 115 #[.string body, .int .i64 0, .int .i64 2] W fun e w' => e = .returned (.int .i64 (nat body 0 2)) ∧ Below W.heap.size W w' := fun W => get8_any body 0 2 W hbz (by omega) (by omega) (by omega)
  have AX2 : ∀ W, Calls Try.prog 115 #[.string body, .int .i64 2, .int .i64 2] W fun e w' => e = .returned (.int .i64 (nat body 2 2)) ∧ Below W.heap.size W w' := fun W => get8_any body 2 2 W hbz (by omega) (by omega) (by omega)
  generalize nat body 0 2 = X0 at *
  generalize nat body 2 2 = X2 at *
  have HX0 := Lib.hid AX0
  have HX2 := Lib.hid AX2
  clear AX0 AX2
  have Y82 := Lib.hid (req_yes 82)
  have q1 : (8 : Int) ≤ body.size := by omega
  have q2 : ¬ (body.size : Int) < 8 := by omega
  go_enter Try.func106, Try.ntmps106
  go_wp2_with fail
  refine (Y80.out _).mono ?_
  rintro e w0 ⟨rfl, rfl⟩
  obtain ⟨⟨c0, c1, c2, c3, c4, c5, c6, c7, c8, c9, c10, c11⟩, ⟨g0, g1, g2, g3, g4, g5, g6, g7, g8, g9⟩⟩ := hN.cells
  go_wp2_with fail
  refine (HG.out _).mono ?_
  rintro e w1 ⟨rfl, hq⟩
  have h1 := hN.next hq
  clear hq hN
  clear c0 c1 c2 c3 c4 c5 c6 c7 c8 c9 c10 c11 g0 g1 g2 g3 g4 g5 g6 g7 g8 g9
  obtain ⟨⟨c0, c1, c2, c3, c4, c5, c6, c7, c8, c9, c10, c11⟩, ⟨g0, g1, g2, g3, g4, g5, g6, g7, g8, g9⟩⟩ := h1.cells
  go_wp2_with fail
  refine (Y81.out _).mono ?_
  rintro e w2 ⟨rfl, rfl⟩
  go_wp2_with fail
  refine (HG6.out _).mono ?_
  rintro e w3 ⟨rfl, hq⟩
  have h3 := h1.next hq
  clear hq h1
  clear c0 c1 c2 c3 c4 c5 c6 c7 c8 c9 c10 c11 g0 g1 g2 g3 g4 g5 g6 g7 g8 g9
  obtain ⟨⟨c0, c1, c2, c3, c4, c5, c6, c7, c8, c9, c10, c11⟩, ⟨g0, g1, g2, g3, g4, g5, g6, g7, g8, g9⟩⟩ := h3.cells
  go_wp2_with fail
  refine (Y82.out _).mono ?_
  rintro e w5 ⟨rfl, rfl⟩
  go_wp2_with fail
  have hF : SF w (w.heap.size + 1) w3 := ⟨⟨_, _, _, _, _, _, _, _, _, _, h3.g⟩, h3.below, by omega⟩
  have c0' := sf_here hF
  clear c0 c1 c2 c3 c4 c5 c6 c7 c8 c9 c10 c11 g0 g1 g2 g3 g4 g5 g6 g7 g8 g9
  go_region_held3 (fun w' => (w'.cell? ⟨w.heap.size + 1, 0, none⟩ = some (cellF w' (w.heap.size + 1) 0) ∧ w'.cell? ⟨w.heap.size + 1, 1, none⟩ = some (cellF w' (w.heap.size + 1) 1) ∧ w'.cell? ⟨w.heap.size + 1, 2, none⟩ = some (cellF w' (w.heap.size + 1) 2) ∧ w'.cell? ⟨w.heap.size + 1, 3, none⟩ = some (cellF w' (w.heap.size + 1) 3) ∧ w'.cell? ⟨w.heap.size + 1, 4, none⟩ = some (cellF w' (w.heap.size + 1) 4) ∧ w'.cell? ⟨w.heap.size + 1, 5, none⟩ = some (cellF w' (w.heap.size + 1) 5) ∧ w'.cell? ⟨w.heap.size + 1, 6, none⟩ = some (cellF w' (w.heap.size + 1) 6) ∧ w'.cell? ⟨w.heap.size + 1, 7, none⟩ = some (cellF w' (w.heap.size + 1) 7) ∧ w'.cell? ⟨w.heap.size + 1, 8, none⟩ = some (cellF w' (w.heap.size + 1) 8) ∧ w'.cell? ⟨w.heap.size + 1, 9, none⟩ = some (cellF w' (w.heap.size + 1) 9) ∧ (∀ i, w'.frozen? ⟨w.heap.size + 1, i, none⟩ = false)) ∧ SF w (w.heap.size + 1) w')
    (first | (with_reducible exact sf_store (by assumption) _ _ _ _ _ _ _ _ _ _) | (with_reducible exact c0') | (with_reducible exact sf_next (by assumption) hq))
    (first | (go_at_call 115; (first | (with_reducible refine (HX0.out _).mono ?_) | (with_reducible refine (HX2.out _).mono ?_)); rintro e w' ⟨rfl, hq⟩))
  all_goals
    rename_i v1 i1 hH
    have hS := ((hF.drew.on i1).on hq)
    clear hH i1 hq c0' hF
    obtain ⟨⟨y0, y1, y2, y3, y4, y5, y6, y7, y8, y9, hb9⟩, hB, _⟩ := hS
    have hZ := set10 hb9 (.int .i64 X0) (.int .i64 X2) (.int .u32 0) (.int .u32 0) (.int .i64 0) (.int .i64 0) (.int .i64 0) (.string ⟨#[]⟩) (.string (body.extract 8 body.size)) (.bool true)
    have hZB := below10 hB (by omega : w.heap.size ≤ w.heap.size + 1) (.int .i64 X0) (.int .i64 X2) (.int .u32 0) (.int .u32 0) (.int .i64 0) (.int .i64 0) (.int .i64 0) (.string ⟨#[]⟩) (.string (body.extract 8 body.size)) (.bool true)
    clear hb9 hB
    go_wp2_with fail
    exact bodyPost_ret (v := .agg #[.int .i64 X0, .int .i64 X2, .int .u32 0, .int .u32 0, .int .i64 0, .int .i64 0, .int .i64 0, .string ⟨#[]⟩, .string (body.extract 8 body.size), .bool true]) (seg106_results _ _ (w.heap.size + 1) rfl hZ) rfl ⟨rfl, hZB⟩
end Go.Proofs.Ytalkpllmcigjnaa
namespace Go.Proofs.Ytalkpllmcigjnaa
open Go.RowKit

set_option maxHeartbeats 1600000 in
theorem catchP_panicking (B gs ge : Nat) (n : Int) (older : List PanicEntry) (w0 w : World) (hne : gs ≠ ge) (hB : B ≤ gs) (hB' : B ≤ ge) (c0 c1 c2 c3 c4 c5 c6 c7 c8 c9 e0 : Value)
    (hF : Blk w gs 39 #[c0, c1, c2, c3, c4, c5, c6, c7, c8, c9]) (hE : Blk w ge 24 #[e0]) (hb : Below B w0 w) :
    CallsD Try.prog 104 #[.pointer (some ⟨gs, 0, none⟩), .pointer (some ⟨ge, 0, none⟩)] (.panicking ({ v := faultV n, recovered := false } :: older)) w fun e u' w' =>
      e = .returned (.tuple #[]) ∧ u' = .panicking ({ v := faultV n, recovered := true } :: older) ∧ Blk w' gs 39 #[.int .i64 0, .int .i64 0, .int .u32 0, .int .u32 0, .int .i64 0, .int .i64 0, .int .i64 0, .string ⟨#[]⟩, .string ⟨#[]⟩, .bool false] ∧ Blk w' ge 24 #[.int .i64 n] ∧ Below B w0 w' := by
  have A := errorOf_any n
  unfold faultV at A
  have HA := Lib.hid A
  have KF := Lib.hid hF
  have KE := Lib.hid hE
  have KB := Lib.hid hb
  clear hF hE hb A
  refine callsD_of_wpS Try.func104 rfl fun c₀ cs hu => ?_
  unfold faultV at *
  apply wpS_seq
  apply wpS_region
  simp [wpOpsS, go_sem, recoverD, hu, Try.ntmps104, Exit.thenS]
  refine wpS_of_wp ?_
  change Code.wp _ _ _ { tmps := #[Value.pointer (some { block := gs, off := 0 }), Value.pointer (some { block := ge, off := 0 }), Value.iface 95 (Value.agg #[.int .i64 n]), Value.iface 95 (Value.agg #[.int .i64 n]), undef, undef, undef, undef, undef], defers := [] } w
  go_wp2_with fail
  refine (HA.out _).mono ?_
  rintro e w1 ⟨rfl, hq⟩
  have hF := KF.out.same (hq.block _ KF.out.lt)
  have hE := KE.out.same (hq.block _ KE.out.lt)
  have hb := KB.out.trans (hq.mono (by have := KF.out.lt; omega))
  have h0 := hF.cell 0
  have h1 := hF.cell 1
  have h2 := hF.cell 2
  have h3 := hF.cell 3
  have h4 := hF.cell 4
  have h5 := hF.cell 5
  have h6 := hF.cell 6
  have h7 := hF.cell 7
  have h8 := hF.cell 8
  have h9 := hF.cell 9
  have k0 := hE.cell 0
  have f0 := hF.frozen
  have f1 := hE.frozen 0
  simp only [List.getElem?_toArray, List.getElem?_cons_zero, List.getElem?_cons_succ] at h0 h1 h2 h3 h4 h5 h6 h7 h8 h9 k0
  have KF2 := Lib.hid hF
  have KE2 := Lib.hid hE
  have KB2 := Lib.hid hb
  clear hF hE hb hq KF KE KB
  go_wp2_with fail
  refine ⟨rfl, _, rfl, .tuple #[], by simp [results, Try.results104], rfl, rfl, ?_, ?_, ?_⟩
  · exact (set10 KF2.out (.int .i64 0) (.int .i64 0) (.int .u32 0) (.int .u32 0) (.int .i64 0) (.int .i64 0) (.int .i64 0) (.string ⟨#[]⟩) (.string ⟨#[]⟩) (.bool false)).other hne 0 (.int .i64 n)
  · exact (other10 KE2.out hne.symm (.int .i64 0) (.int .i64 0) (.int .u32 0) (.int .u32 0) (.int .i64 0) (.int .i64 0) (.int .i64 0) (.string ⟨#[]⟩) (.string ⟨#[]⟩) (.bool false)).put 0 (.int .i64 n)
  · exact (below10 KB2.out hB (.int .i64 0) (.int .i64 0) (.int .u32 0) (.int .u32 0) (.int .i64 0) (.int .i64 0) (.int .i64 0) (.string ⟨#[]⟩) (.string ⟨#[]⟩) (.bool false)).setCell hB' _
theorem catchP_idle (gf ge : Nat) (w : World) :
    CallsD Try.prog 104 #[.pointer (some ⟨gf, 0, none⟩), .pointer (some ⟨ge, 0, none⟩)] .returning w fun e u' w' => e = .returned (.tuple #[]) ∧ u' = .returning ∧ w' = w := by
  refine callsD_of_wpS Try.func104 rfl fun c₀ cs hu => ?_
  apply wpS_seq
  apply wpS_region
  simp [wpOpsS, go_sem, recoverD, hu, Try.ntmps104, Exit.thenS]
  refine wpS_of_wp ?_
  change Code.wp _ _ _ { tmps := #[Value.pointer (some { block := gf, off := 0 }), Value.pointer (some { block := ge, off := 0 }), Value.nilIface, Value.nilIface, undef, undef, undef, undef, undef], defers := [] } w
  go_wp2
  cases c₀
  simp_all [bodyPostS, results, Try.results104]
/-- Parse under way -/
structure PB (w0 : World) (pc : Array Value) (w : World) : Prop where
  two : Two2 w0 pc #[.int .i64 0, .int .i64 0, .int .u32 0, .int .u32 0, .int .i64 0, .int .i64 0, .int .i64 0, .string ⟨#[]⟩, .string ⟨#[]⟩, .bool false] w
  e : Blk w (w0.heap.size + 1 + 1) 24 #[.int .i64 0]
theorem PB.next {w w1 w' : World} {pc : Array Value} (h : PB w pc w1) (hq : Below w1.heap.size w1 w') : PB w pc w' :=
  ⟨h.two.next hq, h.e.same (hq.block _ h.e.lt)⟩
theorem PB.new (w : World) (pc : Array Value) : PB w pc (((w.alloc (.cells pc 36)).alloc (.cells #[.int .i64 0, .int .i64 0, .int .u32 0, .int .u32 0, .int .i64 0, .int .i64 0, .int .i64 0, .string ⟨#[]⟩, .string ⟨#[]⟩, .bool false] 39)).alloc (.cells #[.int .i64 0] 24)) := by
  have h0 := Two2.new w pc #[.int .i64 0, .int .i64 0, .int .u32 0, .int .u32 0, .int .i64 0, .int .i64 0, .int .i64 0, .string ⟨#[]⟩, .string ⟨#[]⟩, .bool false]
  refine ⟨⟨h0.p.alloc _, h0.g.alloc _, h0.below.alloc (by simp; omega) _⟩, ?_⟩
  have := Blk.new ((w.alloc (.cells pc 36)).alloc (.cells #[.int .i64 0, .int .i64 0, .int .u32 0, .int .u32 0, .int .i64 0, .int .i64 0, .int .i64 0, .string ⟨#[]⟩, .string ⟨#[]⟩, .bool false] 39)) 24 #[.int .i64 0]
  simpa using this
theorem segP_results (w : World) (tmps : Array Value) (gf ge : Nat) {y0 y1 y2 y3 y4 y5 y6 y7 y8 y9 : Value} {n : Int} (h2 : tmps[2]?.getD undef = .pointer (some ⟨gf, 0, none⟩)) (h3 : tmps[3]?.getD undef = .pointer (some ⟨ge, 0, none⟩))
    (hF : Blk w gf 39 #[y0, y1, y2, y3, y4, y5, y6, y7, y8, y9]) (hE : Blk w ge 24 #[.int .i64 n]) : (results Try.f68 tmps).run Try.prog w = .ok (.tuple #[.agg #[y0, y1, y2, y3, y4, y5, y6, y7, y8, y9], .int .i64 n]) w := by
  have c0 := hF.cell 0
  have c1 := hF.cell 1
  have c2 := hF.cell 2
  have c3 := hF.cell 3
  have c4 := hF.cell 4
  have c5 := hF.cell 5
  have c6 := hF.cell 6
  have c7 := hF.cell 7
  have c8 := hF.cell 8
  have c9 := hF.cell 9
  have k0 := hE.cell 0
  simp only [List.getElem?_toArray, List.getElem?_cons_zero, List.getElem?_cons_succ] at c0 c1 c2 c3 c4 c5 c6 c7 c8 c9 k0
  simp [results, Try.results68, go_sem, h2, h3, c0, c1, c2, c3, c4, c5, c6, c7, c8, c9, k0]
def SaysG (w : World) (g : Array Value) (n : Int) (e : Ending) (w' : World) : Prop := e = .returned (.tuple #[.agg g, .int .i64 n]) ∧ Below w.heap.size w w'
theorem doorP_panic (w w1 : World) (tmps : Array Value) (n : Int) (h2 : tmps[2]?.getD undef = .pointer (some ⟨w.heap.size + 1, 0, none⟩)) (h3 : tmps[3]?.getD undef = .pointer (some ⟨w.heap.size + 1 + 1, 0, none⟩)) {pc : Array Value} (h : PB w pc w1) :
    bodyPostD Try.prog Try.f68 (SaysG w #[.int .i64 0, .int .i64 0, .int .u32 0, .int .u32 0, .int .i64 0, .int .i64 0, .int .i64 0, .string ⟨#[]⟩, .string ⟨#[]⟩, .bool false] n) (.panic [{ v := faultV n, recovered := false }])
      { tmps := tmps, defers := [{ target := .fn (.func 104) #[.pointer (some ⟨w.heap.size + 1, 0, none⟩), .pointer (some ⟨w.heap.size + 1 + 1, 0, none⟩)], args := #[] }] } w1 := by
  refine leaves_cons (f := 104) (args := #[.pointer (some ⟨w.heap.size + 1, 0, none⟩), .pointer (some ⟨w.heap.size + 1 + 1, 0, none⟩)]) (by simp) (by simp [go_sem]) ?_
  refine (catchP_panicking w.heap.size (w.heap.size + 1) (w.heap.size + 1 + 1) n [] w w1 (by omega) (by omega) (by omega) _ _ _ _ _ _ _ _ _ _ _ h.two.g h.e h.two.below).mono ?_
  rintro e u' w'' ⟨rfl, rfl, hF, hE, hb⟩
  exact ⟨_, segP_results w'' tmps _ _ h2 h3 hF hE, rfl, hb⟩
theorem doorP_ret (w w1 : World) (tmps : Array Value) {n : Int} {y0 y1 y2 y3 y4 y5 y6 y7 y8 y9 : Value} (h2 : tmps[2]?.getD undef = .pointer (some ⟨w.heap.size + 1, 0, none⟩)) (h3 : tmps[3]?.getD undef = .pointer (some ⟨w.heap.size + 1 + 1, 0, none⟩))
    (hF : Blk w1 (w.heap.size + 1) 39 #[y0, y1, y2, y3, y4, y5, y6, y7, y8, y9]) (hE : Blk w1 (w.heap.size + 1 + 1) 24 #[.int .i64 n]) (hb : Below w.heap.size w w1) :
    bodyPostD Try.prog Try.f68 (SaysG w #[y0, y1, y2, y3, y4, y5, y6, y7, y8, y9] n) .ret
      { tmps := tmps, defers := [{ target := .fn (.func 104) #[.pointer (some ⟨w.heap.size + 1, 0, none⟩), .pointer (some ⟨w.heap.size + 1 + 1, 0, none⟩)], args := #[] }] } w1 := by
  refine leaves_cons (f := 104) (args := #[.pointer (some ⟨w.heap.size + 1, 0, none⟩), .pointer (some ⟨w.heap.size + 1 + 1, 0, none⟩)]) (by simp) (by simp [go_sem]) ?_
  refine (catchP_idle (w.heap.size + 1) (w.heap.size + 1 + 1) w1).mono ?_
  rintro e u' w'' ⟨rfl, rfl, rfl⟩
  exact ⟨_, segP_results w'' tmps _ _ h2 h3 hF hE, rfl, hb⟩
set_option maxRecDepth 100000 in
set_option maxHeartbeats 3200000 in
theorem parseS_cannot (v : Int) (src dst : ByteArray) (proto hops cls id flags off label : Int) (opt body : ByteArray) (w : World) (A1 : ∀ W, Calls Try.prog 44 #[.agg #[.int .i64 v, .string src, .string dst, .int .i64 proto, .int .i64 hops, .int .i64 cls, .int .i64 id, .int .i64 flags, .int .i64 off, .int .i64 label, .string opt, .string body]] W fun e w' => e = .returned (.bool false) ∧ Below W.heap.size W w') : Calls Try.prog 68 #[.agg #[.int .i64 v, .string src, .string dst, .int .i64 proto, .int .i64 hops, .int .i64 cls, .int .i64 id, .int .i64 flags, .int .i64 off, .int .i64 label, .string opt, .string body]] w (SaysG w #[.int .i64 0, .int .i64 0, .int .u32 0, .int .u32 0, .int .i64 0, .int .i64 0, .int .i64 0, .string ⟨#[]⟩, .string ⟨#[]⟩, .bool false] 81) := by
  have H1 := Lib.hid A1
  have HR := Lib.hid (req_no 81)
  clear A1
  have hmf := make_func
  have hN := PB.new w #[.int .i64 v, .string src, .string dst, .int .i64 proto, .int .i64 hops, .int .i64 cls, .int .i64 id, .int .i64 flags, .int .i64 off, .int .i64 label, .string opt, .string body]
  go_enter_defers Try.func68, Try.ntmps68
  go_wp2_with fail
  refine (H1.out _).mono ?_
  rintro e w1 ⟨rfl, hq⟩
  have h1 := hN.next hq
  clear hq hN
  obtain ⟨⟨c0, c1, c2, c3, c4, c5, c6, c7, c8, c9, c10, c11⟩, ⟨g0, g1, g2, g3, g4, g5, g6, g7, g8, g9⟩⟩ := h1.two.cells
  have d0 := h1.e.cell 0
  have x0 := h1.two.g.frozen
  have x1 := h1.e.frozen 0
  go_wp2_with fail
  refine (HR.out _).mono ?_
  rintro e w2 ⟨rfl, rfl⟩
  exact doorP_panic w _ _ 81 rfl rfl h1
set_option maxRecDepth 100000 in
set_option maxHeartbeats 3200000 in
theorem parseS_tcp_bad (v : Int) (src dst : ByteArray) (proto hops cls id flags off label : Int) (opt body : ByteArray) (w : World) (n : Int) (h6 : (proto == 6) = true) (A1 : ∀ W, Calls Try.prog 44 #[.agg #[.int .i64 v, .string src, .string dst, .int .i64 proto, .int .i64 hops, .int .i64 cls, .int .i64 id, .int .i64 flags, .int .i64 off, .int .i64 label, .string opt, .string body]] W fun e w' => e = .returned (.bool true) ∧ Below W.heap.size W w') (A2 : ∀ W, Calls Try.prog 105 #[.agg #[.int .i64 v, .string src, .string dst, .int .i64 proto, .int .i64 hops, .int .i64 cls, .int .i64 id, .int .i64 flags, .int .i64 off, .int .i64 label, .string opt, .string body]] W (PanicsF W n)) : Calls Try.prog 68 #[.agg #[.int .i64 v, .string src, .string dst, .int .i64 proto, .int .i64 hops, .int .i64 cls, .int .i64 id, .int .i64 flags, .int .i64 off, .int .i64 label, .string opt, .string body]] w (SaysG w #[.int .i64 0, .int .i64 0, .int .u32 0, .int .u32 0, .int .i64 0, .int .i64 0, .int .i64 0, .string ⟨#[]⟩, .string ⟨#[]⟩, .bool false] n) := by
  have H2 := Lib.hid A2
  clear A2
  have H1 := Lib.hid A1
  have HR := Lib.hid (req_yes 81)
  clear A1
  have hmf := make_func
  have hN := PB.new w #[.int .i64 v, .string src, .string dst, .int .i64 proto, .int .i64 hops, .int .i64 cls, .int .i64 id, .int .i64 flags, .int .i64 off, .int .i64 label, .string opt, .string body]
  go_enter_defers Try.func68, Try.ntmps68
  go_wp2_with fail
  refine (H1.out _).mono ?_
  rintro e w1 ⟨rfl, hq⟩
  have h1 := hN.next hq
  clear hq hN
  obtain ⟨⟨c0, c1, c2, c3, c4, c5, c6, c7, c8, c9, c10, c11⟩, ⟨g0, g1, g2, g3, g4, g5, g6, g7, g8, g9⟩⟩ := h1.two.cells
  have d0 := h1.e.cell 0
  have x0 := h1.two.g.frozen
  have x1 := h1.e.frozen 0
  go_wp2_with fail
  refine (HR.out _).mono ?_
  rintro e w2 ⟨rfl, rfl⟩
  go_wp2_with fail
  refine (H2.out _).mono ?_
  rintro e w3 ⟨rfl, hq⟩
  have h3 := h1.next hq
  exact doorP_panic w _ _ n rfl rfl h3
set_option maxRecDepth 100000 in
set_option maxHeartbeats 3200000 in
theorem parseS_tcp_good (v : Int) (src dst : ByteArray) (proto hops cls id flags off label : Int) (opt body : ByteArray) (w : World) (h6 : (proto == 6) = true) (A1 : ∀ W, Calls Try.prog 44 #[.agg #[.int .i64 v, .string src, .string dst, .int .i64 proto, .int .i64 hops, .int .i64 cls, .int .i64 id, .int .i64 flags, .int .i64 off, .int .i64 label, .string opt, .string body]] W fun e w' => e = .returned (.bool true) ∧ Below W.heap.size W w') {y0 y1 y2 y3 y4 y5 y6 : Int} {y7 y8 : ByteArray} {y9 : Bool} (A2 : ∀ W, Calls Try.prog 105 #[.agg #[.int .i64 v, .string src, .string dst, .int .i64 proto, .int .i64 hops, .int .i64 cls, .int .i64 id, .int .i64 flags, .int .i64 off, .int .i64 label, .string opt, .string body]] W fun e w' => e = .returned (.agg #[.int .i64 y0, .int .i64 y1, .int .u32 y2, .int .u32 y3, .int .i64 y4, .int .i64 y5, .int .i64 y6, .string y7, .string y8, .bool y9]) ∧ Below W.heap.size W w') : Calls Try.prog 68 #[.agg #[.int .i64 v, .string src, .string dst, .int .i64 proto, .int .i64 hops, .int .i64 cls, .int .i64 id, .int .i64 flags, .int .i64 off, .int .i64 label, .string opt, .string body]] w (SaysG w #[.int .i64 y0, .int .i64 y1, .int .u32 y2, .int .u32 y3, .int .i64 y4, .int .i64 y5, .int .i64 y6, .string y7, .string y8, .bool y9] 0) := by
  have H2 := Lib.hid A2
  clear A2
  have H1 := Lib.hid A1
  have HR := Lib.hid (req_yes 81)
  clear A1
  have hmf := make_func
  have hN := PB.new w #[.int .i64 v, .string src, .string dst, .int .i64 proto, .int .i64 hops, .int .i64 cls, .int .i64 id, .int .i64 flags, .int .i64 off, .int .i64 label, .string opt, .string body]
  go_enter_defers Try.func68, Try.ntmps68
  go_wp2_with fail
  refine (H1.out _).mono ?_
  rintro e w1 ⟨rfl, hq⟩
  have h1 := hN.next hq
  clear hq hN
  obtain ⟨⟨c0, c1, c2, c3, c4, c5, c6, c7, c8, c9, c10, c11⟩, ⟨g0, g1, g2, g3, g4, g5, g6, g7, g8, g9⟩⟩ := h1.two.cells
  have d0 := h1.e.cell 0
  have x0 := h1.two.g.frozen
  have x1 := h1.e.frozen 0
  go_wp2_with fail
  refine (HR.out _).mono ?_
  rintro e w2 ⟨rfl, rfl⟩
  go_wp2_with fail
  refine (H2.out _).mono ?_
  rintro e w3 ⟨rfl, hq⟩
  have h3 := h1.next hq
  clear hq h1
  clear c0 c1 c2 c3 c4 c5 c6 c7 c8 c9 c10 c11 g0 g1 g2 g3 g4 g5 g6 g7 g8 g9 d0 x0 x1
  obtain ⟨⟨c0, c1, c2, c3, c4, c5, c6, c7, c8, c9, c10, c11⟩, ⟨g0, g1, g2, g3, g4, g5, g6, g7, g8, g9⟩⟩ := h3.two.cells
  have d0 := h3.e.cell 0
  have x0 := h3.two.g.frozen
  have x1 := h3.e.frozen 0
  go_wp2_with fail
  exact doorP_ret w _ _ rfl rfl ((set10 h3.two.g (.int .i64 y0) (.int .i64 y1) (.int .u32 y2) (.int .u32 y3) (.int .i64 y4) (.int .i64 y5) (.int .i64 y6) (.string y7) (.string y8) (.bool y9)).other (by omega) 0 (.int .i64 0)) ((other10 h3.e (by omega) (.int .i64 y0) (.int .i64 y1) (.int .u32 y2) (.int .u32 y3) (.int .i64 y4) (.int .i64 y5) (.int .i64 y6) (.string y7) (.string y8) (.bool y9)).put 0 (.int .i64 0)) ((below10 h3.two.below (by show _ ≤ w.heap.size + 1; omega) (.int .i64 y0) (.int .i64 y1) (.int .u32 y2) (.int .u32 y3) (.int .i64 y4) (.int .i64 y5) (.int .i64 y6) (.string y7) (.string y8) (.bool y9)).setCell (by show _ ≤ w.heap.size + 1 + 1; omega) _)
set_option maxRecDepth 100000 in
set_option maxHeartbeats 3200000 in
theorem parseS_udp_bad (v : Int) (src dst : ByteArray) (proto hops cls id flags off label : Int) (opt body : ByteArray) (w : World) (n : Int) (h6 : (proto == 6) = false) (A1 : ∀ W, Calls Try.prog 44 #[.agg #[.int .i64 v, .string src, .string dst, .int .i64 proto, .int .i64 hops, .int .i64 cls, .int .i64 id, .int .i64 flags, .int .i64 off, .int .i64 label, .string opt, .string body]] W fun e w' => e = .returned (.bool true) ∧ Below W.heap.size W w') (A2 : ∀ W, Calls Try.prog 106 #[.agg #[.int .i64 v, .string src, .string dst, .int .i64 proto, .int .i64 hops, .int .i64 cls, .int .i64 id, .int .i64 flags, .int .i64 off, .int .i64 label, .string opt, .string body]] W (PanicsF W n)) : Calls Try.prog 68 #[.agg #[.int .i64 v, .string src, .string dst, .int .i64 proto, .int .i64 hops, .int .i64 cls, .int .i64 id, .int .i64 flags, .int .i64 off, .int .i64 label, .string opt, .string body]] w (SaysG w #[.int .i64 0, .int .i64 0, .int .u32 0, .int .u32 0, .int .i64 0, .int .i64 0, .int .i64 0, .string ⟨#[]⟩, .string ⟨#[]⟩, .bool false] n) := by
  have H2 := Lib.hid A2
  clear A2
  have H1 := Lib.hid A1
  have HR := Lib.hid (req_yes 81)
  clear A1
  have hmf := make_func
  have hN := PB.new w #[.int .i64 v, .string src, .string dst, .int .i64 proto, .int .i64 hops, .int .i64 cls, .int .i64 id, .int .i64 flags, .int .i64 off, .int .i64 label, .string opt, .string body]
  go_enter_defers Try.func68, Try.ntmps68
  go_wp2_with fail
  refine (H1.out _).mono ?_
  rintro e w1 ⟨rfl, hq⟩
  have h1 := hN.next hq
  clear hq hN
  obtain ⟨⟨c0, c1, c2, c3, c4, c5, c6, c7, c8, c9, c10, c11⟩, ⟨g0, g1, g2, g3, g4, g5, g6, g7, g8, g9⟩⟩ := h1.two.cells
  have d0 := h1.e.cell 0
  have x0 := h1.two.g.frozen
  have x1 := h1.e.frozen 0
  go_wp2_with fail
  refine (HR.out _).mono ?_
  rintro e w2 ⟨rfl, rfl⟩
  go_wp2_with fail
  refine (H2.out _).mono ?_
  rintro e w3 ⟨rfl, hq⟩
  have h3 := h1.next hq
  exact doorP_panic w _ _ n rfl rfl h3
set_option maxRecDepth 100000 in
set_option maxHeartbeats 3200000 in
theorem parseS_udp_good (v : Int) (src dst : ByteArray) (proto hops cls id flags off label : Int) (opt body : ByteArray) (w : World) (h6 : (proto == 6) = false) (A1 : ∀ W, Calls Try.prog 44 #[.agg #[.int .i64 v, .string src, .string dst, .int .i64 proto, .int .i64 hops, .int .i64 cls, .int .i64 id, .int .i64 flags, .int .i64 off, .int .i64 label, .string opt, .string body]] W fun e w' => e = .returned (.bool true) ∧ Below W.heap.size W w') {y0 y1 y2 y3 y4 y5 y6 : Int} {y7 y8 : ByteArray} {y9 : Bool} (A2 : ∀ W, Calls Try.prog 106 #[.agg #[.int .i64 v, .string src, .string dst, .int .i64 proto, .int .i64 hops, .int .i64 cls, .int .i64 id, .int .i64 flags, .int .i64 off, .int .i64 label, .string opt, .string body]] W fun e w' => e = .returned (.agg #[.int .i64 y0, .int .i64 y1, .int .u32 y2, .int .u32 y3, .int .i64 y4, .int .i64 y5, .int .i64 y6, .string y7, .string y8, .bool y9]) ∧ Below W.heap.size W w') : Calls Try.prog 68 #[.agg #[.int .i64 v, .string src, .string dst, .int .i64 proto, .int .i64 hops, .int .i64 cls, .int .i64 id, .int .i64 flags, .int .i64 off, .int .i64 label, .string opt, .string body]] w (SaysG w #[.int .i64 y0, .int .i64 y1, .int .u32 y2, .int .u32 y3, .int .i64 y4, .int .i64 y5, .int .i64 y6, .string y7, .string y8, .bool y9] 0) := by
  have H2 := Lib.hid A2
  clear A2
  have H1 := Lib.hid A1
  have HR := Lib.hid (req_yes 81)
  clear A1
  have hmf := make_func
  have hN := PB.new w #[.int .i64 v, .string src, .string dst, .int .i64 proto, .int .i64 hops, .int .i64 cls, .int .i64 id, .int .i64 flags, .int .i64 off, .int .i64 label, .string opt, .string body]
  go_enter_defers Try.func68, Try.ntmps68
  go_wp2_with fail
  refine (H1.out _).mono ?_
  rintro e w1 ⟨rfl, hq⟩
  have h1 := hN.next hq
  clear hq hN
  obtain ⟨⟨c0, c1, c2, c3, c4, c5, c6, c7, c8, c9, c10, c11⟩, ⟨g0, g1, g2, g3, g4, g5, g6, g7, g8, g9⟩⟩ := h1.two.cells
  have d0 := h1.e.cell 0
  have x0 := h1.two.g.frozen
  have x1 := h1.e.frozen 0
  go_wp2_with fail
  refine (HR.out _).mono ?_
  rintro e w2 ⟨rfl, rfl⟩
  go_wp2_with fail
  refine (H2.out _).mono ?_
  rintro e w3 ⟨rfl, hq⟩
  have h3 := h1.next hq
  clear hq h1
  clear c0 c1 c2 c3 c4 c5 c6 c7 c8 c9 c10 c11 g0 g1 g2 g3 g4 g5 g6 g7 g8 g9 d0 x0 x1
  obtain ⟨⟨c0, c1, c2, c3, c4, c5, c6, c7, c8, c9, c10, c11⟩, ⟨g0, g1, g2, g3, g4, g5, g6, g7, g8, g9⟩⟩ := h3.two.cells
  have d0 := h3.e.cell 0
  have x0 := h3.two.g.frozen
  have x1 := h3.e.frozen 0
  go_wp2_with fail
  exact doorP_ret w _ _ rfl rfl ((set10 h3.two.g (.int .i64 y0) (.int .i64 y1) (.int .u32 y2) (.int .u32 y3) (.int .i64 y4) (.int .i64 y5) (.int .i64 y6) (.string y7) (.string y8) (.bool y9)).other (by omega) 0 (.int .i64 0)) ((other10 h3.e (by omega) (.int .i64 y0) (.int .i64 y1) (.int .u32 y2) (.int .u32 y3) (.int .i64 y4) (.int .i64 y5) (.int .i64 y6) (.string y7) (.string y8) (.bool y9)).put 0 (.int .i64 0)) ((below10 h3.two.below (by show _ ≤ w.heap.size + 1; omega) (.int .i64 y0) (.int .i64 y1) (.int .u32 y2) (.int .u32 y3) (.int .i64 y4) (.int .i64 y5) (.int .i64 y6) (.string y7) (.string y8) (.bool y9)).setCell (by show _ ≤ w.heap.size + 1 + 1; omega) _)
/-- What Parse of segments answers. -/
def segPE (p : Pk) : Int := if canB p = true then (if p.proto = 6 then tcpE p else udpE p) else 81
def segPG (p : Pk) : Sg := if segPE p = 0 then (if p.proto = 6 then tcpG p.body else udpG p) else .zero
theorem sumdS_any (p : Pk) (W : World) (hc : canB p = true) (h : atV p.proto + 2 ≤ p.body.size) (hb : p.body.size ≤ 65535) :
    Calls Try.prog 46 #[.agg #[.int .i64 p.v, .string p.src, .string p.dst, .int .i64 p.proto, .int .i64 p.hops, .int .i64 p.cls, .int .i64 p.id, .int .i64 p.flags, .int .i64 p.off, .int .i64 p.label, .string p.opt, .string p.body], .string p.body] W fun e w' => e = .returned (.string (sumdS p p.body)) ∧ Below W.heap.size W w' := by
  obtain ⟨h1, h2, _, _⟩ := canB_iff.1 hc
  have hp : 0 ≤ p.proto ∧ p.proto ≤ 255 := by omega
  obtain ⟨v, src, dst, proto, hops, cls, id, flags, off, label, opt, body⟩ := p
  simp only at *
  rcases h1 with ⟨rfl, h3, h4⟩ | ⟨rfl, h3, h4⟩
  · refine segSummed_any 4 src dst proto hops cls id flags off label opt body body (src ++ dst ++ bs 0 1 ++ bs proto 1 ++ bs body.size 2) W hb ?_ h fun W' => pseudo_4 src dst proto hops cls id flags off label opt body body.size W' h3 h4 hp (by omega)
    simp only [ByteArray.size_append, bs_size]; omega
  · refine segSummed_any 6 src dst proto hops cls id flags off label opt body body (src ++ dst ++ bs body.size 4 ++ bs 0 3 ++ bs proto 1) W hb ?_ h fun W' => pseudo_6 src dst proto hops cls id flags off label opt body body.size W' h3 h4 hp (by omega)
    simp only [ByteArray.size_append, bs_size]; omega
theorem parseTcp_any (p : Pk) (w : World) (hc : canB p = true) (h6 : p.proto = 6) (hb : p.body.size ≤ 65535) :
    (tcpE p ≠ 0 ∧ Calls Try.prog 105 #[.agg #[.int .i64 p.v, .string p.src, .string p.dst, .int .i64 p.proto, .int .i64 p.hops, .int .i64 p.cls, .int .i64 p.id, .int .i64 p.flags, .int .i64 p.off, .int .i64 p.label, .string p.opt, .string p.body]] w (PanicsF w (tcpE p))) ∨ (tcpE p = 0 ∧ Calls Try.prog 105 #[.agg #[.int .i64 p.v, .string p.src, .string p.dst, .int .i64 p.proto, .int .i64 p.hops, .int .i64 p.cls, .int .i64 p.id, .int .i64 p.flags, .int .i64 p.off, .int .i64 p.label, .string p.opt, .string p.body]] w fun e w' => e = .returned (.agg (sgL (tcpG p.body))) ∧ Below w.heap.size w w') := by
  by_cases h1 : p.body.size < 20
  · have e : tcpE p = 80 := by rw [tcpE, if_pos (.inl h1)]
    rw [e]
    exact .inl ⟨by decide, tcp_few _ _ _ _ _ _ _ _ _ _ _ _ w h1⟩
  · have hS := fun W => sumdS_any p W hc (by rw [h6]; show 16 + 2 ≤ _; omega) hb
    by_cases h2 : p.body.size < tcpN p.body
    · have e : tcpE p = 80 := by rw [tcpE, if_pos (.inr h2)]
      rw [e]
      exact .inl ⟨by decide, tcp_less _ _ _ _ _ _ _ _ _ _ _ _ w _ _ _ rfl rfl rfl (by omega) hb h2⟩
    · have h12 : ¬ (p.body.size < 20 ∨ p.body.size < tcpN p.body) := by omega
      by_cases h3 : tcpN p.body < 20
      · have e : tcpE p = 81 := by rw [tcpE, if_neg h12, if_pos (.inl h3)]
        rw [e]
        exact .inl ⟨by decide, tcp_form1 _ _ _ _ _ _ _ _ _ _ _ _ w _ _ _ rfl rfl rfl (by omega) hb (by unfold tcpN at h2; omega) (by unfold tcpN at h3; omega)⟩
      · by_cases h4 : nat p.body 12 1 % 16 = 0
        · have h34 : ¬ (tcpN p.body < 20 ∨ nat p.body 12 1 % 16 ≠ 0) := by omega
          by_cases h5 : sumdS p p.body = p.body
          · have e : tcpE p = 0 := by rw [tcpE, if_neg h12, if_neg h34, if_pos h5]
            rw [e]
            rw [h5] at hS
            exact .inr ⟨rfl, tcp_good _ _ _ _ _ _ _ _ _ _ _ _ w _ _ _ rfl rfl h4 (by omega) hb (by unfold tcpN at h2; omega) (by unfold tcpN at h3; omega) rfl hS⟩
          · have e : tcpE p = 82 := by rw [tcpE, if_neg h12, if_neg h34, if_neg h5]
            rw [e]
            exact .inl ⟨by decide, tcp_sum _ _ _ _ _ _ _ _ _ _ _ _ w _ _ _ rfl rfl h4 (by omega) hb (by unfold tcpN at h2; omega) (by unfold tcpN at h3; omega) rfl _ hS h5⟩
        · have e : tcpE p = 81 := by rw [tcpE, if_neg h12, if_pos (.inr h4)]
          rw [e]
          exact .inl ⟨by decide, tcp_form2 _ _ _ _ _ _ _ _ _ _ _ _ w _ _ _ rfl rfl rfl (by omega) hb (by unfold tcpN at h2; omega) (by unfold tcpN at h3; omega) h4⟩
theorem parseUdp_any (p : Pk) (w : World) (hc : canB p = true) (h6 : p.proto ≠ 6) (hb : p.body.size ≤ 65535) :
    (udpE p ≠ 0 ∧ Calls Try.prog 106 #[.agg #[.int .i64 p.v, .string p.src, .string p.dst, .int .i64 p.proto, .int .i64 p.hops, .int .i64 p.cls, .int .i64 p.id, .int .i64 p.flags, .int .i64 p.off, .int .i64 p.label, .string p.opt, .string p.body]] w (PanicsF w (udpE p))) ∨ (udpE p = 0 ∧ Calls Try.prog 106 #[.agg #[.int .i64 p.v, .string p.src, .string p.dst, .int .i64 p.proto, .int .i64 p.hops, .int .i64 p.cls, .int .i64 p.id, .int .i64 p.flags, .int .i64 p.off, .int .i64 p.label, .string p.opt, .string p.body]] w fun e w' => e = .returned (.agg (sgL (udpG p))) ∧ Below w.heap.size w w') := by
  by_cases h1 : p.body.size < 8
  · have e : udpE p = 80 := by rw [udpE, if_pos h1]
    rw [e]
    exact .inl ⟨by decide, udp_few _ _ _ _ _ _ _ _ _ _ _ _ w h1⟩
  · have hS := fun W => sumdS_any p W hc (by rw [atV, if_neg h6]; omega) hb
    by_cases h2 : nat p.body 4 2 = p.body.size
    · have h2' : ¬ nat p.body 4 2 ≠ p.body.size := by omega
      by_cases hv : p.v = 4
      · by_cases hn : nat p.body 6 2 = 0
        · have hN : noS p = true := by rw [noS, hv, hn]; rfl
          have e : udpE p = 0 := by rw [udpE, if_neg h1, if_neg h2', if_pos (.inl hN)]
          rw [e]
          refine .inr ⟨rfl, ?_⟩
          rw [udpG, hN, hv]
          exact udp_nosum _ _ _ _ _ _ _ _ _ _ _ w _ _ rfl rfl (by omega) hb h2 hn
        · have hN : noS p = false := by
            rw [noS]; have : (nat p.body 6 2 == 0) = false := by simpa using hn
            rw [this, Bool.and_false]
          by_cases h5 : sumdS p p.body = p.body
          · have e : udpE p = 0 := by rw [udpE, if_neg h1, if_neg h2', if_pos (.inr h5)]
            rw [e]
            rw [h5, hv] at hS
            refine .inr ⟨rfl, ?_⟩
            rw [udpG, hN, hv]
            exact udp_good_4 _ _ _ _ _ _ _ _ _ _ _ w _ _ rfl rfl (by omega) hb h2 hn hS
          · have e : udpE p = 82 := by rw [udpE, if_neg h1, if_neg h2', if_neg (by rw [hN]; simpa using h5)]
            rw [e]
            rw [hv] at hS ⊢
            exact .inl ⟨by decide, udp_sum_4 _ _ _ _ _ _ _ _ _ _ _ w _ _ rfl rfl (by omega) hb h2 hn _ hS h5⟩
      · have hvb : (p.v == 4) = false := by simpa using hv
        have hN : noS p = false := by rw [noS, hvb, Bool.false_and]
        by_cases h5 : sumdS p p.body = p.body
        · have e : udpE p = 0 := by rw [udpE, if_neg h1, if_neg h2', if_pos (.inr h5)]
          rw [e]
          rw [h5] at hS
          refine .inr ⟨rfl, ?_⟩
          rw [udpG, hN]
          exact udp_good_n _ _ _ _ _ _ _ _ _ _ _ _ w _ _ rfl rfl (by omega) hb hvb h2 hS
        · have e : udpE p = 82 := by rw [udpE, if_neg h1, if_neg h2', if_neg (by rw [hN]; simpa using h5)]
          rw [e]
          exact .inl ⟨by decide, udp_sum_n _ _ _ _ _ _ _ _ _ _ _ _ w _ _ rfl rfl (by omega) hb hvb h2 _ hS h5⟩
    · have e : udpE p = 81 := by rw [udpE, if_neg h1, if_pos h2]
      rw [e]
      by_cases hv : p.v = 4
      · rw [hv]
        exact .inl ⟨by decide, udp_form_4 _ _ _ _ _ _ _ _ _ _ _ w _ _ rfl rfl (by omega) hb h2⟩
      · exact .inl ⟨by decide, udp_form_n _ _ _ _ _ _ _ _ _ _ _ _ w _ _ rfl rfl (by omega) hb (by simpa using hv) h2⟩
theorem parseS_any (p : Pk) (w : World) (hb : p.body.size ≤ 65535) : Calls Try.prog 68 #[.agg #[.int .i64 p.v, .string p.src, .string p.dst, .int .i64 p.proto, .int .i64 p.hops, .int .i64 p.cls, .int .i64 p.id, .int .i64 p.flags, .int .i64 p.off, .int .i64 p.label, .string p.opt, .string p.body]] w (SaysG w (sgL (segPG p)) (segPE p)) := by
  have A := fun W => can_any p W
  by_cases hc : canB p = true
  · rw [hc] at A
    by_cases h6 : p.proto = 6
    · have hE : segPE p = tcpE p := by rw [segPE, if_pos hc, if_pos h6]
      by_cases h0 : tcpE p = 0
      · have hG : segPG p = tcpG p.body := by rw [segPG, hE, if_pos h0, if_pos h6]
        rw [hE, hG, h0]
        refine parseS_tcp_good _ _ _ _ _ _ _ _ _ _ _ _ w (by simpa using h6) A fun W => ?_
        rcases parseTcp_any p W hc h6 hb with ⟨g, _⟩ | ⟨_, g⟩
        · exact absurd h0 g
        · exact g
      · have hG : segPG p = .zero := by rw [segPG, hE, if_neg h0]
        rw [hE, hG]
        refine parseS_tcp_bad _ _ _ _ _ _ _ _ _ _ _ _ w _ (by simpa using h6) A fun W => ?_
        rcases parseTcp_any p W hc h6 hb with ⟨_, g⟩ | ⟨g, _⟩
        · exact g
        · exact absurd g h0
    · have hE : segPE p = udpE p := by rw [segPE, if_pos hc, if_neg h6]
      by_cases h0 : udpE p = 0
      · have hG : segPG p = udpG p := by rw [segPG, hE, if_pos h0, if_neg h6]
        rw [hE, hG, h0]
        refine parseS_udp_good _ _ _ _ _ _ _ _ _ _ _ _ w (by simpa using h6) A fun W => ?_
        rcases parseUdp_any p W hc h6 hb with ⟨g, _⟩ | ⟨_, g⟩
        · exact absurd h0 g
        · exact g
      · have hG : segPG p = .zero := by rw [segPG, hE, if_neg h0]
        rw [hE, hG]
        refine parseS_udp_bad _ _ _ _ _ _ _ _ _ _ _ _ w _ (by simpa using h6) A fun W => ?_
        rcases parseUdp_any p W hc h6 hb with ⟨_, g⟩ | ⟨g, _⟩
        · exact g
        · exact absurd g h0
  · have hcf : canB p = false := by simpa using hc
    rw [hcf] at A
    have hE : segPE p = 81 := by rw [segPE, if_neg hc]
    have hG : segPG p = .zero := by rw [segPG, hE, if_neg (by decide)]
    rw [hE, hG]
    exact parseS_cannot _ _ _ _ _ _ _ _ _ _ _ _ w A
end Go.Proofs.Ytalkpllmcigjnaa
