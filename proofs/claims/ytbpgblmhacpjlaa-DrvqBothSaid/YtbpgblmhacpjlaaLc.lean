/-
  The driver's calls, on one of many things; no condition.
-/
import Derived.Test.YtbpgblmhacpjlaaLd
import Derived.Test.YtbpgblmhacpjlaaNm
namespace Go.Proofs.Ytbpgblmhacpjlaa
open Go.RowKit

/-- a memory's clone -/
def MadeM' (xs : List UInt8) (w : World) (e : Ending) (w' : World) : Prop := ∃ g F, e = .returned (.pointer (some ⟨g, 0, none⟩)) ∧ (memA g xs).P F w' ∧ (∀ k, F k → w.heap.size ≤ k) ∧ Below w.heap.size w w'
theorem memA_clone {F : Nat → Prop} {w : World} {g : Nat} {xs : List UInt8} (h : (memA g xs).P F w) : Calls Try.prog 29 #[.pointer (some ⟨g, 0, none⟩)] w (MadeM' xs w) := by
  obtain ⟨gb, lv, hM, hF⟩ := h
  refine (clone_m hM).mono fun e w' hh => ?_
  obtain ⟨g2, gb2, lv2, he, hM2, hb⟩ := hh
  refine ⟨g2, fun k => k = g2 ∨ k = gb2 ∨ lv2.ownBlock = some k, he, ⟨gb2, lv2, ?_, fun _ => Iff.rfl⟩, fun k hk => ?_, hb⟩
  · obtain ⟨ag, lg, old, r⟩ := hM2
    exact ⟨ag, lg, old, Nat.zero_le _, Nat.zero_le _, r.blk, r.row, own_base r.log (Nat.zero_le _), r.len, r.pos, r.most, r.full⟩
  · obtain ⟨a, b, c⟩ := hM2.ge
    rcases hk with rfl | rfl | e
    · exact a
    · exact b
    · exact c k e
section
variable {F0 : Nat → Prop} {w0 w w' : World} {l : List As}
theorem St.aty (h : St F0 w0 (stars l) w) (i : Nat) (hi : i < l.length) : ∃ F, l[i].P F w ∧ (∀ k, F k → F0 k ∨ w0.heap.size ≤ k) ∧ (∃ F2, (stars (l.eraseIdx i)).P F2 w ∧ ∀ k, F k → ¬ F2 k) ∧ ∀ (A' : As) (w' : World), St F w A' w' → St F0 w0 (stars (l.set i A')) w' := by
  obtain ⟨F, hA, hF, hr, hb⟩ := St.cally (h.mono (fun F e => stars_pull l i hi F e))
  exact ⟨F, hA, hF, hr, fun A' w' hs => (hb A' w' hs).mono (fun F e => stars_back l i hi A' F e)⟩
/-- no part's block is one of what is called -/
def Off (F0 : Nat → Prop) (w0 w : World) (l : List As) (i : Nat) (A : Option Addr) : Prop :=
  ∀ F F2 : Nat → Prop, (∀ k, F k → F0 k ∨ w0.heap.size ≤ k) → (stars (l.eraseIdx i)).P F2 w → (∀ k, F k → ¬ F2 k) → ∀ ad : Addr, A = some ad → ¬ F ad.block
theorem off_none {i : Nat} : Off F0 w0 w l i none := fun _ _ _ _ _ ad e => by cases e
theorem off_box {i m K o : Nat} {t : TypeId} {cs : Array Value} (hm : m < (l.eraseIdx i).length) (he : (l.eraseIdx i)[m] = box K t cs) : Off F0 w0 w l i (some ⟨K, o, none⟩) := fun F F2 _ h2 hd ad e hF => by
  injection e with e
  subst e
  exact hd _ hF (stars_has _ m hm he h2)
theorem off_row {i m n c : Nat} {e : TypeId} {size : Nat} {A : Option Addr} {xs : List Value} (hm : m < (l.eraseIdx i).length) (he : (l.eraseIdx i)[m] = rowA e size (.slice A n c) n xs) (hA : ∀ ad, A = some ad → (Value.slice A n c).ownBlock = some ad.block) : Off F0 w0 w l i A := fun _ _ _ h2 hd ad e' hF =>
  hd _ hF (stars_hasRow _ m hm he (hA ad e') h2)
theorem off_old {i : Nat} {A : Option Addr} (hA : ∀ ad : Addr, A = some ad → ad.block < w0.heap.size) : Off (fun _ => False) w0 w l i A := fun F _ hF _ _ ad e hFa => by
  rcases hF _ hFa with x | x
  · exact x
  · have := hA ad e; omega
variable {g gq : Nat} {xs : List UInt8} {q : Vs}
theorem St.post (h : St F0 w0 (stars l) w) (i : Nat) (hi : i < l.length) (he : l[i] = drvP g gq xs q) (hq : q.Ok xs.length) (hs : q.since ≤ 1099511627776) {ps : List IPt} {A : Option Addr} {cap : Nat} (hP : PsAt A ps w) (ho : Off F0 w0 w l i A) (hl : ps.length ≤ 1099511627776)
    (hN : ∀ j (h : j < ps.length), ps[j].n < 9223372036854775808) (r : Int × Int × List UInt8 × Vs) (hr : postC xs q ps = r) :
    Calls Try.prog 11 #[.pointer (some ⟨gq, 0, none⟩), .slice A ps.length cap] w fun e w' => e = .returned (.tuple #[.int .i64 r.1, .int .i64 r.2.1]) ∧ St F0 w0 (stars (l.set i (drvP g gq r.2.2.1 r.2.2.2))) w' := by
  obtain ⟨F, hA, hF, ⟨F2, h2, hd⟩, hb⟩ := h.aty i hi
  rw [he] at hA
  exact (post_v hA hq hs hP (ho F F2 hF h2 hd) hl hN r hr).mono fun _ _ ⟨h1, h2⟩ => ⟨h1, hb _ _ h2⟩
theorem St.reap (h : St F0 w0 (stars l) w) (i : Nat) (hi : i < l.length) (he : l[i] = drvP g gq xs q) (hq : q.Ok xs.length) (r : Int × Int × Bool × Int × Vs) (hr : reapC xs q = r) :
    Calls Try.prog 17 #[.pointer (some ⟨gq, 0, none⟩)] w fun e w' => e = .returned (.tuple #[.int .i64 r.1, .int .i64 r.2.1, .bool r.2.2.1, .int .i64 r.2.2.2.1]) ∧ St F0 w0 (stars (l.set i (drvP g gq xs r.2.2.2.2))) w' := by
  obtain ⟨F, hA, hb⟩ := h.at i hi
  rw [he] at hA
  exact (reap_v hA hq r hr).mono fun _ _ ⟨h1, h2⟩ => ⟨h1, hb _ _ h2⟩
theorem drvP_parts {F : Nat → Prop} (h : (drvP g gq xs q).P F w) : (∃ F1, (memA g xs).P F1 w) ∧ ∃ F2, (drvA gq g q).P F2 w := by
  obtain ⟨F1, F2, -, -, a, F3, F4, -, -, b, -⟩ := h
  exact ⟨⟨F1, a⟩, F3, b⟩
theorem St.free (h : St F0 w0 (stars l) w) (i : Nat) (hi : i < l.length) (he : l[i] = drvP g gq xs q) :
    Calls Try.prog 12 #[.pointer (some ⟨gq, 0, none⟩)] w fun e w' => e = .returned (.int .i64 (q.free : Int)) ∧ w = w' := by
  obtain ⟨F, hA⟩ := h.get i hi
  rw [he] at hA
  obtain ⟨-, F2, hD⟩ := drvP_parts hA
  exact dfree_v hD
theorem St.back (h : St F0 w0 (stars l) w) (i : Nat) (hi : i < l.length) (he : l[i] = drvP g gq xs q) :
    Calls Try.prog 24 #[.pointer (some ⟨gq, 0, none⟩)] w fun e w' => e = .returned (.agg #[.int .i64 (q.ba : Int), .bool q.bw]) ∧ Below w.heap.size w w' := by
  obtain ⟨F, hA⟩ := h.get i hi
  rw [he] at hA
  obtain ⟨-, F2, hD⟩ := drvP_parts hA
  exact dback_v hD
theorem St.held (h : St F0 w0 (stars l) w) (i : Nat) (hi : i < l.length) (he : l[i] = drvP g gq xs q) (hq : q.Ok xs.length) : Calls Try.prog 19 #[.pointer (some ⟨gq, 0, none⟩)] w (HeldP q.hs w) := by
  obtain ⟨F, hA⟩ := h.get i hi
  rw [he] at hA
  obtain ⟨-, F2, hD⟩ := drvP_parts hA
  exact dheld_v hD (by have := hq.hl; have := hq.s2; omega)
theorem St.image (h : St F0 w0 (stars l) w) (i : Nat) (hi : i < l.length) (he : l[i] = drvP g gq xs q) :
    Calls Try.prog 23 #[.pointer (some ⟨g, 0, none⟩)] w fun e w' => e = .returned (.string ⟨xs.toArray⟩) ∧ w = w' := by
  obtain ⟨F, hA⟩ := h.get i hi
  rw [he] at hA
  obtain ⟨⟨F1, hM⟩, -⟩ := drvP_parts hA
  exact memA_image hM
theorem St.write (h : St F0 w0 (stars l) w) (i : Nat) (hi : i < l.length) (he : l[i] = drvP g gq xs q) (a : Int) (s : ByteArray) (hs : s.size ≤ maxLen) :
    Calls Try.prog 27 #[.pointer (some ⟨g, 0, none⟩), .int .i64 a, .string s] w fun e w' => e = .returned (.int .i64 (wrE xs a s)) ∧ St F0 w0 (stars (l.set i (drvP g gq (wrX xs a s) q))) w' := by
  obtain ⟨F, hA, hb⟩ := h.at i hi
  rw [he] at hA
  obtain ⟨F1, hM, hb1⟩ := (St.start hA).at 0 (by simp)
  exact (memA_write hM a s hs).mono fun _ _ ⟨h1, h2⟩ => ⟨h1, hb _ _ (hb1 _ _ h2)⟩
theorem St.read (h : St F0 w0 (stars l) w) (i : Nat) (hi : i < l.length) (he : l[i] = drvP g gq xs q) (a n : Nat) (hn : a + n ≤ xs.length) :
    Calls Try.prog 46 #[.pointer (some ⟨g, 0, none⟩), .int .i64 (a : Int), .int .i64 (n : Int)] w fun e w' => e = .returned (.tuple #[.string ⟨((xs.drop a).take n).toArray⟩, .int .i64 0]) ∧ St F0 w0 (stars (l.set i (drvP g gq xs q))) w' := by
  obtain ⟨F, hA, hb⟩ := h.at i hi
  rw [he] at hA
  obtain ⟨F1, hM, hb1⟩ := (St.start hA).at 0 (by simp)
  exact (memA_read hM a n hn).mono fun _ _ ⟨h1, h2⟩ => ⟨h1, hb _ _ (hb1 _ _ h2)⟩
theorem St.newBad (h : St F0 w0 (stars l) w) (i : Nat) (hi : i < l.length) (he : l[i] = drvP g gq xs q) (ring size drv dev : Int) (k : layB xs ring size drv dev = false) :
    Calls Try.prog 8 #[.pointer (some ⟨g, 0, none⟩), .agg #[.int .i64 ring, .int .i64 size, .int .i64 drv, .int .i64 dev]] w fun e w' => e = .returned (.tuple #[.pointer none, .int .i64 140]) ∧ St F0 w0 (stars (l.set i (drvP g gq xs q))) w' := by
  obtain ⟨F, hA, hb⟩ := h.at i hi
  rw [he] at hA
  obtain ⟨F1, hM, hb1⟩ := (St.start hA).at 0 (by simp)
  exact (dnew_bad hM ring size drv dev k).mono fun _ _ ⟨h1, h2⟩ => ⟨h1, hb _ _ (hb1 _ _ h2)⟩
theorem St.clone (h : St F0 w0 (stars l) w) (i : Nat) (hi : i < l.length) (he : l[i] = drvP g gq xs q) : Calls Try.prog 29 #[.pointer (some ⟨g, 0, none⟩)] w (MadeM' xs w) := by
  obtain ⟨F, hA⟩ := h.get i hi
  rw [he] at hA
  obtain ⟨⟨F1, hM⟩, -⟩ := drvP_parts hA
  exact memA_clone hM
theorem St.cloneQ (h : St F0 w0 (stars l) w) (i : Nat) (hi : i < l.length) (he : l[i] = drvP g gq xs q) (g2 : Nat) : Calls Try.prog 30 #[.pointer (some ⟨gq, 0, none⟩), .pointer (some ⟨g2, 0, none⟩)] w (CloneD g2 q w) := by
  obtain ⟨F, hA⟩ := h.get i hi
  rw [he] at hA
  obtain ⟨-, F2, hD⟩ := drvP_parts hA
  exact dclone_v hD
end
end Go.Proofs.Ytbpgblmhacpjlaa
