/-
  The document's calls; what the walk holds.
-/
import Derived.Test.YtbpgblmhacpjlaaGreatZn
import Derived.Test.YtbpgblmhacpjlaaGreatZq
import Derived.Test.YtbpgblmhacpjlaaGreatZp
import Derived.Test.YtbpgblmhacpjlaaGreatZr
import Derived.Test.YtbpgblmhacpjlaaGreatSRo3
import Derived.Test.YtbpgblmhacpjlaaGreatSTt
import Derived.Test.YtbpgblmhacpjlaaGreatZo
import Derived.Test.YtbpgblmhacpjlaaGreatSRt
import Derived.Test.YtbpgblmhacpjlaaGreatZs
import Derived.Test.YtbpgblmhacpjlaaGreatZu
namespace Go.Proofs.YtbpgblmhacpjlaaGreat
open Go.RowKit

theorem pair_fst {F : Nat → Prop} {w : World} {A : As} (h : (stars [A]).P F w) : A.P F w := by
  obtain ⟨F1, F2, h, d, a, c⟩ := h
  have e : F1 = F := funext fun k => propext ⟨fun x => (h k).2 (.inl x), fun x => by rcases (h k).1 x with y | y; exact y; exact (c k y).elim⟩
  exact e ▸ a
theorem rmemA_blk {F : Nat → Prop} {w : World} {gk n : Nat} {xs : List UInt8} (h : (rmemA gk xs n).P F w) : F gk := by
  obtain ⟨lv, lg, -, -, hF⟩ := h
  exact (hF gk).2 (.inl rfl)
section
variable {F0 : Nat → Prop} {w0 w : World} {l : List As} {g gq gk gx n : Nat} {xs : List UInt8} {q : Vs}
theorem St.rq (h : St F0 w0 (stars l) w) (i : Nat) (hi : i < l.length) (he : l[i] = refP gk gx xs n q) : ∃ F2, (refA gx gk q).P F2 w ∧ ¬ F2 gk ∧ w.cell? ⟨gk, 0, none⟩ = some (.string ⟨xs.toArray⟩) ∧ xs.length ≤ 1048576 ∧
    ∀ (q' : Vs) (w' : World), St F2 w (refA gx gk q') w' → St F0 w0 (stars (l.set i (refP gk gx xs n q'))) w' := by
  obtain ⟨F, hA, hb⟩ := h.at i hi
  rw [he] at hA
  obtain ⟨F2, h2, -, ⟨F3, h3, hd⟩, hb2⟩ := (St.start hA).aty 1 (by simp)
  have h3 := pair_fst h3
  refine ⟨F2, h2, fun e => hd _ e (rmemA_blk h3), rmemA_c0 h3, rmemA_len h3, fun q' w' hs => hb _ _ (hb2 _ _ hs)⟩
theorem St.rreap (h : St F0 w0 (stars l) w) (i : Nat) (hi : i < l.length) (he : l[i] = refP gk gx xs n q) (hq : q.Ok xs.length) (r : Int × Int × Bool × Int × Vs) (hr : reapC xs q = r) :
    Calls Tryz.prog 9 #[.pointer (some ⟨gx, 0, none⟩)] w fun e w' => e = .returned (.tuple #[.int .i64 r.1, .int .i64 r.2.1, .bool r.2.2.1, .int .i64 r.2.2.2.1]) ∧ St F0 w0 (stars (l.set i (refP gk gx xs n r.2.2.2.2))) w' := by
  obtain ⟨F2, h2, hF, hc, hx, hb⟩ := h.rq i hi he
  subst hr
  have key : Calls Tryz.prog 9 #[.pointer (some ⟨gx, 0, none⟩)] w (RReapP F2 w gx gk (reapC xs q)) := by
    unfold reapC
    cases hu : usedB (deAt xs (q.ring + 16 * q.ba)).f q.bw
    · exact rreap_none h2 hc hF hq hx hu
    · rw [if_pos rfl]
      by_cases hp : 0 < q.hs.getD (deAt xs (q.ring + 16 * q.ba)).id 0
      · rw [if_pos hp]; exact rreap_ok h2 hc hF hq hx hu hp
      · rw [if_neg hp]
        by_cases hl : q.hs.length ≤ (deAt xs (q.ring + 16 * q.ba)).id
        · exact rreap_far h2 hc hF hq hx hu hl
        · exact rreap_bad h2 hc hF hq hx hu (by omega) (by omega)
  exact key.mono fun _ _ hh => ⟨hh.1, hb _ _ hh.2⟩
theorem St.rtell (h : St F0 w0 (stars l) w) (i : Nat) (hi : i < l.length) (he : l[i] = refP gk gx xs n q) (hq : q.Ok xs.length) :
    Calls Tryz.prog 14 #[.pointer (some ⟨gx, 0, none⟩)] w fun e w' => e = .returned (.bool (tellB xs q)) ∧ St F0 w0 (stars (l.set i (refP gk gx xs n (toldQ q)))) w' := by
  obtain ⟨F2, h2, hF, hc, hx, hb⟩ := h.rq i hi he
  exact (rtell_v h2 hc hF hx hq).mono fun _ _ hh => ⟨hh.1, hb _ _ hh.2⟩
theorem St.rask (h : St F0 w0 (stars l) w) (i : Nat) (hi : i < l.length) (he : l[i] = refP gk gx xs n q) (hn4 : n ≤ 4000) (hq : q.Ok xs.length) (o f : Int) (v : Bool) :
    Calls Tryz.prog 16 #[.pointer (some ⟨gx, 0, none⟩), .agg #[.int .i64 o, .bool v, .int .i64 f]] w fun e w' => e = .returned (.int .i64 (Sp.buE o f)) ∧ St F0 w0 (stars (l.set i (refP gk gx (askX xs q o v f) (n + 1) q))) w' := by
  obtain ⟨F, hA, hb⟩ := h.at i hi
  rw [he] at hA
  exact (rask_v hA hn4 hq o f v).mono fun _ _ hh => ⟨hh.1, hb _ _ hh.2⟩
theorem St.rwrite (h : St F0 w0 (stars l) w) (i : Nat) (hi : i < l.length) (he : l[i] = refP gk gx xs n q) (hn4 : n ≤ 4000) (a : Int) (s : ByteArray) :
    Calls Tryz.prog 12 #[.pointer (some ⟨gk, 0, none⟩), .int .i64 a, .string s] w fun e w' => e = .returned (.int .i64 (wrE xs a s)) ∧ St F0 w0 (stars (l.set i (refP gk gx (wrX xs a s) (n + 1) q))) w' := by
  obtain ⟨F, hA, hb⟩ := h.at i hi
  rw [he] at hA
  obtain ⟨F1, hM, hb1⟩ := (St.start hA).at 0 (by simp)
  exact (rmemA_write hM hn4 a s).mono fun _ _ ⟨h1, h2⟩ => ⟨h1, hb _ _ (hb1 _ _ h2)⟩
theorem St.tell (h : St F0 w0 (stars l) w) (i : Nat) (hi : i < l.length) (he : l[i] = drvP g gq xs q) (hq : q.Ok xs.length) :
    Calls Tryz.prog 13 #[.pointer (some ⟨gq, 0, none⟩)] w fun e w' => e = .returned (.bool (tellB xs q)) ∧ St F0 w0 (stars (l.set i (drvP g gq xs (toldQ q)))) w' := by
  obtain ⟨F, hA, hb⟩ := h.at i hi
  rw [he] at hA
  exact (tell_v hA hq).mono fun _ _ hh => ⟨hh.1, hb _ _ hh.2⟩
theorem St.ask (h : St F0 w0 (stars l) w) (i : Nat) (hi : i < l.length) (he : l[i] = drvP g gq xs q) (hq : q.Ok xs.length) (o f : Int) (v : Bool) :
    Calls Tryz.prog 15 #[.pointer (some ⟨gq, 0, none⟩), .agg #[.int .i64 o, .bool v, .int .i64 f]] w fun e w' => e = .returned (.int .i64 (Sp.buE o f)) ∧ St F0 w0 (stars (l.set i (drvP g gq (askX xs q o v f) q))) w' := by
  obtain ⟨F, hA, hb⟩ := h.at i hi
  rw [he] at hA
  exact (ask_v hA hq o f v).mono fun _ _ hh => ⟨hh.1, hb _ _ hh.2⟩
theorem St.store (h : St F0 w0 (stars l) w) (i : Nat) (hi : i < l.length) (he : l[i] = drvP g gq xs q) (hx : 8 ≤ xs.length) :
    Calls Tryz.prog 19 #[.pointer (some ⟨g, 0, none⟩), .int .i64 0, .int .i64 8, .int .u64 1818584692] w fun e w' => e = .returned (.int .i64 0) ∧ ∃ A, St F0 w0 (stars (l.set i A)) w' := by
  obtain ⟨F, hA, hb⟩ := h.at i hi
  rw [he] at hA
  obtain ⟨F1, hM, hb1⟩ := (St.start hA).at 0 (by simp)
  exact (memA_store hM 0 8 1818584692 (by unfold Word; omega) (by decide) (by omega)).mono fun _ _ ⟨h1, h2⟩ => ⟨h1, _, hb _ _ (hb1 _ _ h2)⟩
/-- how long the document's log is behind Post -/
def postN (xs : List UInt8) (q : Vs) (ps : List IPt) (n : Nat) : Nat := if (postC xs q ps).2.1 = 0 then n + ps.length else n
theorem St.rpost (h : St F0 w0 (stars l) w) (i : Nat) (hi : i < l.length) (he : l[i] = refP gk gx xs n q) (hn4 : n + 64 ≤ 4000) (hq : q.Ok xs.length) (hs : q.since ≤ 1099511627776) {ps : List IPt} {A : Option Addr} {cap : Nat} (hP : PsAt A ps w) (ho : Off F0 w0 w l i A) (hl : ps.length ≤ 1048576)
    (r : Int × Int × List UInt8 × Vs) (hr : postC xs q ps = r) :
    Calls Tryz.prog 7 #[.pointer (some ⟨gx, 0, none⟩), .slice A ps.length cap] w fun e w' => e = .returned (.tuple #[.int .i64 r.1, .int .i64 r.2.1]) ∧ St F0 w0 (stars (l.set i (refP gk gx r.2.2.1 (postN xs q ps n) r.2.2.2))) w' := by
  obtain ⟨F, hA, hF, ⟨F2, h2, hd⟩, hb⟩ := h.aty i hi
  rw [he] at hA
  have hFA := ho F F2 hF h2 hd
  subst hr
  unfold postN postC
  cases hc : chainB xs ps
  · exact (rpost_form hA hP hFA hl hc).mono fun _ _ hh => ⟨hh.1, hb _ _ hh.2⟩
  · rw [if_pos rfl]
    by_cases hf : q.free < ps.length
    · rw [if_pos hf]
      exact (rpost_full hA hP hFA hl hc hq hf).mono fun _ _ hh => ⟨hh.1, hb _ _ hh.2⟩
    · rw [if_neg hf]
      exact (rpost_good hA hP hFA hl hc hq hf hn4 hs).mono fun _ _ hh => ⟨hh.1, hb _ _ hh.2⟩
end
/-- what the script's loop holds behind so many calls -/
structure Iv (B i n : Nat) (xs : List UInt8) (q : Vs) : Prop where
  len : xs.length = B
  ok : q.Ok xs.length
  since : q.since ≤ 64 * i
  few : Few q
  cnt : Cnt n i q
section
variable {B i n : Nat} {xs : List UInt8} {q : Vs}
theorem Iv.other {m : Nat} {ys : List UInt8} (h : Iv B i n xs q) (hy : ys.length = xs.length) (hm : m ≤ n + 1) : Iv B (i + 1) m ys q :=
  ⟨hy.trans h.len, by rw [hy]; exact h.ok, by have := h.since; omega, h.few, h.cnt.other hm rfl⟩
theorem Iv.told (h : Iv B i n xs q) : Iv B (i + 1) n xs (toldQ q) :=
  ⟨h.len, toldQ_ok h.ok, Nat.zero_le _, h.few, h.cnt.other (Nat.le_succ _) rfl⟩
theorem Iv.reap (h : Iv B i n xs q) : Iv B (i + 1) n xs (reapC xs q).2.2.2.2 := by
  unfold reapC
  split
  · split
    · rename_i hp
      exact ⟨h.len, reaped_ok h.ok hp, by have := h.since; show q.since ≤ _; omega, h.few.reap hp, h.cnt.reap h.few hp⟩
    · exact h.other rfl (Nat.le_succ _)
  · exact h.other rfl (Nat.le_succ _)
theorem Iv.post (h : Iv B i n xs q) (ps : List IPt) : Iv B (i + 1) (postN xs q ps n) (postC xs q ps).2.2.1 (postC xs q ps).2.2.2 := by
  unfold postN
  cases hc : chainB xs ps
  · have e : postC xs q ps = (0, 150, xs, q) := by unfold postC; rw [hc]; rfl
    rw [e]
    exact h.other rfl (Nat.le_succ _)
  · obtain ⟨c1, c2⟩ := chain_len hc
    by_cases hf : q.free < ps.length
    · have e : postC xs q ps = (0, 151, xs, q) := by unfold postC; rw [hc, if_pos rfl, if_pos hf]
      rw [e]
      exact h.other rfl (Nat.le_succ _)
    · have e : postC xs q ps = ((leastId q.hs : Int), 0, putN q (ps.map IPt.pt) (leastId q.hs) xs ps.length, q.posted ps.length) := by unfold postC; rw [hc, if_pos rfl, if_neg hf]
      have hr := post_room h.ok c1 hf
      have hfl := free_le h.ok
      have hl := putN_length (l := ps.map IPt.pt) (id := leastId q.hs) h.ok ps.length (by omega)
      rw [e]
      refine ⟨hl.trans h.len, ?_, by have := h.since; show q.since + ps.length ≤ _; omega, h.few.post c2 hr, h.cnt.post c2 hr⟩
      show (q.posted ps.length).Ok (putN q (ps.map IPt.pt) (leastId q.hs) xs ps.length).length
      rw [hl]
      exact posted_ok h.ok c1 hf
theorem Iv.room (h : Iv B i n xs q) (hB : B ≤ 2048) (hi : i ≤ 80) : n ≤ 3000 ∧ q.size ≤ 128 ∧ q.since ≤ 1099511627776 := by
  have h1 := h.ok.r
  have h2 := h.ok.sum
  have h3 := h.len
  have h4 := h.since
  exact ⟨h.cnt.le (by omega) hi, by omega, by omega⟩
end
end Go.Proofs.YtbpgblmhacpjlaaGreat
namespace Go.Proofs.YtbpgblmhacpjlaaGreat
open Go.RowKit

theorem PsAt.take {A : Option Addr} {l : List IPt} {w : World} (h : PsAt A l w) (n : Nat) : PsAt A (l.take n) w := by
  intro j hj
  have hj' : j < l.length := by rw [List.length_take] at hj; omega
  obtain ⟨b, off, e, hlt, c0, c1, c2⟩ := h j hj'
  have e2 : (l.take n)[j] = l[j] := List.getElem_take
  rw [e2]
  exact ⟨b, off, e, hlt, c0, c1, c2⟩
theorem PsAt.old {A : Option Addr} {l : List IPt} {w w0 : World} (h : PsAt A l w0) (hb : Below w0.heap.size w0 w) : PsAt A l w := h.far (Nat.le_refl _) hb
/-- the parts lie in old blocks, or there are none -/
theorem PsAt.off {A : Option Addr} {l : List IPt} {w0 : World} (h : PsAt A l w0) (hl : 0 < l.length) : ∀ ad : Addr, A = some ad → ad.block < w0.heap.size := by
  obtain ⟨b, off, e, hlt, -⟩ := h 0 hl
  intro ad e2
  rw [e] at e2
  injection e2 with e2
  subst e2
  exact hlt
theorem xs0_bytes (b : Int) : (xs0 (bytesN b)).length = bytesN b := xs0_length (bytesN_le b).1
theorem layX_length {b r z x y : Int} (h : layB (xs0 (bytesN b)) r z x y = true) : (layX b r z x y).length = (xs0 (bytesN b)).length := by
  obtain ⟨⟨a1, a2⟩, ⟨b1, b2⟩, ⟨c1, c2⟩, d1, d2⟩ := lay_facts h
  exact newX_length (by omega) (by omega) (by omega)
theorem newV_few {xs : List UInt8} {r z x y : Int} (h : layB xs r z x y = true) : (newV r z x y).since = 0 ∧ Few (newV r z x y) := by
  have _ := h
  refine ⟨rfl, fun j => ?_⟩
  show (List.replicate z.toNat 0).getD j 0 ≤ 64
  rw [List.getD_eq_getElem?_getD, List.getElem?_replicate]
  split <;> simp
section
variable {w0 w : World} {l : List As} {g gq gk gx n : Nat} {xs : List UInt8} {q : Vs}
/-- Post of parts that came in -/
theorem St.postOld (h : St (fun _ => False) w0 (stars l) w) (i : Nat) (hi : i < l.length) (he : l[i] = drvP g gq xs q) (hq : q.Ok xs.length) (hs : q.since ≤ 1099511627776) {ps : List IPt} {A : Option Addr} {cap : Nat} (hP : PsAt A ps w0) (hl : ps.length ≤ 1099511627776)
    (hN : ∀ j (h : j < ps.length), ps[j].n < 9223372036854775808) (r : Int × Int × List UInt8 × Vs) (hr : postC xs q ps = r) :
    Calls Tryz.prog 5 #[.pointer (some ⟨gq, 0, none⟩), .slice A ps.length cap] w fun e w' => e = .returned (.tuple #[.int .i64 r.1, .int .i64 r.2.1]) ∧ St (fun _ => False) w0 (stars (l.set i (drvP g gq r.2.2.1 r.2.2.2))) w' := by
  rcases Nat.eq_zero_or_pos ps.length with h0 | h0
  · obtain rfl := List.eq_nil_of_length_eq_zero h0
    have e : postC xs q [] = (0, 150, xs, q) := rfl
    rw [e] at hr
    subst hr
    obtain ⟨F, hA, hb⟩ := h.at i hi
    rw [he] at hA
    exact (post_form hA (hP.old h.law) hl hN rfl).mono fun _ _ ⟨h1, h2⟩ => ⟨h1, hb _ _ h2⟩
  · exact h.post i hi he hq hs (hP.old h.law) (off_old (hP.off h0)) hl hN r hr
set_option maxRecDepth 100000 in
set_option maxHeartbeats 1600000 in
theorem rpost_nil {F : Nat → Prop} (h : (stars [rmemA gk xs n, refA gx gk q]).P F w) (A : Option Addr) (cap : Nat) :
    Calls Tryz.prog 7 #[.pointer (some ⟨gx, 0, none⟩), .slice A 0 cap] w fun e w' => e = .returned (.tuple #[.int .i64 0, .int .i64 150]) ∧ St F w (stars [rmemA gk xs n, refA gx gk q]) w' := by
  have S0 := Lib.hid (St.start h)
  clear h
  go_enter Tryz.func7, Tryz.ntmps7
  go_wp2_with fail
  go_loopw [6, 7] (fun okv iv wr => okv = .bool false ∧ iv = .int .i64 0 ∧ St F w (stars [rmemA gk xs n, refA gx gk q]) wr) (fun _ _ _ => 0)
  case atStart => exact ⟨rfl, rfl, S0.out⟩
  case round =>
    obtain ⟨rfl, rfl, S1⟩ := hrel
    have S1 := Lib.hid S1
    go_wp2_with fail
    go_ret2
    exact ⟨rfl, S1.out⟩
theorem St.rpostOld (h : St (fun _ => False) w0 (stars l) w) (i : Nat) (hi : i < l.length) (he : l[i] = refP gk gx xs n q) (hn4 : n + 64 ≤ 4000) (hq : q.Ok xs.length) (hs : q.since ≤ 1099511627776) {ps : List IPt} {A : Option Addr} {cap : Nat} (hP : PsAt A ps w0) (hl : ps.length ≤ 1048576)
    (r : Int × Int × List UInt8 × Vs) (hr : postC xs q ps = r) :
    Calls Tryz.prog 7 #[.pointer (some ⟨gx, 0, none⟩), .slice A ps.length cap] w fun e w' => e = .returned (.tuple #[.int .i64 r.1, .int .i64 r.2.1]) ∧ St (fun _ => False) w0 (stars (l.set i (refP gk gx r.2.2.1 (postN xs q ps n) r.2.2.2))) w' := by
  rcases Nat.eq_zero_or_pos ps.length with h0 | h0
  · obtain rfl := List.eq_nil_of_length_eq_zero h0
    have e : postC xs q [] = (0, 150, xs, q) := rfl
    unfold postN
    rw [e] at hr ⊢
    subst hr
    obtain ⟨F, hA, hb⟩ := h.at i hi
    rw [he] at hA
    exact (rpost_nil hA A cap).mono fun _ _ ⟨h1, h2⟩ => ⟨h1, hb _ _ h2⟩
  · exact h.rpost i hi he hn4 hq hs (hP.old h.law) (off_old (hP.off h0)) hl r hr
theorem St.pairUp {F0 : Nat → Prop} {A B : As} (h : St F0 w0 (stars (B :: A :: l)) w) : St F0 w0 (stars (stars [A, B] :: l)) w :=
  h.mono fun _ e => sep_mono (sep_right (sep_swap e)) (fun _ e => stars_pair e) (fun _ e => e)
theorem refP_cells {F : Nat → Prop} (h : (refP gk gx xs n q).P F w) : gx < w.heap.size ∧ w.cell? ⟨gx, 0, none⟩ = some (.pointer (some ⟨gk, 0, none⟩)) ∧ w.cell? ⟨gx, 7, none⟩ = some (.int .i64 (q.ba : Int)) ∧ w.cell? ⟨gx, 8, none⟩ = some (.bool q.bw) := by
  obtain ⟨F2, hv, hb, -, -⟩ := (St.start (A := stars [rmemA gk xs n, refA gx gk q]) h).get 1 (by simp)
  exact ⟨hb.lt, hb.cell 0, hb.cell 7, hb.cell 8⟩
/-- the op's copy -/
theorem St.op {F0 : Nat → Prop} (h : St F0 w0 (stars l) w) (i : Nat) (hi : i < l.length) {O : Nat} {o : OpV} (he : l[i] = box O 36 #[.int .i64 o.k, .int .i64 o.a, .int .i64 o.id, .int .i64 o.n, .slice o.pA o.pl.length o.pc, .string o.s, .int .i64 o.eo, .bool o.ew, .int .i64 o.ef, .bool o.wr]) : O < w.heap.size ∧ w.cell? ⟨O, 0, none⟩ = some (.int .i64 o.k) ∧ w.cell? ⟨O, 1, none⟩ = some (.int .i64 o.a) ∧ w.cell? ⟨O, 2, none⟩ = some (.int .i64 o.id) ∧ w.cell? ⟨O, 3, none⟩ = some (.int .i64 o.n) ∧ w.cell? ⟨O, 4, none⟩ = some (.slice o.pA o.pl.length o.pc) ∧ w.cell? ⟨O, 5, none⟩ = some (.string o.s) ∧ w.cell? ⟨O, 6, none⟩ = some (.int .i64 o.eo) ∧ w.cell? ⟨O, 7, none⟩ = some (.bool o.ew) ∧ w.cell? ⟨O, 8, none⟩ = some (.int .i64 o.ef) ∧ w.cell? ⟨O, 9, none⟩ = some (.bool o.wr) := by
  have kO := h.blk i hi he
  exact ⟨kO.lt, kO.cell 0, kO.cell 1, kO.cell 2, kO.cell 3, kO.cell 4, kO.cell 5, kO.cell 6, kO.cell 7, kO.cell 8, kO.cell 9⟩
/-- where a round stands: the world's lay, the document's queue, the op -/
def DzS (w0 : World) (g0 gx gk O : Nat) (r : Int) (q : Vs) (o : OpV) (w : World) : Prop :=
  (w.cell? ⟨g0, 1, none⟩ = some (.int .i64 r) ∧ w.cell? ⟨gx, 0, none⟩ = some (.pointer (some ⟨gk, 0, none⟩)) ∧ w.cell? ⟨gx, 7, none⟩ = some (.int .i64 (q.ba : Int)) ∧ w.cell? ⟨gx, 8, none⟩ = some (.bool q.bw) ∧
    w.cell? ⟨O, 0, none⟩ = some (.int .i64 o.k) ∧ w.cell? ⟨O, 1, none⟩ = some (.int .i64 o.a) ∧ w.cell? ⟨O, 2, none⟩ = some (.int .i64 o.id) ∧ w.cell? ⟨O, 3, none⟩ = some (.int .i64 o.n) ∧ w.cell? ⟨O, 4, none⟩ = some (.slice o.pA o.pl.length o.pc) ∧ w.cell? ⟨O, 5, none⟩ = some (.string o.s) ∧ w.cell? ⟨O, 6, none⟩ = some (.int .i64 o.eo) ∧ w.cell? ⟨O, 7, none⟩ = some (.bool o.ew) ∧ w.cell? ⟨O, 8, none⟩ = some (.int .i64 o.ef) ∧ w.cell? ⟨O, 9, none⟩ = some (.bool o.wr)) ∧ (g0 < w.heap.size ∧ gx < w.heap.size ∧ O < w.heap.size) ∧ ∃ l, St (fun _ => False) w0 (stars l) w
theorem DzS.of {g0 O : Nat} {b r z x y : Int} {v : Value} {o : OpV} (hbx : Blk w0 g0 26 #[.int .i64 b, .int .i64 r, .int .i64 z, .int .i64 x, .int .i64 y, v]) (h : St (fun _ => False) w0 (stars l) w) (i j : Nat) (hi : i < l.length) (hj : j < l.length)
    (ei : l[i] = box O 36 #[.int .i64 o.k, .int .i64 o.a, .int .i64 o.id, .int .i64 o.n, .slice o.pA o.pl.length o.pc, .string o.s, .int .i64 o.eo, .bool o.ew, .int .i64 o.ef, .bool o.wr]) (ej : l[j] = refP gk gx xs n q) : DzS w0 g0 gx gk O r q o w := by
  have hb := h.law
  have hbk := hbx.same (hb.block _ hbx.lt)
  obtain ⟨lO, o0, o1, o2, o3, o4, o5, o6, o7, o8, o9⟩ := h.op i hi ei
  obtain ⟨F, hA⟩ := h.get j hj
  rw [ej] at hA
  obtain ⟨lx, x0, x7, x8⟩ := refP_cells hA
  exact ⟨⟨hbk.cell 1, x0, x7, x8, o0, o1, o2, o3, o4, o5, o6, o7, o8, o9⟩, ⟨hbk.lt, lx, lO⟩, l, h⟩
theorem DzS.below {g0 O : Nat} {r : Int} {o : OpV} {w' : World} (h : DzS w0 g0 gx gk O r q o w) (hb : Below w.heap.size w w') : DzS w0 g0 gx gk O r q o w' := by
  obtain ⟨⟨c1, c2, c3, c4, o0, o1, o2, o3, o4, o5, o6, o7, o8, o9⟩, ⟨l1, l2, l3⟩, l, hS⟩ := h
  have e1 : ∀ i, w'.cell? ⟨g0, i, none⟩ = w.cell? ⟨g0, i, none⟩ := fun i => hb.cell (p := ⟨g0, i, none⟩) l1
  have e2 : ∀ i, w'.cell? ⟨gx, i, none⟩ = w.cell? ⟨gx, i, none⟩ := fun i => hb.cell (p := ⟨gx, i, none⟩) l2
  have e3 : ∀ i, w'.cell? ⟨O, i, none⟩ = w.cell? ⟨O, i, none⟩ := fun i => hb.cell (p := ⟨O, i, none⟩) l3
  have hs := hb.size
  exact ⟨⟨(e1 _).trans c1, (e2 _).trans c2, (e2 _).trans c3, (e2 _).trans c4, (e3 _).trans o0, (e3 _).trans o1, (e3 _).trans o2, (e3 _).trans o3, (e3 _).trans o4, (e3 _).trans o5, (e3 _).trans o6, (e3 _).trans o7, (e3 _).trans o8, (e3 _).trans o9⟩, ⟨by omega, by omega, by omega⟩, l, hS.below hb⟩
theorem DzS.drew {g0 O : Nat} {r : Int} {o : OpV} (h : DzS w0 g0 gx gk O r q o w) : DzS w0 g0 gx gk O r q o w.drew := h.below (Below.refl _ _).drew
/-- a memory's clone and a queue's: one more queue -/
theorem St.cloned {g2 gq2 : Nat} (h : St (fun _ => False) w0 (stars l) w) {w1 w2 : World} {F1 F2 : Nat → Prop} (hM : (memA g2 xs).P F1 w1) (hF1 : ∀ k, F1 k → w.heap.size ≤ k) (hb1 : Below w.heap.size w w1) (hD : (drvA gq2 g2 q).P F2 w2) (hF2 : ∀ k, F2 k → w1.heap.size ≤ k) (hb2 : Below w1.heap.size w1 w2) :
    St (fun _ => False) w0 (stars (drvP g2 gq2 xs q :: l)) w2 :=
  ((h.add hb1 hM hF1 : St (fun _ => False) w0 (stars (memA g2 xs :: l)) w1).add hb2 hD hF2 : St (fun _ => False) w0 (stars (drvA gq2 g2 q :: memA g2 xs :: l)) w2).pairUp
end
end Go.Proofs.YtbpgblmhacpjlaaGreat
