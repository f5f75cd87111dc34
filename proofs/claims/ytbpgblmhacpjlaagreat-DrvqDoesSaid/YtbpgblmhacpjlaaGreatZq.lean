/-
  The document's Ask; which parts make a chain; how long its log is.
-/
import Derived.Test.YtbpgblmhacpjlaaGreatZo
import Derived.Test.YtbpgblmhacpjlaaGreatSRn
import Derived.Test.YtbpgblmhacpjlaaGreatZp
import Derived.Deep.RegionHeld3
namespace Go.Proofs.YtbpgblmhacpjlaaGreat
open Go.RowKit

theorem rmemA_up {F : Nat → Prop} {w : World} {gk n m : Nat} {xs : List UInt8} (h : (rmemA gk xs n).P F w) (hn : n ≤ m) : (rmemA gk xs m).P F w := by
  obtain ⟨lv, lg, hl, h⟩ := h
  exact ⟨lv, lg, Nat.le_trans hl hn, h⟩
theorem St.upR {F0 : Nat → Prop} {w0 w : World} {gk n m : Nat} {xs : List UInt8} {l : List As} (h : St F0 w0 (stars (rmemA gk xs n :: l)) w) (hn : n ≤ m) : St F0 w0 (stars (rmemA gk xs m :: l)) w :=
  h.mono fun _ e => sep_mono e (fun _ e => rmemA_up e hn) (fun _ e => e)
theorem ref_open2 {F : Nat → Prop} {w : World} {A : As} {gx g : Nat} {q : Vs} (h : (stars [A, refA gx g q]).P F w) : ∃ B cap, (stars [A, box gx 48 (q.cellsR g (.slice B q.hs.length cap)), rowA 3 1 (.slice B q.hs.length cap) q.hs.length (intsV q.hs)]).P F w := by
  obtain ⟨F1, F2, hF, d, a, b⟩ := pair_stars h
  obtain ⟨B, cap, hb⟩ := ref_open b
  exact ⟨B, cap, F1, F2, hF, d, a, hb⟩
theorem ref_shut2 {F0 : Nat → Prop} {w0 w : World} {A : As} {gx g : Nat} {q : Vs} {v : Value} {n : Nat} {xs : List Value} {cs : Array Value} (h : St F0 w0 (stars [A, box gx 48 cs, rowA 3 1 v n xs]) w) (hc : cs = q.cellsR g v) (hn : n = q.hs.length) (hx : xs = intsV q.hs) : St F0 w0 (stars [A, refA gx g q]) w := by
  subst hc; subst hn; subst hx
  refine h.mono fun F e => ?_
  obtain ⟨F1, F2, hF, d, a, b⟩ := e
  obtain ⟨G1, G2, hG, -, b1, b2⟩ := pair_stars b
  exact stars_pair ⟨F1, F2, hF, d, a, v, b1.1, b2.1, fun k => by rw [hG k, b1.2 k, b2.2 k]⟩
theorem rask_cells {F : Nat → Prop} {w W : World} {k gx : Nat} {e cs : Array Value} {A : As} {a b : Value} (h : St F w (stars [box k 34 e, A, box gx 48 cs]) W) (hc : Hid (cs[0]? = some a ∧ cs[3]? = some b)) :
    W.cell? ⟨gx, 0, none⟩ = some a ∧ W.cell? ⟨gx, 3, none⟩ = some b := by
  have hb := h.blk 2 (by simp) rfl
  exact ⟨(hb.cell 0).trans hc.out.1, (hb.cell 3).trans hc.out.2⟩
set_option maxRecDepth 100000 in
set_option maxHeartbeats 1600000 in
theorem rask_bad {F : Nat → Prop} {w : World} {gx : Nat} {cs : Array Value} {A : As} (h : (stars [A, box gx 48 cs]).P F w) (o f : Int) (v : Bool) (E : Int) (S : ByteArray) (hE : (E != 0) = true)
    (HB : ∀ W, Calls Tryz.prog 48 #[.agg #[.int .i64 o, .bool v, .int .i64 f]] W fun e w' => e = .returned (.tuple #[.string S, .int .i64 E]) ∧ Below W.heap.size W w') :
    Calls Tryz.prog 16 #[.pointer (some ⟨gx, 0, none⟩), .agg #[.int .i64 o, .bool v, .int .i64 f]] w fun e w' => e = .returned (.int .i64 E) ∧ St F w (stars [A, box gx 48 cs]) w' := by
  have S0 := St.start h
  have hb := S0.blk 1 (by simp) rfl
  have hlt := hb.lt
  have hne := Nat.ne_of_lt hlt
  have HB := Lib.hid HB
  have S1 := Lib.hid (S0.alloc (.cells #[.int .i64 o, .bool v, .int .i64 f] 34))
  clear h S0 hb
  go_enter Tryz.func16, Tryz.ntmps16
  go_wp2_with fail
  refine (HB.out _).mono ?_
  rintro e w1 ⟨rfl, hq⟩
  have S2 := Lib.hid (S1.out.below hq)
  clear hq
  go_wp2_with fail
  go_ret
  exact ⟨rfl, S2.out⟩
set_option maxRecDepth 100000 in
set_option maxHeartbeats 1600000 in
theorem rask_good {F : Nat → Prop} {w : World} {gx g drv n : Nat} {xs : List UInt8} {cs : Array Value} (h : (stars [rmemA g xs n, box gx 48 cs]).P F w) (hn4 : n ≤ 4000) (h0 : cs[0]? = some (.pointer (some ⟨g, 0, none⟩))) (h3 : cs[3]? = some (.int .i64 (drv : Int))) (o f : Int) (v : Bool) (S : ByteArray) (hS : drv + S.size ≤ xs.length)
    (HB : ∀ W, Calls Tryz.prog 48 #[.agg #[.int .i64 o, .bool v, .int .i64 f]] W fun e w' => e = .returned (.tuple #[.string S, .int .i64 0]) ∧ Below W.heap.size W w') :
    Calls Tryz.prog 16 #[.pointer (some ⟨gx, 0, none⟩), .agg #[.int .i64 o, .bool v, .int .i64 f]] w fun e w' => e = .returned (.int .i64 0) ∧ St F w (stars [rmemA g (over xs drv S) (n + 1), box gx 48 cs]) w' := by
  have S0 := St.start h
  have hb := S0.blk 1 (by simp) rfl
  have hlt := hb.lt
  have hne := Nat.ne_of_lt hlt
  have HB := Lib.hid HB
  have HC := Lib.hid (And.intro h0 h3)
  obtain ⟨K, hK⟩ : ∃ K, w.heap.size = K := ⟨_, rfl⟩
  have HW : ∀ W, St F w (stars [box K 34 #[.int .i64 o, .bool v, .int .i64 f], rmemA g xs n, box gx 48 cs]) W → Calls Tryz.prog 12 #[.pointer (some ⟨g, 0, none⟩), .int .i64 (drv : Int), .string S] W fun e w' => e = .returned (.int .i64 0) ∧ St F w (stars [box K 34 #[.int .i64 o, .bool v, .int .i64 f], rmemA g (over xs drv S) (n + 1), box gx 48 cs]) w' := fun W hW => by
    obtain ⟨F1, hA, hb⟩ := hW.at 1 (by simp)
    exact (rmemA_put hA hn4 drv S hS).mono fun _ _ ⟨he, hs⟩ => ⟨he, hb _ _ hs⟩
  have HW := Lib.hid HW
  have S1 := S0.push 34 #[.int .i64 o, .bool v, .int .i64 f]
  rw [hK] at S1
  have S1 := Lib.hid S1
  clear h S0 hb h0 h3 hS hK hn4
  go_enter Tryz.func16, Tryz.ntmps16
  go_wp2_with fail
  refine (HB.out _).mono ?_
  rintro e w1 ⟨rfl, hq⟩
  have S2 := Lib.hid (S1.out.below hq).drew
  clear hq hlt hne S1
  go_wp2_with fail
  go_region_held3 (fun W => W.cell? ⟨gx, 0, none⟩ = some (.pointer (some ⟨g, 0, none⟩)) ∧ W.cell? ⟨gx, 3, none⟩ = some (.int .i64 (drv : Int)))
    (with_reducible (first | exact rask_cells S2.out HC | exact rask_cells S3 HC))
    ((go_at_call 12; ((with_reducible refine (HW.out _ S2.out).mono ?_); rintro e w2 ⟨rfl, S3⟩)))
  go_wp2_with fail
  go_ret
  exact ⟨rfl, S3.pop⟩
theorem rask_v {F : Nat → Prop} {w : World} {gx g n : Nat} {xs : List UInt8} {q : Vs} (h : (stars [rmemA g xs n, refA gx g q]).P F w) (hn4 : n ≤ 4000) (hq : q.Ok xs.length) (o f : Int) (v : Bool) :
    Calls Tryz.prog 16 #[.pointer (some ⟨gx, 0, none⟩), .agg #[.int .i64 o, .bool v, .int .i64 f]] w fun e w' => e = .returned (.int .i64 (Sp.buE o f)) ∧ St F w (stars [rmemA g (askX xs q o v f) (n + 1), refA gx g q]) w' := by
  obtain ⟨B, cap, h'⟩ := ref_open2 h
  have HB := fun W => Sp.rbuild_any o f v W
  unfold Sp.RS at HB
  obtain ⟨F2, hA, hF2, hback⟩ := (St.start h').twox 0 1 (by omega) (by simp)
  unfold askX
  by_cases he : Sp.buE o f = 0
  · rw [if_pos he, he]
    rw [he] at HB
    have hz : (Sp.buS o v f).size ≤ 4 := Sp.buS_size o v f
    exact (rask_good hA hn4 rfl rfl o f v _ (by have := hq.drv; omega) HB).mono fun _ _ ⟨he, hs⟩ => ⟨he, ref_shut2 (hback _ _ _ hs) rfl rfl rfl⟩
  · rw [if_neg he]
    exact (rask_bad hA o f v _ _ (by simpa using he) HB).mono fun _ _ ⟨he, hs⟩ => ⟨he, (ref_shut2 (hback _ _ _ hs) rfl rfl rfl).upR (Nat.le_succ n)⟩
end Go.Proofs.YtbpgblmhacpjlaaGreat
namespace Go.Proofs.YtbpgblmhacpjlaaGreat
open Go.RowKit

/-- does part k do? -/
def stepB (xs : List UInt8) (l : List IPt) (k : Nat) : Bool := match l[k]? with | some p => decide (0 < p.n) && (mayB xs p.at_ p.n && (!(wrAt l k) || p.wr)) | none => false
/-- do the parts below k? -/
def okAt (xs : List UInt8) (l : List IPt) : Nat → Bool
  | 0 => decide (1 ≤ l.length ∧ l.length ≤ 64)
  | k + 1 => okAt xs l k && stepB xs l k
theorem okAt_go (xs : List UInt8) (l : List IPt) : ∀ j k, k + j = l.length → (okAt xs l k && chainGo xs (l.drop k) (wrAt l k)) = okAt xs l l.length
  | 0, k, h => by
    have e : k = l.length := by omega
    subst e
    rw [List.drop_length]; simp [chainGo]
  | j + 1, k, h => by
    have hk : k < l.length := by omega
    rw [← okAt_go xs l j (k + 1) (by omega), List.drop_eq_getElem_cons hk, wrAt_succ hk]
    show (okAt xs l k && (decide (0 < l[k].n) && (mayB xs l[k].at_ l[k].n && ((!(wrAt l k) || l[k].wr) && chainGo xs (l.drop (k + 1)) l[k].wr)))) = ((okAt xs l k && stepB xs l k) && chainGo xs (l.drop (k + 1)) l[k].wr)
    have e : stepB xs l k = (decide (0 < l[k].n) && (mayB xs l[k].at_ l[k].n && (!(wrAt l k) || l[k].wr))) := by
      unfold stepB
      rw [List.getElem?_eq_getElem hk]
    rw [e]
    simp only [Bool.and_assoc]
theorem okAt_all (xs : List UInt8) (l : List IPt) : okAt xs l l.length = chainB xs l := by
  have := okAt_go xs l l.length 0 (by omega)
  rw [← this]; rfl
theorem stepB_at {xs : List UInt8} {l : List IPt} {k : Nat} (hk : k < l.length) : stepB xs l k = (decide (0 < l[k].n) && (mayB xs l[k].at_ l[k].n && (!(wrAt l k) || l[k].wr))) := by
  unfold stepB
  rw [List.getElem?_eq_getElem hk]
theorem wrAt_prev {l : List IPt} {k : Nat} (hk : k < l.length) (h0 : k ≠ 0) : ∃ (kp : Nat) (hp : kp < l.length), k = kp + 1 ∧ wrAt l k = l[kp].wr := by
  obtain ⟨kp, rfl⟩ := Nat.exists_eq_succ_of_ne_zero h0
  exact ⟨kp, by omega, rfl, wrAt_succ (by omega)⟩
theorem rmemA_may {F : Nat → Prop} {w : World} {gk n : Nat} {xs : List UInt8} (h : (rmemA gk xs n).P F w) (a k : Int) :
    Calls Tryz.prog 31 #[.pointer (some ⟨gk, 0, none⟩), .int .i64 a, .int .i64 k] w fun e w' => e = .returned (.bool (mayB xs a k)) ∧ w = w' := by
  obtain ⟨lv, lg, hl, h, -⟩ := h
  exact rmay_is h a k _ rfl
end Go.Proofs.YtbpgblmhacpjlaaGreat
namespace Go.Proofs.YtbpgblmhacpjlaaGreat
open Go.RowKit

/-- a word written into the code's memory -/
theorem memA_store {F : Nat → Prop} {w : World} {g : Nat} {xs : List UInt8} (h : (memA g xs).P F w) (a n v : Nat) (hw : Word n) (hv : v < 256 ^ n) (hn : a + n ≤ xs.length) :
    Calls Tryz.prog 19 #[.pointer (some ⟨g, 0, none⟩), .int .i64 a, .int .i64 n, .int .u64 v] w fun e w' => e = .returned (.int .i64 0) ∧ St F w (memA g (over xs a (numS v n))) w' := by
  obtain ⟨gb, lv, hM, hF⟩ := h
  exact (store_ok hM a n v hw hv hn).mono fun _ _ ⟨he, hs⟩ => ⟨he, St.noted hF hs⟩
/-- no id takes more than 64 places -/
def Few (q : Vs) : Prop := ∀ j, q.hs.getD j 0 ≤ 64
/-- how long the document's log is after so many calls of a script: p chains were posted, r came back, o others -/
def Cnt (n i : Nat) (q : Vs) : Prop := ∃ p r o, p + r + o = i ∧ n ≤ 8 + 64 * p + o ∧ n ≤ 8 + q.hs.sum + 64 * r + o
theorem Cnt.le {n i : Nat} {q : Vs} (h : Cnt n i q) (hs : q.hs.sum ≤ 128) (hi : i ≤ 80) : n ≤ 3000 := by
  obtain ⟨p, r, o, h1, h2, h3⟩ := h
  omega
theorem Cnt.other {n m i : Nat} {q q' : Vs} (h : Cnt n i q) (hm : m ≤ n + 1) (he : q'.hs = q.hs) : Cnt m (i + 1) q' := by
  obtain ⟨p, r, o, h1, h2, h3⟩ := h
  exact ⟨p, r, o + 1, by omega, by omega, by rw [he]; omega⟩
theorem Cnt.post {n k i : Nat} {q : Vs} (h : Cnt n i q) (hk : k ≤ 64) (hl : leastId q.hs < q.hs.length) : Cnt (n + k) (i + 1) (q.posted k) := by
  obtain ⟨p, r, o, h1, h2, h3⟩ := h
  have h4 := sum_set q.hs (leastId q.hs) k hl
  rw [least_zero hl] at h4
  refine ⟨p + 1, r, o, by omega, by omega, ?_⟩
  show n + k ≤ 8 + (q.hs.set (leastId q.hs) k).sum + 64 * r + o
  omega
theorem Cnt.reap {n i id : Nat} {q : Vs} (h : Cnt n i q) (hf : Few q) (hi : 0 < q.hs.getD id 0) : Cnt n (i + 1) (q.reaped id) := by
  obtain ⟨p, r, o, h1, h2, h3⟩ := h
  have h4 := sum_set q.hs id 0 (held_lt hi)
  have h5 := hf id
  refine ⟨p, r + 1, o, by omega, by omega, ?_⟩
  show n ≤ 8 + (q.hs.set id 0).sum + 64 * (r + 1) + o
  omega
theorem Few.post {k : Nat} {q : Vs} (h : Few q) (hk : k ≤ 64) (hl : leastId q.hs < q.hs.length) : Few (q.posted k) := by
  intro j
  show (q.hs.set (leastId q.hs) k).getD j 0 ≤ 64
  rw [getD_set hl]
  split
  · exact hk
  · exact h j
theorem Few.reap {id : Nat} {q : Vs} (h : Few q) (hi : 0 < q.hs.getD id 0) : Few (q.reaped id) := by
  intro j
  show (q.hs.set id 0).getD j 0 ≤ 64
  rw [getD_set (held_lt hi)]
  split
  · exact Nat.zero_le _
  · exact h j
end Go.Proofs.YtbpgblmhacpjlaaGreat
