/-
  What stands at a place; what Post and Reap answer; whether a queue may lie so.
-/
import Derived.Test.YtbpgblmhacpjlaaGreatSVc
import Derived.Test.YtbpgblmhacpjlaaGreatZg
namespace Go.Proofs.YtbpgblmhacpjlaaGreat
open Go.RowKit

theorem pb_list (v n : Nat) : (pb v n).data.toList = digs v n := rfl
theorem desB_list (A L I F : Nat) : (desB A L I F).data.toList = digs A 8 ++ (digs L 4 ++ (digs I 2 ++ digs F 2)) := by
  unfold desB
  simp only [ByteArray.data_append, Array.toList_append, pb_list, List.append_assoc]
theorem mid (X M Y : List UInt8) (a n : Nat) (ha : X.length = a) (hn : M.length = n) : ((X ++ (M ++ Y)).drop a).take n = M := by
  subst ha hn
  rw [List.drop_left, List.take_left]
theorem gn_at (s : ByteArray) (X Y : List UInt8) (v a n : Nat) (h : s.data.toList = X ++ (digs v n ++ Y)) (ha : X.length = a) (hv : v < 256 ^ n) : gn s a n = v := by
  unfold gn cutl
  rw [h, mid X (digs v n) Y a n ha (digs_length v n), val_digs, Nat.mod_eq_of_lt hv]
theorem parse_build (A L I F : Nat) (hA : A < 18446744073709551616) (hL : L < 4294967296) (hI : I ≤ 65535) (hF : F ≤ 65535) :
    gn (desB A L I F) 0 8 = A ∧ gn (desB A L I F) 8 4 = L ∧ gn (desB A L I F) 12 2 = I ∧ gn (desB A L I F) 14 2 = F := by
  have h := desB_list A L I F
  refine ⟨gn_at _ [] _ A 0 8 h rfl (by omega), gn_at _ (digs A 8) _ L 8 4 h (digs_length _ _) (by omega), ?_, ?_⟩
  · refine gn_at _ (digs A 8 ++ digs L 4) (digs F 2) I 12 2 (by rw [h]; simp) (by simp [digs_length]) (by omega)
  · refine gn_at _ (digs A 8 ++ digs L 4 ++ digs I 2) [] F 14 2 (by rw [h]; simp) (by simp [digs_length]) (by omega)
theorem deOf_desB (A L I F : Nat) (hA : A < 18446744073709551616) (hL : L < 4294967296) (hI : I ≤ 65535) (hF : F ≤ 65535) : deOf (desB A L I F) = ⟨A, L, I, F⟩ := by
  obtain ⟨a, b, c, d⟩ := parse_build A L I F hA hL hI hF
  unfold deOf
  rw [a, b, c, d]
theorem over_in (xs : List UInt8) (a : Nat) (s : ByteArray) (h : a + s.size ≤ xs.length) (j : Nat) : (over xs a s)[j]? = if a ≤ j ∧ j < a + s.size then s.data.toList[j - a]? else xs[j]? := by
  have hs : s.data.toList.length = s.size := rfl
  have ht : (xs.take a).length = a := by simp; omega
  unfold over
  by_cases h1 : j < a
  · rw [if_neg (by omega), List.append_assoc, List.getElem?_append_left (by omega), List.getElem?_take_of_lt h1]
  · by_cases h2 : j < a + s.size
    · rw [if_pos ⟨by omega, h2⟩, List.append_assoc, List.getElem?_append_right (by omega), ht, List.getElem?_append_left (by omega)]
    · rw [if_neg (by omega), List.getElem?_append_right (by rw [List.length_append]; omega), List.getElem?_drop]
      congr 1
      rw [List.length_append]; omega
theorem cut_get (xs : List UInt8) (n k j : Nat) : ((xs.drop n).take k)[j]? = if j < k then xs[n + j]? else none := by
  by_cases h : j < k
  · rw [if_pos h, List.getElem?_take_of_lt h, List.getElem?_drop]
  · rw [if_neg h, List.getElem?_take_eq_none (by omega)]
theorem cut_off (xs : List UInt8) (a : Nat) (s : ByteArray) (h : a + s.size ≤ xs.length) (n k : Nat) (hd : n + k ≤ a ∨ a + s.size ≤ n) : ((over xs a s).drop n).take k = (xs.drop n).take k := by
  apply List.ext_getElem?
  intro j
  rw [cut_get, cut_get]
  by_cases hj : j < k
  · rw [if_pos hj, if_pos hj, over_in xs a s h, if_neg (by omega)]
  · rw [if_neg hj, if_neg hj]
theorem cut_on (xs : List UInt8) (a : Nat) (s : ByteArray) (h : a + s.size ≤ xs.length) : ((over xs a s).drop a).take s.size = s.data.toList := by
  apply List.ext_getElem?
  intro j
  have hs : s.data.toList.length = s.size := rfl
  rw [cut_get]
  by_cases hj : j < s.size
  · rw [if_pos hj, over_in xs a s h, if_pos (by omega)]
    congr 1; omega
  · rw [if_neg hj, List.getElem?_eq_none (by omega)]
theorem deAt_off (xs : List UInt8) (a : Nat) (s : ByteArray) (h : a + s.size ≤ xs.length) (n : Nat) (hd : n + 16 ≤ a ∨ a + s.size ≤ n) : deAt (over xs a s) n = deAt xs n := by
  unfold deAt cut16
  rw [cut_off xs a s h n 16 hd]
theorem deAt_on (xs : List UInt8) (a A L I F : Nat) (h : a + 16 ≤ xs.length) (hA : A < 18446744073709551616) (hL : L < 4294967296) (hI : I ≤ 65535) (hF : F ≤ 65535) : deAt (over xs a (desB A L I F)) a = ⟨A, L, I, F⟩ := by
  have hs := desB_size A L I F
  have e := cut_on xs a (desB A L I F) (by omega)
  rw [hs] at e
  unfold deAt cut16
  rw [e]
  exact deOf_desB A L I F hA hL hI hF
theorem over_comm (xs : List UInt8) (a b : Nat) (s t : ByteArray) (ha : a + s.size ≤ xs.length) (hb : b + t.size ≤ xs.length) (hd : a + s.size ≤ b ∨ b + t.size ≤ a) : over (over xs a s) b t = over (over xs b t) a s := by
  refine List.ext_getElem? fun j => ?_
  rw [over_in (over xs a s) b t (by rw [over_length _ _ _ ha]; exact hb), over_in (over xs b t) a s (by rw [over_length _ _ _ hb]; exact ha), over_in xs a s ha, over_in xs b t hb]
  by_cases h1 : b ≤ j ∧ j < b + t.size
  · rw [if_pos h1, if_neg (by omega), if_pos h1]
  · rw [if_neg h1]
    by_cases h2 : a ≤ j ∧ j < a + s.size
    · rw [if_pos h2, if_pos h2]
    · rw [if_neg h2, if_neg h2, if_neg h1]
theorem over_join (xs : List UInt8) (a k : Nat) (s : ByteArray) (hk : k ≤ s.size) (ha : a + s.size ≤ xs.length) : over (over xs a (s.extract 0 k)) (a + k) (s.extract k s.size) = over xs a s := by
  have z1 : (s.extract 0 k).size = k := by rw [ByteArray.size_extract]; omega
  have z2 : (s.extract k s.size).size = s.size - k := by rw [ByteArray.size_extract]; omega
  have l1 : (s.extract 0 k).data.toList = s.data.toList.take k := by simp [ByteArray.data_extract]
  have l2 : (s.extract k s.size).data.toList = (s.data.toList.drop k).take (s.size - k) := by simp [ByteArray.data_extract]
  refine List.ext_getElem? fun j => ?_
  rw [over_in _ _ _ (by rw [over_length _ _ _ (by omega), z2]; omega), over_in _ _ _ (by omega), over_in _ _ _ ha, z1, z2, l1, l2]
  by_cases h1 : a + k ≤ j ∧ j < a + k + (s.size - k)
  · rw [if_pos h1, if_pos (by omega), List.getElem?_take, if_pos (by omega), List.getElem?_drop]
    congr 1; omega
  · rw [if_neg h1]
    by_cases h2 : a ≤ j ∧ j < a + k
    · rw [if_pos h2, if_pos (by omega), List.getElem?_take, if_pos (by omega)]
    · rw [if_neg h2, if_neg (by omega)]
theorem over_same (xs : List UInt8) (a : Nat) (s : ByteArray) (h : a + s.size ≤ xs.length) (j : Nat) (hj : ¬ (a ≤ j ∧ j < a + s.size)) : (over xs a s)[j]? = xs[j]? := by rw [over_in _ _ _ h, if_neg hj]
theorem stA_inj {n p j m : Nat} (hj : j < n) (hm : m < n) (h : stA n p j = stA n p m) : j = m := by
  unfold stA at h
  split at h <;> split at h <;> omega
end Go.Proofs.YtbpgblmhacpjlaaGreat
namespace Go.Proofs.YtbpgblmhacpjlaaGreat
open Go.RowKit

/-- while descriptor reads -/
def DS (F : Nat → Prop) (w : World) (K gq g : Nat) (l : List As) (a v : Value) (W : World) : Prop :=
  (W.cell? ⟨K, 0, none⟩ = some a ∧ W.cell? ⟨K, 1, none⟩ = some v ∧ W.cell? ⟨gq, 0, none⟩ = some (.pointer (some ⟨g, 0, none⟩))) ∧ St F w (stars l) W
theorem DS.of {F : Nat → Prop} {w W : World} {K R gq g : Nat} {xs : List UInt8} {cs : Array Value} {a v : Value} {r : Array Value} (h : St F w (stars [box R 89 r, box K 44 #[a, v], memA g xs, box gq 77 cs]) W) (h0 : Hid (cs[0]? = some (.pointer (some ⟨g, 0, none⟩)))) :
    DS F w K gq g [box R 89 r, box K 44 #[a, v], memA g xs, box gq 77 cs] a v W := by
  have b1 := h.blk 1 (by simp) rfl
  have b3 := h.blk 3 (by simp) rfl
  exact ⟨⟨b1.cell 0, b1.cell 1, (b3.cell 0).trans h0.out⟩, h⟩
theorem DS.st {F : Nat → Prop} {w W : World} {K gq g : Nat} {l : List As} {a v : Value} (h : DS F w K gq g l a v W) : St F w (stars l) W := h.2
theorem DS.next {F : Nat → Prop} {w W W' : World} {K R gq g : Nat} {xs : List UInt8} {cs : Array Value} {a v : Value} {r : Array Value} (h : DS F w K gq g [box R 89 r, box K 44 #[a, v], memA g xs, box gq 77 cs] a v W) (h0 : Hid (cs[0]? = some (.pointer (some ⟨g, 0, none⟩)))) (hb : Below W.heap.size W W') :
    DS F w K gq g [box R 89 r, box K 44 #[a, v], memA g xs, box gq 77 cs] a v W' := DS.of (h.2.below hb) h0
set_option maxRecDepth 100000 in
set_option maxHeartbeats 1600000 in
theorem desc_v {F : Nat → Prop} {w : World} {gq g : Nat} {xs : List UInt8} {cs : Array Value} {ring : Nat} (h : (stars [memA g xs, box gq 77 cs]).P F w) (h0 : cs[0]? = some (.pointer (some ⟨g, 0, none⟩))) (h1 : cs[1]? = some (.int .i64 (ring : Int)))
    (a : Nat) (v : Bool) (hr : ring + 16 * a ≤ 1048576) (hn : ring + 16 * a + 16 ≤ xs.length) :
    Calls Tryz.prog 36 #[.pointer (some ⟨gq, 0, none⟩), .agg #[.int .i64 (a : Int), .bool v]] w fun e w' => e = .returned (deAt xs (ring + 16 * a)).v ∧ St F w (stars [memA g xs, box gq 77 cs]) w' := by
  obtain ⟨L, hL⟩ : ∃ L, [box (w.heap.size + 1) 89 #[.int .u64 0, .int .u32 0, .int .i64 0, .int .i64 0], box w.heap.size 44 #[.int .i64 (a : Int), .bool v], memA g xs, box gq 77 cs] = L := ⟨_, rfl⟩
  have HOf : ∀ W, St F w (stars L) W → Calls Tryz.prog 63 #[.pointer (some ⟨gq, 0, none⟩), .agg #[.int .i64 (a : Int), .bool v]] W fun e w' => e = .returned (.int .i64 ((ring + 16 * a : Nat) : Int)) ∧ Below W.heap.size W w' := fun W hW => by
    subst hL
    have hB := hW.blk 3 (by simp) rfl
    exact offset_v (w := W) (gq := gq) (ring := ring) ⟨hB.lt, (hB.cell 1).trans h1⟩ a v hr
  obtain ⟨n, hn'⟩ : ∃ n, ring + 16 * a = n := ⟨_, rfl⟩
  rw [hn'] at HOf hn ⊢
  have HOf := Lib.hid HOf
  have HRd : ∀ W, St F w (stars L) W → Calls Tryz.prog 58 #[.pointer (some ⟨g, 0, none⟩), .int .i64 (n : Int), .int .i64 16] W fun e w' => e = .returned (.tuple #[.string ⟨((xs.drop n).take 16).toArray⟩, .int .i64 0]) ∧ St F w (stars L) w' := fun W hW => by
    subst hL
    obtain ⟨F1, hA, hb⟩ := hW.at 2 (by simp)
    exact (memA_read hA n 16 hn).mono fun _ _ ⟨he, hs⟩ => ⟨he, hb _ _ hs⟩
  have HPa := fun W => parse_cut xs n hn W
  generalize (⟨((xs.drop n).take 16).toArray⟩ : ByteArray) = S at HRd HPa
  obtain ⟨d, hd⟩ : ∃ d, deAt xs n = d := ⟨_, rfl⟩
  rw [hd] at HPa ⊢
  have HRd := Lib.hid HRd
  have HPa := Lib.hid HPa
  have H0 := Lib.hid h0
  have S0 := ((St.start h).push 44 #[.int .i64 (a : Int), .bool v]).push 89 #[.int .u64 0, .int .u32 0, .int .i64 0, .int .i64 0]
  have e1 : (w.alloc (.cells #[.int .i64 (a : Int), .bool v] 44)).heap.size = w.heap.size + 1 := by simp
  rw [e1] at S0
  have DD := Lib.hid (DS.of S0.drew H0)
  have hlt : gq < w.heap.size := ((St.start h).blk 1 (by simp) rfl).lt
  have hne := Nat.ne_of_lt hlt
  have p0 : w.cell? ⟨gq, 0, none⟩ = some (.pointer (some ⟨g, 0, none⟩)) := (((St.start h).blk 1 (by simp) rfl).cell 0).trans h0
  have HL := Lib.hid hL
  clear S0 h hd hn' h0 h1 hr hn e1
  unfold De.v at HPa
  go_enter Tryz.func36, Tryz.ntmps36
  go_wp2_with fail
  rw [hL] at DD
  clear hL
  go_region_held3 (fun W => (W.cell? ⟨w.heap.size, 0, none⟩ = some (.int .i64 (a : Int)) ∧ W.cell? ⟨w.heap.size, 1, none⟩ = some (.bool v) ∧ W.cell? ⟨gq, 0, none⟩ = some (.pointer (some ⟨g, 0, none⟩))) ∧ St F w (stars L) W)
    ((refine (id (α := DS F w w.heap.size gq g L (.int .i64 (a : Int)) (.bool v) _) ?_); with_reducible (first | exact DD.out | exact D1 | exact D2)))
    (first
      | (go_at_call 63; ((with_reducible refine (HOf.out _ DD.out.st).mono ?_); rintro e w1 ⟨rfl, hq⟩; have D1 : DS F w w.heap.size gq g L (.int .i64 (a : Int)) (.bool v) w1 := (by have hL := HL.out; subst hL; exact DS.next DD.out H0 hq)))
      | (go_at_call 58; ((with_reducible refine (HRd.out _ D1.st).mono ?_); rintro e w2 ⟨rfl, hs⟩; have D2 : DS F w w.heap.size gq g L (.int .i64 (a : Int)) (.bool v) w2 := (by have hL := HL.out; subst hL; exact DS.of hs H0))))
  have hL := HL.out
  subst hL
  have S2 := D2.st
  have S2 := Lib.hid S2
  clear DD HOf HRd D1 D2 hs HL H0 p0 hlt hne
  go_wp2_with fail
  refine (HPa.out _).mono ?_
  rintro e w3 ⟨rfl, hb⟩
  have S3 := S2.out.below hb
  have k := S3.blk 0 (by simp) rfl
  have z0 := k.frozen 0
  have z1 := k.frozen 1
  have z2 := k.frozen 2
  have z3 := k.frozen 3
  have c0 := k.cell 0
  have c1 := k.cell 1
  have c2 := k.cell 2
  have c3 := k.cell 3
  simp only [List.getElem?_toArray, List.getElem?_cons_zero, List.getElem?_cons_succ] at c0 c1 c2 c3
  have hlt2 := k.lt
  have hne2 := Nat.ne_of_lt hlt2
  have HF := Lib.hid (S3.put4 0 (by simp) rfl (.int .u64 (d.a : Int)) (.int .u32 (d.n : Int)) (.int .i64 (d.id : Int)) (.int .i64 (d.f : Int)))
  clear S2 S3 k hb HPa
  go_wp2_with fail
  have HG := HF.out.alloc (.cells #[.int .u64 (d.a : Int), .int .u32 (d.n : Int), .int .i64 (d.id : Int), .int .i64 (d.f : Int)] 89)
  exact bodyPost_ret (v := d.v) (four_results _ _ _ 4 (w.heap.size + 1) rfl rfl _ _ _ _ (HG.blk 0 (by simp) rfl)) rfl ⟨rfl, HG.pop.pop⟩
end Go.Proofs.YtbpgblmhacpjlaaGreat
namespace Go.Proofs.YtbpgblmhacpjlaaGreat
open Go.RowKit

def IPt.pt (p : IPt) : Pt := ⟨p.at_.toNat, p.n.toNat, p.wr⟩
def noPt : Pt := ⟨0, 0, false⟩
/-- where a chain's descriptor i lies; its bytes -/
def pAt (q : Vs) (i : Nat) : Nat := q.ring + 16 * stA q.size q.na i
def encAt (q : Vs) (l : List Pt) (id i : Nat) : ByteArray := encB (l.getD i noPt).at_ (l.getD i noPt).n id (decide (i + 1 < l.length)) (l.getD i noPt).wr (stW q.size q.na i q.nw)
theorem encAt_size (q : Vs) (l : List Pt) (id i : Nat) : (encAt q l id i).size = 16 := encB_size _ _ _ _ _ _
theorem pAt_le {q : Vs} {n : Nat} (hq : q.Ok n) {i : Nat} (hi : i ≤ q.size) : pAt q i + 16 ≤ n := by
  have := hq.r
  have := stA_lt hq.na hi
  unfold pAt; omega
theorem pAt_ne {q : Vs} {i j : Nat} (hi : i < q.size) (hj : j < q.size) (h : i ≠ j) : pAt q i + 16 ≤ pAt q j ∨ pAt q j + 16 ≤ pAt q i := by
  have : stA q.size q.na i ≠ stA q.size q.na j := fun e => h (stA_inj hi hj e)
  unfold pAt; omega
/-- the first k descriptors written -/
def putN (q : Vs) (l : List Pt) (id : Nat) (xs : List UInt8) : Nat → List UInt8
  | 0 => xs
  | k + 1 => over (putN q l id xs k) (pAt q k) (encAt q l id k)
/-- .. as the code goes: the first one's flags are still what they were -/
def putM (q : Vs) (l : List Pt) (id : Nat) (xs : List UInt8) : Nat → List UInt8
  | 0 => over xs (pAt q 0) ((encAt q l id 0).extract 0 14)
  | k + 1 => over (putM q l id xs k) (pAt q (k + 1)) (encAt q l id (k + 1))
theorem ext14 (s : ByteArray) (h : s.size = 16) : (s.extract 0 14).size = 14 ∧ (s.extract 14 16).size = 2 := by
  rw [ByteArray.size_extract, ByteArray.size_extract]; omega
section
variable {q : Vs} {l : List Pt} {id : Nat} {xs : List UInt8}
theorem putN_length (hq : q.Ok xs.length) : ∀ k, k ≤ q.size → (putN q l id xs k).length = xs.length
  | 0, _ => rfl
  | k + 1, h => by
    have h1 := putN_length hq k (by omega)
    have h2 := pAt_le hq (i := k) (by omega)
    rw [putN, over_length _ _ _ (by rw [h1, encAt_size]; exact h2), h1]
theorem putM_length (hq : q.Ok xs.length) : ∀ k, k < q.size → (putM q l id xs k).length = xs.length
  | 0, h => by
    have h2 := pAt_le hq (i := 0) (by omega)
    have h3 := (ext14 _ (encAt_size q l id 0)).1
    rw [putM, over_length _ _ _ (by rw [h3]; omega)]
  | k + 1, h => by
    have h1 := putM_length hq k (by omega)
    have h2 := pAt_le hq (i := k + 1) (by omega)
    rw [putM, over_length _ _ _ (by rw [h1, encAt_size]; exact h2), h1]
theorem putM_done (hq : q.Ok xs.length) : ∀ k, k < q.size → over (putM q l id xs k) (pAt q 0 + 14) ((encAt q l id 0).extract 14 16) = putN q l id xs (k + 1)
  | 0, h => by
    have h2 := pAt_le hq (i := 0) (by omega)
    have h3 := encAt_size q l id 0
    have := over_join xs (pAt q 0) 14 (encAt q l id 0) (by omega) (by omega)
    rw [h3] at this
    rw [putM, this]; rfl
  | k + 1, h => by
    have h1 := putM_length (l := l) (id := id) hq k (by omega)
    have h2 := pAt_le hq (i := k + 1) (by omega)
    have h0 := pAt_le hq (i := 0) (by omega)
    have h3 := (ext14 _ (encAt_size q l id 0)).2
    have h4 := encAt_size q l id (k + 1)
    have h5 := pAt_ne (q := q) (i := 0) (j := k + 1) (by omega) h (by omega)
    rw [putM, over_comm _ _ _ _ _ (by omega) (by omega) (by omega), putM_done hq k (by omega)]; rfl
end
/-- the queue behind a chain of n parts that was posted -/
def Vs.posted (q : Vs) (n : Nat) : Vs := { q with na := stA q.size q.na n, nw := stW q.size q.na n q.nw, since := q.since + n, hs := q.hs.set (leastId q.hs) n }
/-- Post: the id, the error, the bytes, the queue -/
def postC (xs : List UInt8) (q : Vs) (l : List IPt) : Int × Int × List UInt8 × Vs :=
  if chainB xs l then
    if q.free < l.length then (0, 151, xs, q)
    else ((leastId q.hs : Int), 0, putN q (l.map IPt.pt) (leastId q.hs) xs l.length, q.posted l.length)
  else (0, 150, xs, q)
theorem chain_len {xs : List UInt8} {l : List IPt} (h : chainB xs l = true) : 1 ≤ l.length ∧ l.length ≤ 64 := by
  unfold chainB at h; simp at h; omega
theorem free_le {q : Vs} {n : Nat} (hq : q.Ok n) : q.free ≤ q.size ∧ q.free + q.hs.sum = q.size := by
  have := hq.sum; unfold Vs.free; omega
theorem post_room {q : Vs} {n k : Nat} (hq : q.Ok n) (hk : 1 ≤ k) (hf : ¬ q.free < k) : leastId q.hs < q.hs.length := by
  have := free_le hq
  have := hq.hl
  exact least_lt (by omega)
theorem posted_ok {q : Vs} {n k : Nat} (hq : q.Ok n) (hk : 1 ≤ k) (hf : ¬ q.free < k) : (q.posted k).Ok n := by
  have h1 := free_le hq
  have h2 := hq.na
  have hr := post_room hq hk hf
  have h3 := sum_set q.hs (leastId q.hs) k hr
  rw [least_zero hr] at h3
  exact ⟨hq.s1, hq.s2, hq.r, hq.drv, hq.dev, stA_lt h2 (by omega), hq.ba, hq.ta, by simp [Vs.posted, hq.hl], by simp only [Vs.posted]; omega⟩
theorem posted_free {q : Vs} {n k : Nat} (hq : q.Ok n) (hk : 1 ≤ k) (hf : ¬ q.free < k) : (q.posted k).free = q.free - k := by
  have h1 := free_le hq
  have hr := post_room hq hk hf
  have h3 := sum_set q.hs (leastId q.hs) k hr
  rw [least_zero hr] at h3
  simp only [Vs.free, Vs.posted]; omega
theorem postC_ok {xs : List UInt8} {q : Vs} (hq : q.Ok xs.length) (l : List IPt) : (postC xs q l).2.2.1.length = xs.length ∧ (postC xs q l).2.2.2.Ok xs.length := by
  unfold postC
  split
  · rename_i hc
    have hl := chain_len hc
    split
    · exact ⟨rfl, hq⟩
    · rename_i hf
      have h1 := free_le hq
      exact ⟨putN_length hq _ (by omega), posted_ok hq hl.1 hf⟩
  · exact ⟨rfl, hq⟩

/-! Reap -/
def usedB (f : Nat) (w : Bool) : Bool := (f / 128 % 2 == 1) == w && (f / 32768 % 2 == 1) == w
theorem usedB_of {R : Nat} (h : Rest R) (a u w : Bool) : usedB (R + mk a u) w = (a == w && u == w) := by
  have h1 := h.1
  have h2 := h.2.1
  have h3 := h.2.2
  unfold usedB mk one
  have e1 : (R + (128 * (if a = true then 1 else 0) + 32768 * (if u = true then 1 else 0))) / 128 % 2 = if a = true then 1 else 0 := by split <;> split <;> omega
  have e2 : (R + (128 * (if a = true then 1 else 0) + 32768 * (if u = true then 1 else 0))) / 32768 % 2 = if u = true then 1 else 0 := by split <;> split <;> omega
  rw [e1, e2]
  cases a <;> cases u <;> rfl
def Vs.reaped (q : Vs) (id : Nat) : Vs := { q with ba := stA q.size q.ba (q.hs.getD id 0), bw := stW q.size q.ba (q.hs.getD id 0) q.bw, hs := q.hs.set id 0 }
/-- Reap: the id, how many bytes, is there one, the error, the queue -/
def reapC (xs : List UInt8) (q : Vs) : Int × Int × Bool × Int × Vs :=
  if usedB (deAt xs (q.ring + 16 * q.ba)).f q.bw then
    if 0 < q.hs.getD (deAt xs (q.ring + 16 * q.ba)).id 0 then (((deAt xs (q.ring + 16 * q.ba)).id : Int), ((deAt xs (q.ring + 16 * q.ba)).n : Int), true, 0, q.reaped (deAt xs (q.ring + 16 * q.ba)).id)
    else (0, 0, false, 150, q)
  else (0, 0, false, 0, q)
theorem held_lt {hs : List Nat} {i : Nat} (h : 0 < hs.getD i 0) : i < hs.length := by
  rcases Nat.lt_or_ge i hs.length with h1 | h1
  · exact h1
  · rw [List.getD_eq_getElem?_getD, List.getElem?_eq_none h1] at h; simp at h
theorem reaped_ok {q : Vs} {n id : Nat} (hq : q.Ok n) (h : 0 < q.hs.getD id 0) : (q.reaped id).Ok n := by
  have h1 := le_sum q.hs id
  have h2 := hq.sum
  have h3 := sum_set q.hs id 0 (held_lt h)
  exact ⟨hq.s1, hq.s2, hq.r, hq.drv, hq.dev, hq.na, stA_lt hq.ba (by omega), hq.ta, by simp [Vs.reaped, hq.hl], by simp only [Vs.reaped]; omega⟩
theorem reapC_ok {xs : List UInt8} {q : Vs} {n : Nat} (hq : q.Ok n) : (reapC xs q).2.2.2.2.Ok n := by
  unfold reapC
  split
  · split
    · rename_i h; exact reaped_ok hq h
    · exact hq
  · exact hq
theorem used_f (f : Nat) (h : f < 65536) (v : Bool) (w : World) :
    Calls Tryz.prog 37 #[.int .i64 (f : Int), .bool v] w fun e w' => e = .returned (.bool (usedB f v)) ∧ w = w' := by
  obtain ⟨a, u, R, hR, rfl⟩ := split f h
  rw [usedB_of hR]
  exact used_any R hR a u v w
end Go.Proofs.YtbpgblmhacpjlaaGreat
namespace Go.Proofs.YtbpgblmhacpjlaaGreat
open Go.RowKit

theorem blk4 {W : World} {k : Nat} {t : TypeId} {a b d e : Value} (h : Blk W k t #[a, b, d, e]) : W.cell? ⟨k, 0, none⟩ = some a ∧ W.cell? ⟨k, 1, none⟩ = some b ∧ W.cell? ⟨k, 2, none⟩ = some d ∧ W.cell? ⟨k, 3, none⟩ = some e ∧
    W.frozen? ⟨k, 0, none⟩ = false ∧ W.frozen? ⟨k, 1, none⟩ = false ∧ W.frozen? ⟨k, 2, none⟩ = false ∧ W.frozen? ⟨k, 3, none⟩ = false :=
  ⟨h.cell 0, h.cell 1, h.cell 2, h.cell 3, h.frozen 0, h.frozen 1, h.frozen 2, h.frozen 3⟩
def fitsB (xs : List UInt8) (a n u : Int) : Bool := (a.tmod u == 0) && mayB xs a n
section
variable {B g gb : Nat} {lv : Value} {xs : List UInt8} {w : World}
theorem qfits_any (h : Mem B g gb lv xs w) (a n u : Int) (hn : n < 9223372036854775808) (hu : u = 16 ∨ u = 4) :
    Calls Tryz.prog 82 #[.pointer (some ⟨g, 0, none⟩), .int .i64 a, .int .i64 n, .int .i64 u] w fun e w' => e = .returned (.bool (fitsB xs a n u)) ∧ w = w' := by
  have HM := Lib.hid (may_any h a n hn)
  unfold fitsB
  cases k : (a.tmod u == 0)
  · have u0 : (u == 0) = false := by rcases hu with rfl | rfl <;> rfl
    have u1 : ¬ u = 0 := by rcases hu with rfl | rfl <;> decide
    rcases hu with rfl | rfl
    all_goals
      clear h hn u0 u1
      go_enter Tryz.func82, Tryz.ntmps82
      go_wp2_with fail
      go_ret
      exact ⟨rfl, rfl⟩
  · rcases hu with rfl | rfl
    all_goals
      clear h hn
      go_enter Tryz.func82, Tryz.ntmps82
      go_wp2_with fail
      refine HM.out.mono ?_
      rintro e w1 ⟨rfl, rfl⟩
      go_wp2_with fail
      go_ret
      exact ⟨rfl, rfl⟩
/-- may a queue lie so? -/
def layB (xs : List UInt8) (ring size drv dev : Int) : Bool :=
  decide (1 ≤ size ∧ size ≤ 32768) && (fitsB xs ring (size * 16) 16 && (fitsB xs drv 4 4 && fitsB xs dev 4 4))
def layE (xs : List UInt8) (ring size drv dev : Int) : Int := if layB xs ring size drv dev then 0 else 140
set_option maxRecDepth 100000 in
theorem check_low (ring size drv dev : Int) (k : size < 1) (w : World) (g : Nat) :
    Calls Tryz.prog 59 #[.pointer (some ⟨g, 0, none⟩), .agg #[.int .i64 ring, .int .i64 size, .int .i64 drv, .int .i64 dev]] w fun e w' => e = .returned (.int .i64 140) ∧ Below w.heap.size w w' := by
  go_enter Tryz.func59, Tryz.ntmps59
  go_wp2_with fail
  go_ret
  exact ⟨rfl, ba (Below.refl _ _) _⟩
set_option maxRecDepth 100000 in
theorem check_high (ring size drv dev : Int) (k0 : ¬ size < 1) (k : 32768 < size) (w : World) (g : Nat) :
    Calls Tryz.prog 59 #[.pointer (some ⟨g, 0, none⟩), .agg #[.int .i64 ring, .int .i64 size, .int .i64 drv, .int .i64 dev]] w fun e w' => e = .returned (.int .i64 140) ∧ Below w.heap.size w w' := by
  go_enter Tryz.func59, Tryz.ntmps59
  go_wp2_with fail
  go_ret
  exact ⟨rfl, ba (Below.refl _ _) _⟩
set_option maxRecDepth 100000 in
theorem check_one (h : Mem B g gb lv xs w) (ring size drv dev : Int) (s1 : 1 ≤ size) (s2 : size ≤ 32768) (k1 : fitsB xs ring (size * 16) 16 = false) :
    Calls Tryz.prog 59 #[.pointer (some ⟨g, 0, none⟩), .agg #[.int .i64 ring, .int .i64 size, .int .i64 drv, .int .i64 dev]] w fun e w' => e = .returned (.int .i64 140) ∧ Below w.heap.size w w' := by
  have hb1 := ba (Below.refl w.heap.size w) (.cells #[.int .i64 ring, .int .i64 size, .int .i64 drv, .int .i64 dev] 23)
  have v1 : IntKind.i64.wrap (size * 16) = size * 16 := by rw [IntKind.wrap_i64]; omega
  have H1 := Lib.hid (fun W (hb : Below w.heap.size w W) => by have := qfits_any (h.below hb (Nat.le_refl _)) ring (size * 16) 16 (by omega) (.inl rfl); rw [k1] at this; exact this)
  clear k1
  clear h
  go_enter Tryz.func59, Tryz.ntmps59
  go_wp2_with (first
    | (go_at_call 82; ((with_reducible refine (H1.out _ hb1).mono ?_); rintro e w1 ⟨rfl, rfl⟩)))
  go_ret
  exact ⟨rfl, ba (Below.refl _ _) _⟩
set_option maxRecDepth 100000 in
theorem check_two (h : Mem B g gb lv xs w) (ring size drv dev : Int) (s1 : 1 ≤ size) (s2 : size ≤ 32768) (k1 : fitsB xs ring (size * 16) 16 = true) (k2 : fitsB xs drv 4 4 = false) :
    Calls Tryz.prog 59 #[.pointer (some ⟨g, 0, none⟩), .agg #[.int .i64 ring, .int .i64 size, .int .i64 drv, .int .i64 dev]] w fun e w' => e = .returned (.int .i64 140) ∧ Below w.heap.size w w' := by
  have hb1 := ba (Below.refl w.heap.size w) (.cells #[.int .i64 ring, .int .i64 size, .int .i64 drv, .int .i64 dev] 23)
  have v1 : IntKind.i64.wrap (size * 16) = size * 16 := by rw [IntKind.wrap_i64]; omega
  have H1 := Lib.hid (fun W (hb : Below w.heap.size w W) => by have := qfits_any (h.below hb (Nat.le_refl _)) ring (size * 16) 16 (by omega) (.inl rfl); rw [k1] at this; exact this)
  have H2 := Lib.hid (fun W (hb : Below w.heap.size w W) => by have := qfits_any (h.below hb (Nat.le_refl _)) drv (4) 4 (by omega) (.inr rfl); rw [k2] at this; exact this)
  clear k1 k2
  clear h
  go_enter Tryz.func59, Tryz.ntmps59
  go_wp2_with (first
    | (go_at_call 82; ((with_reducible refine (H1.out _ hb1).mono ?_); rintro e w1 ⟨rfl, rfl⟩))
    | (go_at_call 82; ((with_reducible refine (H2.out _ hb1).mono ?_); rintro e w1 ⟨rfl, rfl⟩)))
  go_ret
  exact ⟨rfl, ba (Below.refl _ _) _⟩
set_option maxRecDepth 100000 in
theorem check_three (h : Mem B g gb lv xs w) (ring size drv dev : Int) (s1 : 1 ≤ size) (s2 : size ≤ 32768) (k1 : fitsB xs ring (size * 16) 16 = true) (k2 : fitsB xs drv 4 4 = true) (k3 : fitsB xs dev 4 4 = false) :
    Calls Tryz.prog 59 #[.pointer (some ⟨g, 0, none⟩), .agg #[.int .i64 ring, .int .i64 size, .int .i64 drv, .int .i64 dev]] w fun e w' => e = .returned (.int .i64 140) ∧ Below w.heap.size w w' := by
  have hb1 := ba (Below.refl w.heap.size w) (.cells #[.int .i64 ring, .int .i64 size, .int .i64 drv, .int .i64 dev] 23)
  have v1 : IntKind.i64.wrap (size * 16) = size * 16 := by rw [IntKind.wrap_i64]; omega
  have H1 := Lib.hid (fun W (hb : Below w.heap.size w W) => by have := qfits_any (h.below hb (Nat.le_refl _)) ring (size * 16) 16 (by omega) (.inl rfl); rw [k1] at this; exact this)
  have H2 := Lib.hid (fun W (hb : Below w.heap.size w W) => by have := qfits_any (h.below hb (Nat.le_refl _)) drv (4) 4 (by omega) (.inr rfl); rw [k2] at this; exact this)
  have H3 := Lib.hid (fun W (hb : Below w.heap.size w W) => by have := qfits_any (h.below hb (Nat.le_refl _)) dev (4) 4 (by omega) (.inr rfl); rw [k3] at this; exact this)
  clear k1 k2 k3
  clear h
  go_enter Tryz.func59, Tryz.ntmps59
  go_wp2_with (first
    | (go_at_call 82; ((with_reducible refine (H1.out _ hb1).mono ?_); rintro e w1 ⟨rfl, rfl⟩))
    | (go_at_call 82; ((with_reducible refine (H2.out _ hb1).mono ?_); rintro e w1 ⟨rfl, rfl⟩))
    | (go_at_call 82; ((with_reducible refine (H3.out _ hb1).mono ?_); rintro e w1 ⟨rfl, rfl⟩)))
  go_ret
  exact ⟨rfl, ba (Below.refl _ _) _⟩
set_option maxRecDepth 100000 in
theorem check_good (h : Mem B g gb lv xs w) (ring size drv dev : Int) (s1 : 1 ≤ size) (s2 : size ≤ 32768) (k1 : fitsB xs ring (size * 16) 16 = true) (k2 : fitsB xs drv 4 4 = true) (k3 : fitsB xs dev 4 4 = true) :
    Calls Tryz.prog 59 #[.pointer (some ⟨g, 0, none⟩), .agg #[.int .i64 ring, .int .i64 size, .int .i64 drv, .int .i64 dev]] w fun e w' => e = .returned (.int .i64 0) ∧ Below w.heap.size w w' := by
  have hb1 := ba (Below.refl w.heap.size w) (.cells #[.int .i64 ring, .int .i64 size, .int .i64 drv, .int .i64 dev] 23)
  have v1 : IntKind.i64.wrap (size * 16) = size * 16 := by rw [IntKind.wrap_i64]; omega
  have H1 := Lib.hid (fun W (hb : Below w.heap.size w W) => by have := qfits_any (h.below hb (Nat.le_refl _)) ring (size * 16) 16 (by omega) (.inl rfl); rw [k1] at this; exact this)
  have H2 := Lib.hid (fun W (hb : Below w.heap.size w W) => by have := qfits_any (h.below hb (Nat.le_refl _)) drv (4) 4 (by omega) (.inr rfl); rw [k2] at this; exact this)
  have H3 := Lib.hid (fun W (hb : Below w.heap.size w W) => by have := qfits_any (h.below hb (Nat.le_refl _)) dev (4) 4 (by omega) (.inr rfl); rw [k3] at this; exact this)
  clear k1 k2 k3
  clear h
  go_enter Tryz.func59, Tryz.ntmps59
  go_wp2_with (first
    | (go_at_call 82; ((with_reducible refine (H1.out _ hb1).mono ?_); rintro e w1 ⟨rfl, rfl⟩))
    | (go_at_call 82; ((with_reducible refine (H2.out _ hb1).mono ?_); rintro e w1 ⟨rfl, rfl⟩))
    | (go_at_call 82; ((with_reducible refine (H3.out _ hb1).mono ?_); rintro e w1 ⟨rfl, rfl⟩)))
  go_ret
  exact ⟨rfl, ba (Below.refl _ _) _⟩
theorem check_any (h : Mem B g gb lv xs w) (ring size drv dev : Int) :
    Calls Tryz.prog 59 #[.pointer (some ⟨g, 0, none⟩), .agg #[.int .i64 ring, .int .i64 size, .int .i64 drv, .int .i64 dev]] w fun e w' => e = .returned (.int .i64 (layE xs ring size drv dev)) ∧ Below w.heap.size w w' := by
  unfold layE layB
  by_cases k1 : size < 1
  · rw [if_neg (by simp; omega)]; exact check_low ring size drv dev k1 w g
  by_cases k2 : 32768 < size
  · rw [if_neg (by simp; omega)]; exact check_high ring size drv dev k1 k2 w g
  rw [decide_eq_true (p := 1 ≤ size ∧ size ≤ 32768) (by omega), Bool.true_and]
  cases e1 : fitsB xs ring (size * 16) 16
  · exact check_one h ring size drv dev (by omega) (by omega) e1
  cases e2 : fitsB xs drv 4 4
  · exact check_two h ring size drv dev (by omega) (by omega) e1 e2
  cases e3 : fitsB xs dev 4 4
  · exact check_three h ring size drv dev (by omega) (by omega) e1 e2 e3
  · exact check_good h ring size drv dev (by omega) (by omega) e1 e2 e3
end
theorem lay_facts {xs : List UInt8} {ring size drv dev : Int} (h : layB xs ring size drv dev = true) :
    (1 ≤ size ∧ size ≤ 32768) ∧ (0 ≤ ring ∧ ring + size * 16 ≤ xs.length) ∧ (0 ≤ drv ∧ drv + 4 ≤ xs.length) ∧ (0 ≤ dev ∧ dev + 4 ≤ xs.length) := by
  unfold layB fitsB mayB at h
  simp only [Bool.and_eq_true, decide_eq_true_eq] at h
  omega
end Go.Proofs.YtbpgblmhacpjlaaGreat
