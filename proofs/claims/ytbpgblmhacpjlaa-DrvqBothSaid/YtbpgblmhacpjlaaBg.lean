/-
  A driver and a device over one ring: what stands at each place; each call; all that is out comes back.
-/
import Derived.Test.YtbpgblmhacpjlaaNm
import Derived.Test.YtbpgblmhacpjlaaBe
import Derived.Test.YtbpgblmhacpjlaaSep4
import Derived.Deep.Upon
import Derived.BigQuiet
import Derived.Deep.QuietTactic
import Derived.Test.YtbpgblmhacpjlaaLc
import Derived.Deep.RegionHeld3
namespace Go.Proofs.Ytbpgblmhacpjlaa
open Go.RowKit

/-! places by steps -/
def plW (n s : Nat) : Bool := s / n % 2 == 0
theorem stA_pl {n s k : Nat} (h : 1 ≤ n) (hk : k ≤ n) : stA n (s % n) k = (s + k) % n := by
  have hr := Nat.mod_lt s h
  rw [← Nat.mod_add_mod]
  generalize s % n = r at *
  unfold stA
  split
  · rename_i h1; rw [Nat.mod_eq_of_lt h1]
  · rename_i h1; rw [Nat.mod_eq_sub_mod (by omega), Nat.mod_eq_of_lt (by omega)]
theorem par_succ (d : Nat) : ((d + 1) % 2 == 0) = !(d % 2 == 0) := by
  rcases Nat.mod_two_eq_zero_or_one d with e | e
  · have e2 : (d + 1) % 2 = 1 := by omega
    rw [e, e2]; rfl
  · have e2 : (d + 1) % 2 = 0 := by omega
    rw [e, e2]; rfl
theorem stW_pl {n s k : Nat} (h : 1 ≤ n) (hk : k ≤ n) : stW n (s % n) k (plW n s) = plW n (s + k) := by
  have hr := Nat.mod_lt s h
  have e := Nat.div_add_mod s n
  have e2 : s + k = n * (s / n) + (s % n + k) := by omega
  unfold stW plW
  rw [e2, Nat.mul_add_div h]
  generalize s % n = r at *
  split
  · rename_i h1; rw [Nat.div_eq_of_lt h1, Nat.add_zero]
  · rename_i h1
    have e3 : r + k = n * 1 + (r + k - n) := by omega
    rw [e3, Nat.mul_add_div h, Nat.div_eq_of_lt (by omega : r + k - n < n), Nat.add_zero, par_succ]
theorem plW_turn {n s : Nat} (h : 1 ≤ n) : plW n (s + n) = !plW n s := by
  unfold plW
  rw [Nat.add_div_right s h]
  exact par_succ _
theorem pl_inj {n b s t : Nat} (hs : b ≤ s ∧ s < b + n) (ht : b ≤ t ∧ t < b + n) (e : s % n = t % n) : s = t := by
  have e1 := Nat.div_add_mod s n
  have e2 := Nat.div_add_mod t n
  rw [e] at e1
  rcases Nat.lt_trichotomy (s / n) (t / n) with h | h | h
  · have := Nat.mul_le_mul_left n (show s / n + 1 ≤ t / n by omega)
    rw [Nat.mul_succ] at this; omega
  · rw [h] at e1; omega
  · have := Nat.mul_le_mul_left n (show t / n + 1 ≤ s / n by omega)
    rw [Nat.mul_succ] at this; omega

/-! what stands at a place -/
def atS (xs : List UInt8) (n s : Nat) : De := deAt xs (16 * (s % n))
theorem atS_turn (xs : List UInt8) (n s : Nat) : atS xs n (s + n) = atS xs n s := by unfold atS; rw [Nat.add_mod_right]
def avb (f : Nat) : Bool := f / 128 % 2 == 1
def usb (f : Nat) : Bool := f / 32768 % 2 == 1
theorem usedB_bits (f : Nat) (w : Bool) : usedB f w = (avb f == w && usb f == w) := rfl
theorem availB_bits (f : Nat) (w : Bool) : availB f w = (avb f == w && !(usb f == w)) := rfl
theorem avb_of {R : Nat} (h : Rest R) (a u : Bool) : avb (R + mk a u) = a := by
  have h1 := h.1
  have h2 := h.2.1
  have h3 := h.2.2
  unfold avb mk one
  have e1 : (R + (128 * (if a = true then 1 else 0) + 32768 * (if u = true then 1 else 0))) / 128 % 2 = if a = true then 1 else 0 := by split <;> split <;> omega
  rw [e1]
  cases a <;> rfl
theorem usb_of {R : Nat} (h : Rest R) (a u : Bool) : usb (R + mk a u) = u := by
  have h1 := h.1
  have h2 := h.2.1
  have h3 := h.2.2
  unfold usb mk one
  have e2 : (R + (128 * (if a = true then 1 else 0) + 32768 * (if u = true then 1 else 0))) / 32768 % 2 = if u = true then 1 else 0 := by split <;> split <;> omega
  rw [e2]
  cases u <;> rfl
theorem flF_avb (m w v : Bool) : avb (flF m w v) = v := avb_of (flN_rest m w) v _
theorem flF_usb (m w v : Bool) : usb (flF m w v) = !v := by
  unfold flF
  rw [usb_of (flN_rest m w)]
  cases v <;> rfl
theorem flF_bits (m w v : Bool) : (flF m w v / 1 % 2 == 1) = m ∧ (flF m w v / 2 % 2 == 1) = w ∧ (flF m w v / 4 % 2 == 1) = false := by
  cases m <;> cases w <;> cases v <;> decide
/-- A chain: its id, its parts. -/
structure Cn where
  id : Nat
  ps : List Pt
def Cn.k (c : Cn) : Nat := c.ps.length
/-- its descriptor j, from place s on -/
def deC (c : Cn) (n s j : Nat) : De := ⟨(c.ps.getD j noPt).at_, (c.ps.getD j noPt).n, c.id, flF (decide (j + 1 < c.ps.length)) (c.ps.getD j noPt).wr (plW n (s + j))⟩
theorem deC_bits (c : Cn) (n s j : Nat) : (deC c n s j).bit 1 = decide (j + 1 < c.ps.length) ∧ (deC c n s j).bit 2 = (c.ps.getD j noPt).wr ∧ (deC c n s j).bit 4 = false := flF_bits _ _ _
def CnAt (xs : List UInt8) (n s : Nat) (c : Cn) : Prop := ∀ j, j < c.ps.length → atS xs n (s + j) = deC c n s j
/-- its parts may be -/
def wOk : List Pt → Bool → Prop
  | [], _ => True
  | p :: r, v => (v = true → p.wr = true) ∧ 0 < p.n ∧ p.at_ + p.n ≤ 1024 ∧ wOk r p.wr
structure Cn.Ok (c : Cn) : Prop where
  id : c.id ≤ 65535
  l1 : 1 ≤ c.ps.length
  l64 : c.ps.length ≤ 64
  ok : wOk c.ps false
theorem chainGo_w {xs : List UInt8} (hx : xs.length = 1024) : ∀ (l : List IPt) (v : Bool), chainGo xs l v = true → wOk (l.map IPt.pt) v
  | [], _, _ => trivial
  | p :: r, v, h => by
    unfold chainGo mayB at h
    simp only [Bool.and_eq_true, decide_eq_true_eq, Bool.or_eq_true, Bool.not_eq_true'] at h
    obtain ⟨h1, h2, h3, h4⟩ := h
    have h4 := chainGo_w hx r p.wr h4
    refine ⟨fun hv => ?_, ?_, ?_, h4⟩
    · rcases h3 with h3 | h3
      · rw [hv] at h3; cases h3
      · exact h3
    · show 0 < p.n.toNat; omega
    · show p.at_.toNat + p.n.toNat ≤ 1024; omega
/-! many chains, one behind the other -/
def szs : List Cn → Nat
  | [] => 0
  | c :: P => c.ps.length + szs P
theorem szs_append : ∀ (P Q : List Cn), szs (P ++ Q) = szs P + szs Q
  | [], Q => by simp [szs]
  | c :: P, Q => by have := szs_append P Q; simp only [List.cons_append, szs]; omega
theorem szs_erase : ∀ (T : List Cn) (k : Nat) (h : k < T.length), szs (T.eraseIdx k) + T[k].ps.length = szs T
  | c :: T, 0, _ => by simp [szs]; omega
  | c :: T, k + 1, h => by
    have := szs_erase T k (by simpa using h)
    simp only [List.eraseIdx_cons_succ, szs, List.getElem_cons_succ]; omega
def Lies (xs : List UInt8) (n : Nat) : Nat → List Cn → Prop
  | _, [] => True
  | s, c :: P => CnAt xs n s c ∧ Lies xs n (s + c.ps.length) P
theorem Lies.same {xs ys : List UInt8} {n : Nat} : ∀ (P : List Cn) (s : Nat), (∀ j, s ≤ j → j < s + szs P → atS ys n j = atS xs n j) → Lies xs n s P → Lies ys n s P
  | [], _, _, _ => trivial
  | c :: P, s, h, hl => by
    refine ⟨fun j hj => (h (s + j) (by omega) (by simp only [szs]; omega)).trans (hl.1 j hj), Lies.same P _ (fun j h1 h2 => h j (by omega) (by simp only [szs]; omega)) hl.2⟩
theorem Lies.append {xs : List UInt8} {n : Nat} {c : Cn} : ∀ (P : List Cn) (s : Nat), Lies xs n s P → CnAt xs n (s + szs P) c → Lies xs n s (P ++ [c])
  | [], s, _, h => ⟨by simpa [szs] using h, trivial⟩
  | d :: P, s, hl, h => ⟨hl.1, Lies.append P _ hl.2 (by simp only [szs] at h; rwa [Nat.add_assoc])⟩
/-- What was given back: its id, its places, how many bytes were written. -/
structure Gv where
  id : Nat
  k : Nat
  wr : Nat
def szg : List Gv → Nat
  | [] => 0
  | g :: G => g.k + szg G
theorem szg_append : ∀ (P Q : List Gv), szg (P ++ Q) = szg P + szg Q
  | [], Q => by simp [szg]
  | c :: P, Q => by have := szg_append P Q; simp only [List.cons_append, szg]; omega
def Gvn (xs : List UInt8) (n : Nat) : Nat → List Gv → Prop
  | _, [] => True
  | s, g :: G => ((atS xs n s).id = g.id ∧ (atS xs n s).n = g.wr ∧ usedB (atS xs n s).f (plW n s) = true ∧ 1 ≤ g.k) ∧ Gvn xs n (s + g.k) G
theorem Gvn.same {xs ys : List UInt8} {n : Nat} : ∀ (G : List Gv) (s : Nat), (∀ j, s ≤ j → j < s + szg G → atS ys n j = atS xs n j) → Gvn xs n s G → Gvn ys n s G
  | [], _, _, _ => trivial
  | g :: G, s, h, hl => by
    obtain ⟨⟨h1, h2, h3, h4⟩, hr⟩ := hl
    have e := h s (Nat.le_refl _) (by simp only [szg]; omega)
    refine ⟨by rw [e]; exact ⟨h1, h2, h3, h4⟩, Gvn.same G _ (fun j h1 h2 => h j (by omega) (by simp only [szg]; omega)) hr⟩
theorem Gvn.append {xs : List UInt8} {n : Nat} {g : Gv} : ∀ (G : List Gv) (s : Nat), Gvn xs n s G → ((atS xs n (s + szg G)).id = g.id ∧ (atS xs n (s + szg G)).n = g.wr ∧ usedB (atS xs n (s + szg G)).f (plW n (s + szg G)) = true ∧ 1 ≤ g.k) → Gvn xs n s (G ++ [g])
  | [], s, _, h => ⟨by simpa [szg] using h, trivial⟩
  | d :: G, s, hl, h => ⟨hl.1, Gvn.append G _ hl.2 (by simp only [szg] at h; rw [Nat.add_assoc]; exact h)⟩

/-! what is held -/
structure Outs (hs : List Nat) (L : List (Nat × Nat)) : Prop where
  at_ : ∀ x, x ∈ L → hs.getD x.1 0 = x.2 ∧ 0 < x.2
  nodup : (L.map Prod.fst).Nodup
  sum : hs.sum = (L.map Prod.snd).sum
  cnt : cnt hs = L.length
theorem Outs.perm {hs : List Nat} {L M : List (Nat × Nat)} (h : Outs hs L) (p : L.Perm M) : Outs hs M :=
  ⟨fun x hx => h.at_ x (p.mem_iff.2 hx), (p.map Prod.fst).nodup_iff.1 h.nodup, h.sum.trans (p.map Prod.snd).sum_nat, h.cnt.trans p.length_eq⟩
theorem Outs.add {hs : List Nat} {L : List (Nat × Nat)} {k : Nat} (h : Outs hs L) (hl : leastId hs < hs.length) (hk : 0 < k) : Outs (hs.set (leastId hs) k) ((leastId hs, k) :: L) := by
  have hz := least_zero hl
  have hno : ∀ x, x ∈ L → x.1 ≠ leastId hs := fun x hx e => by
    have := h.at_ x hx
    rw [e, hz] at this; omega
  refine ⟨fun x hx => ?_, ?_, ?_, ?_⟩
  · rcases List.mem_cons.1 hx with rfl | hx
    · rw [getD_set hl, if_pos rfl]; exact ⟨rfl, hk⟩
    · rw [getD_set hl, if_neg (hno x hx)]; exact h.at_ x hx
  · rw [List.map_cons, List.nodup_cons]
    refine ⟨fun hm => ?_, h.nodup⟩
    obtain ⟨x, hx, e⟩ := List.mem_map.1 hm
    exact hno x hx e
  · have := sum_set hs (leastId hs) k hl
    rw [hz] at this
    simp only [List.map_cons, List.sum_cons]
    rw [← h.sum]; omega
  · have := cnt_set hs (leastId hs) k hl
    rw [hz, if_pos hk] at this
    simp only [Nat.lt_irrefl, if_false] at this
    simp only [List.length_cons]
    rw [← h.cnt]; omega
theorem Outs.del {hs : List Nat} {L : List (Nat × Nat)} {i k : Nat} (h : Outs hs ((i, k) :: L)) : Outs (hs.set i 0) L := by
  obtain ⟨e, hk⟩ := h.at_ (i, k) (List.mem_cons_self ..)
  have e : hs.getD i 0 = k := e
  have hi : i < hs.length := held_lt (by rw [e]; exact hk)
  have hn := h.nodup
  rw [List.map_cons, List.nodup_cons] at hn
  refine ⟨fun x hx => ?_, hn.2, ?_, ?_⟩
  · rw [getD_set hi, if_neg (fun e2 => hn.1 (List.mem_map.2 ⟨x, hx, e2⟩))]
    exact h.at_ x (List.mem_cons_of_mem _ hx)
  · have h1 := sum_set hs i 0 hi
    have h2 := h.sum
    simp only [List.map_cons, List.sum_cons] at h2
    rw [e] at h1; omega
  · have h1 := cnt_set hs i 0 hi
    have h2 := h.cnt
    rw [e, if_pos hk] at h1
    simp only [List.length_cons] at h2
    simp only [Nat.lt_irrefl, if_false] at h1
    omega
def outL (P T : List Cn) (G : List Gv) : List (Nat × Nat) := G.map (fun g => (g.id, g.k)) ++ (T.map (fun c => (c.id, c.ps.length)) ++ P.map (fun c => (c.id, c.ps.length)))
theorem szs_sum : ∀ P : List Cn, ((P.map (fun c => (c.id, c.ps.length))).map Prod.snd).sum = szs P
  | [] => rfl
  | c :: P => by have := szs_sum P; simp only [List.map_cons, List.sum_cons, szs]; omega
theorem szg_sum : ∀ G : List Gv, ((G.map (fun g => (g.id, g.k))).map Prod.snd).sum = szg G
  | [] => rfl
  | g :: G => by have := szg_sum G; simp only [List.map_cons, List.sum_cons, szg]; omega
theorem outL_sum (P T : List Cn) (G : List Gv) : ((outL P T G).map Prod.snd).sum = szg G + szs T + szs P := by
  unfold outL
  rw [List.map_append, List.map_append, List.sum_append, List.sum_append, szg_sum, szs_sum, szs_sum]; omega
theorem outL_length (P T : List Cn) (G : List Gv) : (outL P T G).length = P.length + T.length + G.length := by
  unfold outL
  simp; omega

/-! driver and device -/
structure Both (n : Nat) (xs : List UInt8) (q : Vs) (z : Qs) (P T : List Cn) (G : List Gv) (b : Nat) : Prop where
  n1 : 1 ≤ n
  n2 : n ≤ 32
  len : xs.length = 1024
  qok : q.Ok 1024
  qr : q.ring = 0
  qs : q.size = n
  qna : q.na = (b + szg G + szs T + szs P) % n
  qnw : q.nw = plW n (b + szg G + szs T + szs P)
  qba : q.ba = b % n
  qbw : q.bw = plW n b
  zok : z.Ok 1024
  zr : z.ring = 0
  zs : z.size = n
  zna : z.na = (b + szg G + szs T) % n
  znw : z.nw = plW n (b + szg G + szs T)
  zba : z.ba = (b + szg G) % n
  zbw : z.bw = plW n (b + szg G)
  zout : z.out = szs T
  zbr : z.broken = false
  av : ∀ s, b ≤ s → s < b + n → avb (atS xs n s).f = if s < b + szg G + szs T + szs P then plW n s else !plW n s
  us : ∀ s, b + szg G ≤ s → s < b + szg G + szs T + szs P → usb (atS xs n s).f = !plW n s
  ps : Lies xs n (b + szg G + szs T) P
  gs : Gvn xs n b G
  outs : Outs q.hs (outL P T G)
  okP : ∀ c, c ∈ P → c.Ok
  okT : ∀ c, c ∈ T → c.Ok
section
variable {n b : Nat} {xs : List UInt8} {q : Vs} {z : Qs} {P T : List Cn} {G : List Gv}
theorem Both.total (h : Both n xs q z P T G b) : szg G + szs T + szs P ≤ n ∧ q.hs.sum = szg G + szs T + szs P ∧ q.free + (szg G + szs T + szs P) = n := by
  have h1 := h.outs.sum
  rw [outL_sum] at h1
  have h2 := h.qok.sum
  have h3 := free_le h.qok
  rw [h.qs] at h2 h3
  omega
theorem Both.held (h : Both n xs q z P T G b) : (heldL q.hs).length = P.length + T.length + G.length := by
  rw [heldL_cnt, h.outs.cnt, outL_length]
theorem slot_le (n1 : 1 ≤ n) (n2 : n ≤ 32) (s : Nat) : 16 * (s % n) + 16 ≤ 1024 := by
  have := Nat.mod_lt s n1
  omega
theorem slot_ne {s t : Nat} (e : s % n ≠ t % n) : 16 * (s % n) + 16 ≤ 16 * (t % n) ∨ 16 * (t % n) + 16 ≤ 16 * (s % n) := by omega
/-- Post's descriptors -/
theorem putN_pl (h : Both n xs q z P T G b) {L : List Pt} {id : Nat} (hid : id ≤ 65535) (hL : wOk L false) (hk : szg G + szs T + szs P + L.length ≤ n) : ∀ m, m ≤ L.length → (putN q L id xs m).length = 1024 ∧ ∀ s, b ≤ s → s < b + n →
    atS (putN q L id xs m) n s = if b + szg G + szs T + szs P ≤ s ∧ s < b + szg G + szs T + szs P + m then deC ⟨id, L⟩ n (b + szg G + szs T + szs P) (s - (b + szg G + szs T + szs P)) else atS xs n s := by
  have hn1 := h.n1
  have hn2 := h.n2
  have hfit : ∀ (l : List Pt) (v : Bool), wOk l v → ∀ j, (l.getD j noPt).at_ ≤ 1024 ∧ (l.getD j noPt).n ≤ 1024 := by
    intro l
    induction l with
    | nil => intro v _ j; simp [noPt]
    | cons p r ih =>
      intro v hw j
      obtain ⟨h1, h2, h3, h4⟩ := hw
      cases j with
      | zero => simp only [List.getD_cons_zero]; omega
      | succ j => simp only [List.getD_cons_succ]; exact ih _ h4 j
  intro m
  induction m with
  | zero =>
    intro _
    refine ⟨h.len, fun s h1 h2 => ?_⟩
    rw [if_neg (by omega)]; rfl
  | succ m ih =>
    intro hm
    obtain ⟨hl, ih⟩ := ih (by omega)
    have hp : pAt q m = 16 * ((b + szg G + szs T + szs P + m) % n) := by
      unfold pAt
      rw [h.qr, h.qs, h.qna, stA_pl hn1 (by omega), Nat.zero_add]
    have hw : stW q.size q.na m q.nw = plW n (b + szg G + szs T + szs P + m) := by rw [h.qs, h.qna, h.qnw, stW_pl hn1 (by omega)]
    have hsl := slot_le hn1 hn2 (b + szg G + szs T + szs P + m)
    have hsz := encAt_size q L id m
    refine ⟨by show (over _ _ _).length = _; rw [over_length _ _ _ (by rw [hl, hsz, hp]; exact hsl), hl], fun s h1 h2 => ?_⟩
    have hf := hfit L false hL m
    show deAt (over (putN q L id xs m) (pAt q m) (encAt q L id m)) (16 * (s % n)) = _
    by_cases e : s = b + szg G + szs T + szs P + m
    · subst e
      rw [if_pos (by omega), Nat.add_sub_cancel_left, hp]
      unfold encAt encB
      rw [deAt_on _ _ _ _ _ _ (by rw [hl]; exact hsl) (by omega) (by omega) hid (flF_lt _ _ _), hw]
      rfl
    · have hne : s % n ≠ (b + szg G + szs T + szs P + m) % n := fun e2 => e (pl_inj (b := b) ⟨h1, h2⟩ (by omega) e2)
      rw [hp, deAt_off _ _ _ (by rw [hl, hsz]; exact hsl) _ (by rw [hsz]; exact slot_ne hne)]
      have := ih s h1 h2
      unfold atS at this ⊢
      rw [this]
      by_cases e3 : b + szg G + szs T + szs P ≤ s ∧ s < b + szg G + szs T + szs P + m
      · rw [if_pos e3, if_pos (by omega)]
      · rw [if_neg e3, if_neg (by omega)]
theorem Both.post (h : Both n xs q z P T G b) {l : List IPt} (hc : chainB xs l = true) (hf : ¬ q.free < l.length) :
    Both n (putN q (l.map IPt.pt) (leastId q.hs) xs l.length) (q.posted l.length) z (P ++ [⟨leastId q.hs, l.map IPt.pt⟩]) T G b := by
  obtain ⟨t1, t2, t3⟩ := h.total
  obtain ⟨l1, l64⟩ := chain_len hc
  have hn1 := h.n1
  have hn2 := h.n2
  have hr := post_room h.qok l1 hf
  have hw : wOk (l.map IPt.pt) false := chainGo_w h.len l false (by unfold chainB at hc; simp only [Bool.and_eq_true] at hc; exact hc.2)
  have hid : leastId q.hs ≤ 65535 := by have := h.qok.hl; have := h.qs; omega
  have hlen : (l.map IPt.pt).length = l.length := List.length_map ..
  obtain ⟨pl, pat⟩ := putN_pl h (id := leastId q.hs) hid hw (by rw [hlen]; omega) l.length (by rw [hlen]; exact Nat.le_refl _)
  obtain ⟨c, hcE⟩ : ∃ c : Cn, (⟨leastId q.hs, l.map IPt.pt⟩ : Cn) = c := ⟨_, rfl⟩
  have hck : c.ps.length = l.length := by rw [← hcE]; exact hlen
  rw [hcE] at pat ⊢
  have hsz : szs (P ++ [c]) = szs P + l.length := by rw [szs_append]; simp only [szs]; omega
  refine ⟨hn1, hn2, pl, posted_ok h.qok l1 hf, h.qr, h.qs, ?_, ?_, h.qba, h.qbw, h.zok, h.zr, h.zs, h.zna, h.znw, h.zba, h.zbw, h.zout, h.zbr, fun s s1 s2 => ?_, fun s s1 s2 => ?_, ?_, ?_, ?_, fun d hd => ?_, h.okT⟩
  · show stA q.size q.na l.length = _
    rw [hsz, h.qs, h.qna, stA_pl hn1 (by omega), Nat.add_assoc _ (szs P)]
  · show stW q.size q.na l.length q.nw = _
    rw [hsz, h.qs, h.qna, h.qnw, stW_pl hn1 (by omega), Nat.add_assoc _ (szs P)]
  · rw [pat s s1 s2, hsz]
    by_cases e : b + szg G + szs T + szs P ≤ s ∧ s < b + szg G + szs T + szs P + l.length
    · rw [if_pos e, if_pos (by omega)]
      show avb (flF _ _ _) = _
      rw [flF_avb, Nat.add_sub_cancel' e.1]
    · rw [if_neg e, h.av s s1 s2]
      by_cases e2 : s < b + szg G + szs T + szs P
      · rw [if_pos e2, if_pos (by omega)]
      · rw [if_neg e2, if_neg (by omega)]
  · rw [hsz] at s2
    rw [pat s (by omega) (by omega)]
    by_cases e : b + szg G + szs T + szs P ≤ s ∧ s < b + szg G + szs T + szs P + l.length
    · rw [if_pos e]
      show usb (flF _ _ _) = _
      rw [flF_usb, Nat.add_sub_cancel' e.1]
    · rw [if_neg e]
      exact h.us s s1 (by omega)
  · refine Lies.append P _ (Lies.same P _ (fun j j1 j2 => ?_) h.ps) (fun j hj => ?_)
    · rw [pat j (by omega) (by omega), if_neg (by omega)]
    · rw [hck] at hj
      rw [pat _ (by omega) (by omega), if_pos (by omega), Nat.add_sub_cancel_left]
  · exact Gvn.same G _ (fun j j1 j2 => by rw [pat j (by omega) (by omega), if_neg (by omega)]) h.gs
  · have ha := h.outs.add hr (k := l.length) l1
    refine ha.perm ?_
    unfold outL
    rw [List.map_append, List.map_cons, List.map_nil, hck, ← hcE]
    simp only [← List.append_assoc]
    exact (List.perm_append_singleton _ _).symm
  · rcases List.mem_append.1 hd with hd | hd
    · exact h.okP d hd
    · rw [List.mem_singleton] at hd
      subst hd
      exact ⟨by rw [← hcE]; exact hid, by omega, by omega, by rw [← hcE]; exact hw⟩
theorem postC_yes {l : List IPt} (hc : chainB xs l = true) (hf : ¬ q.free < l.length) : postC xs q l = ((leastId q.hs : Int), 0, putN q (l.map IPt.pt) (leastId q.hs) xs l.length, q.posted l.length) := by
  unfold postC
  rw [if_pos hc, if_neg hf]

/-! Next -/
theorem ringGo_cn {c : Cn} {s : Nat} (h1 : 1 ≤ n) (hat : CnAt xs n s c) : ∀ (m j f : Nat) (l : List De), j + m + 1 = c.ps.length → m ≤ f →
    ringGo xs 0 n f ((s + j) % n) l (deC c n s j) = some (l ++ (List.range' j (m + 1)).map (deC c n s)) := by
  intro m
  induction m with
  | zero =>
    intro j f l hj hf
    rw [ringGo_end (by rw [(deC_bits c n s j).1]; simp; omega)]
    rfl
  | succ m ih =>
    intro j f l hj hf
    obtain ⟨f, rfl⟩ : ∃ g, f = g + 1 := ⟨f - 1, by omega⟩
    have hd : deAt xs (16 * ((s + (j + 1)) % n)) = deC c n s (j + 1) := hat (j + 1) (by omega)
    rw [ringGo_step (by rw [(deC_bits c n s j).1]; simp; omega), stA_pl h1 h1, Nat.zero_add, Nat.add_assoc s j 1, hd, ih (j + 1) f _ (by omega) (by omega), List.range'_succ (n := m + 1)]
    simp
theorem parts_cn {c : Cn} {s : Nat} (hx : xs.length = 1024) : ∀ (m j : Nat) (v : Bool), j + m = c.ps.length → wOk (c.ps.drop j) v → partsGo xs ((List.range' j m).map (deC c n s)) v = some (c.ps.drop j) := by
  intro m
  induction m with
  | zero => intro j v hj _; rw [List.drop_eq_nil_of_le (by omega)]; rfl
  | succ m ih =>
    intro j v hj hw
    have hjl : j < c.ps.length := by omega
    obtain ⟨-, b2, b4⟩ := deC_bits c n s j
    rw [List.drop_eq_getElem_cons hjl] at hw ⊢
    obtain ⟨w1, w2, w3, w4⟩ := hw
    have hg : c.ps.getD j noPt = c.ps[j] := by simp [hjl]
    rw [hg] at b2
    rw [List.range'_succ, List.map_cons]
    have hc : (!(deC c n s j).bit 4 && (deC c n s j).fit xs && ((deC c n s j).bit 2 || !v)) = true := by
      rw [b4, b2]
      have hfit : (deC c n s j).fit xs = true := by
        unfold De.fit deC
        simp only [decide_eq_true_eq, hx, hg]
        exact ⟨w2, w3⟩
      rw [hfit]
      cases v
      · simp
      · simp [w1 rfl]
    unfold partsGo
    rw [if_pos hc, b2, ih (j + 1) _ (by omega) w4]
    show some ((⟨(c.ps.getD j noPt).at_, (c.ps.getD j noPt).n, (c.ps[j]).wr⟩ : Pt) :: _) = _
    rw [hg]
theorem lastId_all {l : List De} {i : Nat} (h : ∀ d ∈ l, d.id = i) (hl : l ≠ []) : lastId l = i := by
  unfold lastId
  cases e : l.getLast? with
  | none => exact absurd (List.getLast?_eq_none_iff.1 e) hl
  | some d => exact h d (List.mem_of_getLast? e)
def takenQ' (z : Qs) (k : Nat) : Qs := { z with na := stA z.size z.na k, nw := stW z.size z.na k z.nw, out := z.out + k }
theorem Both.next_some {c : Cn} (h : Both n xs q z (c :: P) T G b) : nextC xs z = (⟨c.id, c.ps.length, c.ps⟩, true, 0, takenQ' z c.ps.length) ∧ Both n xs q (takenQ' z c.ps.length) P (T ++ [c]) G b := by
  obtain ⟨t1, t2, t3⟩ := h.total
  have hn1 := h.n1
  have hn2 := h.n2
  have hc := h.okP c (List.mem_cons_self ..)
  have c1 := hc.l1
  have hps : szs (c :: P) = c.ps.length + szs P := rfl
  rw [hps] at t1 t2 t3
  obtain ⟨hat, hps2⟩ := h.ps
  have h0 := hat 0 c1
  rw [Nat.add_zero] at h0
  have h0 : deAt xs (16 * ((b + szg G + szs T) % n)) = deC c n (b + szg G + szs T) 0 := h0
  have hav : availB (deAt xs (z.ring + 16 * z.na)).f z.nw = true := by
    rw [h.zr, h.zna, h.znw, Nat.zero_add, h0, availB_bits]
    show (avb (flF _ _ _) == _ && !(usb (flF _ _ _) == _)) = true
    rw [flF_avb, flF_usb, Nat.add_zero]
    cases plW n (b + szg G + szs T) <;> rfl
  have hr : ringV xs z = some ((List.range' 0 c.ps.length).map (deC c n (b + szg G + szs T))) := by
    have hal : c.ps.length - 1 ≤ allowed z - 1 := by
      unfold allowed
      rw [h.zs, h.zout]
      have := hc.l64
      omega
    unfold ringV
    rw [h.zr, h.zs, h.zna, Nat.zero_add, h0]
    have := ringGo_cn hn1 hat (c.ps.length - 1) 0 (allowed z - 1) [] (by omega) hal
    rw [Nat.add_zero, show c.ps.length - 1 + 1 = c.ps.length by omega] at this
    exact this
  have hnm : nameV xs ((List.range' 0 c.ps.length).map (deC c n (b + szg G + szs T))) = some ((List.range' 0 c.ps.length).map (deC c n (b + szg G + szs T))) := by
    by_cases e : c.ps.length = 1
    · rw [e]
      exact nameV_one _ _ (deC_bits c n _ 0).2.2
    · exact nameV_more _ _ (by simpa using e)
  have hpt := parts_cn (n := n) (s := b + szg G + szs T) (c := c) h.len c.ps.length 0 false (by omega) hc.ok
  rw [List.drop_zero] at hpt
  have hlast : lastId ((List.range' 0 c.ps.length).map (deC c n (b + szg G + szs T))) = c.id := by
    refine lastId_all (fun d hd => ?_) (fun e => ?_)
    · obtain ⟨j, -, rfl⟩ := List.mem_map.1 hd
      rfl
    · have := congrArg List.length e
      simp at this
      rw [this] at c1; simp at c1
  have hch : chainV xs z = some ⟨c.id, c.ps.length, c.ps⟩ := by
    unfold chainV
    rw [hr]
    show ((nameV _ _).bind _) = _
    rw [hnm]
    show ((partsGo _ _ false).map _) = _
    rw [hpt]
    simp [hlast]
  have hsT : szs (T ++ [c]) = szs T + c.ps.length := by rw [szs_append]; simp [szs]
  refine ⟨?_, hn1, hn2, h.len, h.qok, h.qr, h.qs, ?_, ?_, h.qba, h.qbw, ?_, h.zr, h.zs, ?_, ?_, h.zba, h.zbw, ?_, h.zbr, fun s s1 s2 => ?_, fun s s1 s2 => ?_, ?_, h.gs, ?_, fun d hd => h.okP d (List.mem_cons_of_mem _ hd), fun d hd => ?_⟩
  · unfold nextC
    rw [if_neg (by rw [h.zbr]; decide), if_neg (by rw [h.zout, h.zs]; omega), if_pos hav, hch]
    rfl
  · rw [h.qna, hsT, hps]; congr 1; omega
  · rw [h.qnw, hsT, hps]; congr 1; omega
  · exact ⟨h.zok.s1, h.zok.s2, h.zok.r, h.zok.drv, h.zok.dev, stA_lt h.zok.na (by rw [h.zs]; omega), h.zok.ba, h.zok.ta, by show z.out + c.ps.length ≤ z.size; rw [h.zout, h.zs]; omega⟩
  · show stA z.size z.na c.ps.length = _
    rw [h.zs, h.zna, stA_pl hn1 (by omega), hsT, Nat.add_assoc _ (szs T)]
  · show stW z.size z.na c.ps.length z.nw = _
    rw [h.zs, h.zna, h.znw, stW_pl hn1 (by omega), hsT, Nat.add_assoc _ (szs T)]
  · show z.out + c.ps.length = _
    rw [h.zout, hsT]
  · have := h.av s s1 s2
    rw [hps] at this
    rw [this, hsT]
    have e : b + szg G + szs T + (c.ps.length + szs P) = b + szg G + (szs T + c.ps.length) + szs P := by omega
    rw [e]
  · exact h.us s s1 (by rw [hps]; rw [hsT] at s2; omega)
  · rw [hsT, ← Nat.add_assoc]; exact hps2
  · refine h.outs.perm ?_
    unfold outL
    rw [List.map_append, List.append_assoc]
    exact .refl _
  · rcases List.mem_append.1 hd with hd | hd
    · exact h.okT d hd
    · rw [List.mem_singleton] at hd; rw [hd]; exact hc
theorem Both.next_none (h : Both n xs q z [] T G b) : nextC xs z = (noCh, false, 0, z) := by
  obtain ⟨t1, t2, t3⟩ := h.total
  have hn1 := h.n1
  have e0 : szs ([] : List Cn) = 0 := rfl
  rw [e0] at t1
  unfold nextC
  rw [if_neg (by rw [h.zbr]; decide)]
  split
  · rfl
  · rw [if_neg]
    rw [h.zr, h.zna, h.znw, Nat.zero_add, availB_bits]
    have hav : avb (deAt xs (16 * ((b + szg G + szs T) % n))).f = !plW n (b + szg G + szs T) := by
      rcases Nat.lt_or_ge (szg G + szs T) n with hl | hl
      · have := h.av (b + szg G + szs T) (by omega) (by omega)
        rw [e0, Nat.add_zero, if_neg (Nat.lt_irrefl _)] at this
        exact this
      · have e : b + szg G + szs T = b + n := by omega
        rw [e, Nat.add_mod_right, plW_turn hn1, Bool.not_not]
        have := h.av b (Nat.le_refl _) (by omega)
        rw [if_pos (by omega)] at this
        exact this
    rw [hav]
    cases plW n (b + szg G + szs T) <;> simp

/-! Done -/
theorem gn_cut (ys : List UInt8) (a i m : Nat) (h : i + m ≤ 16) : gn (cut16 ys a) i m = val ((ys.drop (a + i)).take m) := by
  unfold gn cutl cut16
  congr 1
  apply List.ext_getElem?
  intro j
  rw [cut_get _ i m j, cut_get ys (a + i) m j]
  by_cases hj : j < m
  · rw [if_pos hj, if_pos hj]
    show ((ys.drop a).take 16)[i + j]? = _
    rw [cut_get, if_pos (by omega)]
    congr 1; omega
  · rw [if_neg hj, if_neg hj]
theorem used_de (xs : List UInt8) (q : Qs) (id wr : Nat) (hq : q.Ok xs.length) (hid : id ≤ 65535) (hwr : wr < 4294967296) :
    (deAt (usedX xs q id wr) (q.ring + 16 * q.ba)).id = id ∧ (deAt (usedX xs q id wr) (q.ring + 16 * q.ba)).n = wr := by
  have h1 := hq.r
  have h2 := hq.ba
  obtain ⟨a, ha⟩ : ∃ a, q.ring + 16 * q.ba = a := ⟨_, rfl⟩
  have hal : a + 16 ≤ xs.length := by omega
  obtain ⟨E, hE⟩ : ∃ E, (desB 0 wr id (doneF q wr)).extract 8 14 = E := ⟨_, rfl⟩
  obtain ⟨K, hK⟩ : ∃ K, (desB 0 wr id (doneF q wr)).extract 14 16 = K := ⟨_, rfl⟩
  have e1 : E.size = 6 := by rw [← hE, ByteArray.size_extract, desB_size]; rfl
  have e2 : K.size = 2 := by rw [← hK, ByteArray.size_extract, desB_size]; rfl
  have l1 : (over xs (a + 8) E).length = xs.length := over_length _ _ _ (by omega)
  have hX : usedX xs q id wr = over (over xs (a + 8) E) (a + 14) K := by unfold usedX; rw [hE, hK, ha]
  have hl : E.data.toList = ((desB 0 wr id (doneF q wr)).data.toList.drop 8).take 6 := by rw [← hE, ByteArray.data_extract, Array.toList_extract]
  have hl2 : E.data.toList = digs wr 4 ++ digs id 2 := by
    rw [hl, desB_list]
    have e3 : digs 0 8 ++ (digs wr 4 ++ (digs id 2 ++ digs (doneF q wr) 2)) = digs 0 8 ++ ((digs wr 4 ++ digs id 2) ++ digs (doneF q wr) 2) := by simp
    rw [e3, mid _ _ _ 8 6 (digs_length _ _) (by simp [digs_length])]
  have hin : ∀ j, j < 6 → (usedX xs q id wr)[a + 8 + j]? = (digs wr 4 ++ digs id 2)[j]? := fun j hj => by
    rw [hX, over_in _ _ _ (by rw [l1, e2]; omega), if_neg (by omega), over_in _ _ _ (by rw [e1]; omega), if_pos (by rw [e1]; omega), hl2]
    congr 1; omega
  rw [ha]
  constructor
  · show gn (cut16 (usedX xs q id wr) a) 12 2 = id
    rw [gn_cut _ _ _ _ (by omega)]
    have e : ((usedX xs q id wr).drop (a + 12)).take 2 = digs id 2 := by
      apply List.ext_getElem?
      intro j
      rw [cut_get]
      by_cases hj : j < 2
      · rw [if_pos hj, show a + 12 + j = a + 8 + (4 + j) by omega, hin _ (by omega), List.getElem?_append_right (by rw [digs_length]; omega), digs_length]
        congr 1; omega
      · rw [if_neg hj, List.getElem?_eq_none (by rw [digs_length]; omega)]
    rw [e, val_digs, Nat.mod_eq_of_lt (by omega)]
  · show gn (cut16 (usedX xs q id wr) a) 8 4 = wr
    rw [gn_cut _ _ _ _ (by omega)]
    have e : ((usedX xs q id wr).drop (a + 8)).take 4 = digs wr 4 := by
      apply List.ext_getElem?
      intro j
      rw [cut_get]
      by_cases hj : j < 4
      · rw [if_pos hj, hin _ (by omega), List.getElem?_append_left (by rw [digs_length]; omega)]
      · rw [if_neg hj, List.getElem?_eq_none (by rw [digs_length]; omega)]
    rw [e, val_digs, Nat.mod_eq_of_lt (by omega)]
theorem perm_erase : ∀ (T : List Cn) (k : Nat) (h : k < T.length), T.Perm (T[k] :: T.eraseIdx k)
  | _ :: _, 0, _ => .refl _
  | c :: T, k + 1, h => ((perm_erase T k (by simpa using h)).cons c).trans (.swap _ _ _)
theorem Both.done (h : Both n xs q z P T G b) (k : Nat) (hk : k < T.length) (v : Nat) (hv : v ≤ 65535) :
    doneC xs z (T[k].id : Int) (T[k].ps.length : Int) (v : Int) = (0, usedX xs z T[k].id v, doneQ z T[k].ps.length) ∧ Both n (usedX xs z T[k].id v) q (doneQ z T[k].ps.length) P (T.eraseIdx k) (G ++ [⟨T[k].id, T[k].ps.length, v⟩]) b := by
  obtain ⟨t1, t2, t3⟩ := h.total
  have hn1 := h.n1
  have hn2 := h.n2
  have hc := h.okT T[k] (List.getElem_mem hk)
  have hsz := szs_erase T k hk
  obtain ⟨c, hcE⟩ : ∃ c, T[k] = c := ⟨_, rfl⟩
  rw [hcE] at hc hsz ⊢
  have c1 := hc.l1
  have hzok : z.Ok xs.length := by rw [h.len]; exact h.zok
  have hba : z.ring + 16 * z.ba = 16 * ((b + szg G) % n) := by rw [h.zr, h.zba, Nat.zero_add]
  have hgz : szg (G ++ [⟨c.id, c.ps.length, v⟩]) = szg G + c.ps.length := by rw [szg_append]; simp [szg]
  have hoff : ∀ s, b ≤ s → s < b + n → s ≠ b + szg G → atS (usedX xs z c.id v) n s = atS xs n s := fun s s1 s2 e => by
    have hne : s % n ≠ (b + szg G) % n := fun e2 => e (pl_inj (b := b) ⟨s1, s2⟩ (by omega) e2)
    unfold atS
    exact used_off xs z c.id v hzok _ (by rw [hba]; exact slot_ne hne)
  have hon : (atS (usedX xs z c.id v) n (b + szg G)).f = doneF z v := by
    have := used_on xs z c.id v hzok
    rw [hba] at this
    exact this
  have hde := used_de xs z c.id v hzok hc.id (by omega)
  rw [hba] at hde
  have hRest : Rest (if 0 < v then 2 else 0) := by split <;> exact ⟨by decide, by decide, by decide⟩
  have hav : avb (doneF z v) = plW n (b + szg G) := by unfold doneF; rw [avb_of hRest, h.zbw]
  have hus : usb (doneF z v) = plW n (b + szg G) := by
    unfold doneF
    rw [usb_of hRest, h.zbw]
    cases plW n (b + szg G) <;> rfl
  have ho := h.zout
  have hzok2 : (doneQ z c.ps.length).Ok 1024 := doneQ_ok h.zok (by omega)
  refine ⟨?_, hn1, hn2, (usedX_length xs z c.id v hzok).trans h.len, h.qok, h.qr, h.qs, ?_, ?_, h.qba, h.qbw, hzok2, h.zr, h.zs, ?_, ?_, ?_, ?_, ?_, h.zbr, fun s s1 s2 => ?_, fun s s1 s2 => ?_, ?_, ?_, ?_, h.okP, fun d hd => h.okT d (List.mem_of_mem_eraseIdx hd)⟩
  · unfold doneC
    rw [if_neg (by rw [h.zbr]; decide), if_pos (show doneOk _ _ _ _ = true from decide_eq_true ⟨by omega, by have := hc.id; omega, by omega, by omega, by omega, by omega⟩)]
    simp
  · rw [h.qna, hgz]; congr 1; omega
  · rw [h.qnw, hgz]; congr 1; omega
  · show z.na = _
    rw [h.zna, hgz]; congr 1; omega
  · show z.nw = _
    rw [h.znw, hgz]; congr 1; omega
  · show stA z.size z.ba c.ps.length = _
    rw [h.zs, h.zba, stA_pl hn1 (by omega), hgz, Nat.add_assoc]
  · show stW z.size z.ba c.ps.length z.bw = _
    rw [h.zs, h.zba, h.zbw, stW_pl hn1 (by omega), hgz, Nat.add_assoc]
  · show z.out - c.ps.length = _
    omega
  · have e4 : b + szg (G ++ [⟨c.id, c.ps.length, v⟩]) + szs (T.eraseIdx k) + szs P = b + szg G + szs T + szs P := by rw [hgz]; omega
    rw [e4]
    by_cases e : s = b + szg G
    · subst e
      rw [hon, hav, if_pos (by omega)]
    · rw [hoff s s1 s2 e]; exact h.av s s1 s2
  · rw [hgz] at s1 s2
    rw [hoff s (by omega) (by omega) (by omega)]
    exact h.us s (by omega) (by omega)
  · have e4 : b + szg (G ++ [⟨c.id, c.ps.length, v⟩]) + szs (T.eraseIdx k) = b + szg G + szs T := by rw [hgz]; omega
    rw [e4]
    exact Lies.same P _ (fun j j1 j2 => hoff j (by omega) (by omega) (by omega)) h.ps
  · refine Gvn.append G _ (Gvn.same G _ (fun j j1 j2 => hoff j (by omega) (by omega) (by omega)) h.gs) ⟨hde.1, hde.2, ?_, c1⟩
    rw [hon, usedB_bits, hav, hus]
    cases plW n (b + szg G) <;> rfl
  · refine h.outs.perm ?_
    unfold outL
    rw [List.map_append, List.append_assoc]
    refine List.Perm.append_left _ ?_
    have hp : T.Perm (c :: T.eraseIdx k) := by
      have := perm_erase T k hk
      rw [hcE] at this
      exact this
    exact List.Perm.append_right _ (hp.map _)

/-! Reap -/
theorem Both.reap_none (h : Both n xs q z P T [] b) : reapC xs q = (0, 0, false, 0, q) := by
  have hn1 := h.n1
  obtain ⟨t1, t2, t3⟩ := h.total
  have e0 : szg ([] : List Gv) = 0 := rfl
  unfold reapC
  rw [if_neg]
  rw [h.qr, h.qba, h.qbw, Nat.zero_add, usedB_bits]
  have hav := h.av b (Nat.le_refl _) (by omega)
  have hus := h.us b (by rw [e0]; omega)
  unfold atS at hav hus
  by_cases e : b < b + szg ([] : List Gv) + szs T + szs P
  · rw [hus e]
    cases plW n b <;> simp
  · rw [hav, if_neg e]
    cases plW n b <;> simp
theorem Both.reap_some {g : Gv} (h : Both n xs q z P T (g :: G) b) : reapC xs q = ((g.id : Int), (g.wr : Int), true, 0, q.reaped g.id) ∧ Both n xs (q.reaped g.id) z P T G (b + g.k) := by
  obtain ⟨t1, t2, t3⟩ := h.total
  have hn1 := h.n1
  have hgz : szg (g :: G) = g.k + szg G := rfl
  obtain ⟨⟨g1, g2, g3, g4⟩, hgs⟩ := h.gs
  have hat := h.outs.at_ (g.id, g.k) (by unfold outL; simp)
  have hat1 : q.hs.getD g.id 0 = g.k := hat.1
  rw [hgz] at t1 t2 t3
  unfold atS at g1 g2 g3
  have hpos : 0 < q.hs.getD g.id 0 := by rw [hat1]; exact g4
  have ez : ∀ x, b + g.k + szg G + x = b + szg (g :: G) + x := fun x => by rw [hgz]; omega
  have ez0 : b + g.k + szg G = b + szg (g :: G) := by rw [hgz]; omega
  refine ⟨?_, hn1, h.n2, h.len, reaped_ok h.qok hpos, h.qr, h.qs, ?_, ?_, ?_, ?_, h.zok, h.zr, h.zs, ?_, ?_, ?_, ?_, h.zout, h.zbr, fun s s1 s2 => ?_, fun s s1 s2 => h.us s (by omega) (by omega), ?_, hgs, ?_, h.okP, h.okT⟩
  · unfold reapC
    rw [h.qr, h.qba, h.qbw, Nat.zero_add, if_pos g3, g1, g2, if_pos hpos]
  · show q.na = _
    rw [ez0]; exact h.qna
  · show q.nw = _
    rw [ez0]; exact h.qnw
  · show stA q.size q.ba (q.hs.getD g.id 0) = _
    rw [h.qs, h.qba, hat1, stA_pl hn1 (by omega)]
  · show stW q.size q.ba (q.hs.getD g.id 0) q.bw = _
    rw [h.qs, h.qba, h.qbw, hat1, stW_pl hn1 (by omega)]
  · rw [ez0]; exact h.zna
  · rw [ez0]; exact h.znw
  · rw [ez0]; exact h.zba
  · rw [ez0]; exact h.zbw
  · rw [ez0]
    rcases Nat.lt_or_ge s (b + n) with hs | hs
    · exact h.av s (by omega) hs
    · obtain ⟨r, rfl⟩ : ∃ r, s = r + n := ⟨s - n, by omega⟩
      rw [atS_turn, if_neg (by rw [hgz]; omega), plW_turn hn1, Bool.not_not]
      have := h.av r (by omega) (by omega)
      rw [if_pos (by rw [hgz]; omega)] at this
      exact this
  · rw [ez0]; exact h.ps
  · refine Outs.del (k := g.k) ?_
    exact h.outs
end
/-- at the beginning -/
theorem both_new {n : Nat} {xs : List UInt8} {q : Vs} {z : Qs} (n1 : 1 ≤ n) (n2 : n ≤ 32) (hx : xs.length = 1024) (hz0 : ∀ s, s < n → deAt xs (16 * s) = ⟨0, 0, 0, 0⟩) (hq : q = newV 0 (n : Int) 512 516) (hqo : q.Ok 1024) (hz : z = ⟨0, n, 512, 516, 0, true, 0, true, 0, true, 0, 0, false⟩) : Both n xs q z [] [] [] 0 := by
  subst hq hz
  have e0 : 0 + szg ([] : List Gv) + szs ([] : List Cn) + szs ([] : List Cn) = 0 := rfl
  have m0 : 0 % n = 0 := Nat.zero_mod n
  have w0 : plW n 0 = true := by unfold plW; rw [Nat.zero_div]; rfl
  have d0 : ((n : Int).toNat) = n := by omega
  refine ⟨n1, n2, hx, hqo, rfl, d0, ?_, ?_, ?_, ?_, ⟨n1, by show n ≤ 32768; omega, by show 0 + 16 * n ≤ 1024; omega, by show 512 + 4 ≤ 1024; omega, by show 516 + 4 ≤ 1024; omega, n1, n1, n1, Nat.zero_le _⟩, rfl, rfl, ?_, ?_, ?_, ?_, rfl, rfl, fun s s1 s2 => ?_, fun s s1 s2 => ?_, trivial, trivial, ⟨fun x hx => by simp [outL] at hx, by simp [outL], ?_, ?_⟩, fun c hc => by simp at hc, fun c hc => by simp at hc⟩
  · rw [e0, m0]; rfl
  · rw [e0, w0]; rfl
  · rw [m0]; rfl
  · rw [w0]; rfl
  · show 0 = (0 + szg ([] : List Gv) + szs ([] : List Cn)) % n
    exact m0.symm
  · show true = plW n (0 + szg ([] : List Gv) + szs ([] : List Cn))
    exact w0.symm
  · show 0 = (0 + szg ([] : List Gv)) % n
    exact m0.symm
  · show true = plW n (0 + szg ([] : List Gv))
    exact w0.symm
  · rw [if_neg (by rw [e0]; omega)]
    unfold atS
    have hs : s < n := by omega
    rw [Nat.mod_eq_of_lt hs, hz0 s hs]
    unfold plW
    rw [Nat.div_eq_of_lt hs]; rfl
  · rw [e0] at s2; omega
  · show (List.replicate (n : Int).toNat 0).sum = _
    rw [sum_zeros]; rfl
  · show cnt (List.replicate (n : Int).toNat 0) = _
    rw [cnt_zero]; rfl
end Go.Proofs.Ytbpgblmhacpjlaa
namespace Go.Proofs.Ytbpgblmhacpjlaa
open Go.RowKit

theorem Came.same {w w' : World} {size b off len cap : Nat} {ao : Option Addr} {xs : List Value} (h : Came w size ao b off len cap xs) (hk : 0 < cap → w'.heap[b]? = w.heap[b]?) : Came w' size ao b off len cap xs := by
  have hpos : ∀ j u, xs[j]? = some u → 0 < cap := fun j u hu => by
    have h1 := (List.getElem?_eq_some_iff.1 hu).1
    have h2 := h.oldsLen
    have h3 := h.le
    rcases Nat.eq_zero_or_pos cap with e | e
    · subst e
      obtain rfl : len = 0 := by omega
      simp at h2; subst h2; simp at h1
    · exact e
  refine ⟨h.le, h.addr, fun h0 => ?_, h.oldsLen, fun j u hu => ?_, fun j hj => ?_⟩
  · have h1 := h.lt h0
    have h2 := hk h0
    rw [Array.getElem?_eq_getElem h1] at h2
    exact (Array.getElem?_eq_some_iff.1 h2).1
  · exact (World.cell?_of_block (a := ⟨b, off + j, none⟩) (hk (hpos j u hu))).trans (h.olds j u hu)
  · have h0 : 0 < cap := by
      rcases Nat.eq_zero_or_pos cap with e | e
      · subst e; simp at hj
      · exact e
    rw [World.cell?_of_block (a := ⟨b, off + len * size + j, none⟩) (hk h0), World.frozen?_of_block (a := ⟨b, off + len * size + j, none⟩) (hk h0)]
    exact h.spare j hj
/-- a row of the call's own that begins anywhere -/
def rowC (size : Nat) (v : Value) (n : Nat) (xs : List Value) : As where
  P F w := ∃ ao b off cap, v = .slice ao n cap ∧ cap ≤ maxLen ∧ Came w size ao b off n cap xs ∧ ∀ k, F k ↔ 0 < cap ∧ k = b
  lt := by
    rintro F w ⟨ao, b, off, cap, -, -, hc, hF⟩ k hk
    obtain ⟨h0, rfl⟩ := (hF k).1 hk
    exact hc.lt h0
  keep := by
    rintro F w w' ⟨ao, b, off, cap, hv, hm, hc, hF⟩ hk
    exact ⟨ao, b, off, cap, hv, hm, Came.same hc (fun h0 => hk b ((hF b).2 ⟨h0, rfl⟩)), hF⟩
theorem rowC_none (size : Nat) (w : World) : (rowC size (.slice none 0 0) 0 []).P (fun _ => False) w :=
  ⟨none, 0, 0, 0, rfl, Nat.zero_le _, ⟨Nat.le_refl _, fun h => absurd h (by omega), fun h => absurd h (by omega), by simp, fun j u hu => by simp at hu, fun j hj => by simp at hj⟩, fun k => by simp⟩
/-- an empty row just made: what the program builds -/
theorem rowC_empty (size : Nat) (a : Addr) (w : World) : (rowC size (.slice (some a) 0 0) 0 []).P (fun _ => False) w :=
  ⟨some a, 0, 0, 0, rfl, Nat.zero_le _, ⟨Nat.le_refl _, fun h => absurd h (by omega), fun h => absurd h (by omega), by simp, fun j u hu => by simp at hu, fun j hj => by simp at hj⟩, fun k => by simp⟩
section
variable {F : Nat → Prop} {w : World} {size n cap : Nat} {A : Option Addr} {xs : List Value}
theorem rowC_came (h : (rowC size (.slice A n cap) n xs).P F w) : cap ≤ maxLen ∧ ∃ b off, Came w size A b off n cap xs ∧ ∀ k, F k ↔ 0 < cap ∧ k = b := by
  obtain ⟨ao, b, off, cap', hv, hm, hc, hF⟩ := h
  injection hv with e1 e2 e3
  subst e1 e3
  exact ⟨hm, b, off, hc, hF⟩
theorem tape_setCells (b : Nat) : ∀ (vs : List Value) (o : Nat) (w : World), (w.setCells b o vs).tape = w.tape ∧ (w.setCells b o vs).heap.size = w.heap.size
  | [], o, w => ⟨rfl, rfl⟩
  | v :: vs, o, w => by
    obtain ⟨h1, h2⟩ := tape_setCells b vs (o + 1) (w.setCell ⟨b, o, none⟩ v)
    refine ⟨h1.trans rfl, h2.trans ?_⟩
    simp [World.setCell]
/-- .. one element more -/
theorem rowC_append (h : (rowC size (.slice A n cap) n xs).P F w) (t ty e : TypeId) (i : TypeInfo) (z : Value) (bytes : Nat) (ht : Try.prog.underlying t = some (.slice e)) (hi : Try.prog.info? e = some i) (hz : i.zero = some z) (hsize : i.size = size) (hby : i.bytes = bytes) (hzs : z.cells.size = size)
    (xv : Value) (news : List Value) (hs : Src Try.prog size t xv 1 news w) (h63 : n + 1 ≤ maxLen) (hbytes : (n + 1) * bytes ≤ 140737488355328) :
    ∃ A' cap' w', (Builtin.append_ #[t, t] ty #[.slice A n cap, xv]).run Try.prog w = .ok (.slice A' (n + 1) cap') w' ∧ St F w (rowC size (.slice A' (n + 1) cap') (n + 1) (xs ++ news)) w' := by
  subst hsize
  subst hby
  obtain ⟨hm, b, off, hc, hF⟩ := rowC_came h
  have hnl := hs.newsLen
  have hol := hc.oldsLen
  have hL : (xs ++ news).length = (n + 1) * i.size := by rw [List.length_append, hol, hnl, Nat.add_mul]
  by_cases hroom : n + 1 ≤ cap
  · have h0 : 0 < cap := by omega
    have hA := hc.addr h0
    subst hA
    have hlt := hc.lt h0
    have hsp : ∀ j, j < news.length → (w.cell? ⟨b, off + n * i.size + j, none⟩).isSome = true ∧ w.frozen? ⟨b, off + n * i.size + j, none⟩ = false := fun j hj => hc.spare j (by
      have : 1 * i.size ≤ (cap - n) * i.size := Nat.mul_le_mul_right _ (by omega)
      omega)
    have hrun := run_append_room_src (P := Try.prog) w t t ty e i ht hi b off n cap xv 1 news hs hroom (fun j hj => (hsp j hj).1) (fun j hj => (hsp j hj).2)
    obtain ⟨ht1, ht2⟩ := tape_setCells b news (off + n * i.size) w
    refine ⟨some ⟨b, off, none⟩, cap, _, hrun, F, ⟨some ⟨b, off, none⟩, b, off, cap, rfl, hm, ⟨hroom, fun _ => rfl, fun _ => by rw [ht2]; exact hlt, hL, fun j u hu => ?_, fun j hj => ?_⟩, hF⟩, ⟨World.os_setCells _ _ _ _, ht1, World.output_setCells _ _ _ _, by rw [ht2]; exact Nat.le_refl _, fun k hk hn => World.heap_setCells_other w b _ news hk (fun e => hn ((hF k).2 ⟨h0, e⟩))⟩, fun k hk => .inl hk⟩
    · by_cases hj : j < xs.length
      · rw [World.cell?_setCells_out b _ _ _ _ (fun _ _ => Or.inl (by show off + j < off + n * i.size; omega))]
        rw [List.getElem?_append_left hj] at hu
        exact hc.olds j u hu
      · rw [List.getElem?_append_right (by omega)] at hu
        have hj2 := (List.getElem?_eq_some_iff.1 hu).1
        have := World.cell?_setCells_in b news (off + n * i.size) w (fun j hj => (hsp j hj).1) (j - xs.length) hj2
        rw [show off + n * i.size + (j - xs.length) = off + j by omega] at this
        rw [this, ← hu, List.getElem?_eq_getElem hj2]
    · have e1 : (n + 1) * i.size = n * i.size + i.size := by rw [Nat.add_mul, Nat.one_mul]
      have e2 : (cap - n) * i.size = (cap - (n + 1)) * i.size + i.size := by
        rw [show cap - n = cap - (n + 1) + 1 by omega, Nat.add_mul, Nat.one_mul]
      have hin := hc.spare (i.size + j) (by omega)
      have ea : off + (n + 1) * i.size + j = off + n * i.size + (i.size + j) := by omega
      rw [World.cell?_setCells_out b _ _ _ _ (fun _ _ => Or.inr (by show off + n * i.size + news.length ≤ off + (n + 1) * i.size + j; omega)), World.frozen?_setCells, ea]
      exact hin
  · have hold : (Builtin.firstCells i.size n (.slice A n cap)).run Try.prog w.drew = .ok xs.toArray w.drew := by
      rcases Nat.eq_zero_or_pos cap with h0 | h0
      · subst h0
        obtain rfl : n = 0 := by have := hc.le; omega
        obtain rfl : xs = [] := List.eq_nil_of_length_eq_zero (by simpa using hol)
        cases A with
        | none => exact run_firstCells_none w.drew i.size 0 0 0
        | some a' => exact run_firstCells_some w.drew i.size 0 a' 0 0 [] (by simp) (by intro _ _ h'; simp at h')
      · rw [hc.addr h0]
        refine run_firstCells_some w.drew i.size n ⟨b, off, none⟩ n cap xs hol (fun j u hu => ?_)
        rw [Addr.add_lit]
        exact hc.olds j u hu
    have hsmall : n + 1 ≤ 9223372036854775807 := by simp only [maxLen] at h63; omega
    have hrun := run_append_grow_src (P := Try.prog) w t t ty e i z ht hi hz A n cap xs hold xv 1 news hs (by omega) (by omega) (growslice_fits (by omega) hbytes)
    have hge := grownCap_ge w (n + 1) cap e
    have hcm := grownCap_le_maxLen w (n + 1) cap e h63
    obtain ⟨cap', hcap'⟩ : ∃ c, grownCap w (n + 1) cap e = c := ⟨_, rfl⟩
    rw [hcap'] at hrun hge hcm
    have hsz : ((xs ++ news).toArray ++ Builtin.zeroCells z.cells (cap' - (n + 1))).size = cap' * i.size := by
      rw [Array.size_append, List.size_toArray, hL, size_zeroCells, hzs, ← Nat.add_mul, show n + 1 + (cap' - (n + 1)) = cap' by omega]
    have hb : Below w.heap.size w (w.drew.alloc (.cells ((xs ++ news).toArray ++ Builtin.zeroCells z.cells (cap' - (n + 1))) e)) := (Below.refl _ w).drew.alloc (Nat.le_refl _) _
    refine ⟨_, _, _, hrun, fun k => k = w.heap.size, ⟨some ⟨w.heap.size, 0, none⟩, w.heap.size, 0, cap', rfl, hcm, ⟨hge, fun _ => rfl, fun _ => by simp, hL, fun j u hu => ?_, fun j hj => ?_⟩, fun k => ⟨fun e => ⟨by omega, e⟩, fun e => e.2⟩⟩, Step.of_below hb, fun k hk => .inr (by omega)⟩
    · have e1 := World.cell?_alloc_new w.drew ((xs ++ news).toArray ++ Builtin.zeroCells z.cells (cap' - (n + 1))) e (0 + j)
      have e1 : (w.drew.alloc (.cells ((xs ++ news).toArray ++ Builtin.zeroCells z.cells (cap' - (n + 1))) e)).cell? ⟨w.heap.size, 0 + j, none⟩ = _ := e1
      have hj := (List.getElem?_eq_some_iff.1 hu).1
      rw [e1, Nat.zero_add, Array.getElem?_append_left (by simpa using hj), List.getElem?_toArray, hu]
    · have e1 : (w.drew.alloc (.cells ((xs ++ news).toArray ++ Builtin.zeroCells z.cells (cap' - (n + 1))) e)).cell? ⟨w.heap.size, 0 + (n + 1) * i.size + j, none⟩ = _ := World.cell?_alloc_new w.drew _ e _
      refine ⟨?_, World.frozen?_alloc_new w.drew _ _ _⟩
      have hlt : 0 + (n + 1) * i.size + j < ((xs ++ news).toArray ++ Builtin.zeroCells z.cells (cap' - (n + 1))).size := by
        rw [hsz, Nat.zero_add]
        have : cap' * i.size = (n + 1) * i.size + (cap' - (n + 1)) * i.size := by rw [← Nat.add_mul, show n + 1 + (cap' - (n + 1)) = cap' by omega]
        omega
      rw [e1, Array.getElem?_eq_getElem hlt]; rfl
/-- .. where the element lies in a row of its own -/
theorem rowC_append1 (h : (rowC size (.slice A n cap) n xs).P F w) (t ty e : TypeId) (i : TypeInfo) (z : Value) (bytes : Nat) (ht : Try.prog.underlying t = some (.slice e)) (hi : Try.prog.info? e = some i) (hz : i.zero = some z) (hsize : i.size = size) (hby : i.bytes = bytes) (hzs : z.cells.size = size)
    (a : Addr) (news : List Value) (hl : news.length = 1 * size) (hnews : ∀ j u, news[j]? = some u → w.cell? (a.add j) = some u) (h1 : ∀ u ∈ news, u.oneCell' = true) (h63 : n + 1 ≤ maxLen) (hbytes : (n + 1) * bytes ≤ 140737488355328) :
    ∃ A' cap' w', (Builtin.append_ #[t, t] ty #[.slice A n cap, .slice (some a) 1 1]).run Try.prog w = .ok (.slice A' (n + 1) cap') w' ∧ St F w (rowC size (.slice A' (n + 1) cap') (n + 1) (xs ++ news)) w' :=
  rowC_append h t ty e i z bytes ht hi hz hsize hby hzs _ news (Src.ofSlice w ht a 1 1 news hl hnews h1) h63 hbytes
/-- the element j's cell m -/
theorem rowC_cell (h : (rowC size (.slice A n cap) n xs).P F w) (hn : 0 < n) : ∃ b off, A = some ⟨b, off, none⟩ ∧ n ≤ cap ∧ b < w.heap.size ∧ ∀ j u, xs[j]? = some u → w.cell? ⟨b, off + j, none⟩ = some u := by
  obtain ⟨hm, b, off, hc, hF⟩ := rowC_came h
  have := hc.le
  exact ⟨b, off, hc.addr (by omega), hc.le, hc.lt (by omega), hc.olds⟩
/-- the head cut off -/
theorem rowC_tail {b off : Nat} (h : (rowC size (.slice (some ⟨b, off, none⟩) (n + 1) cap) (n + 1) xs).P F w) (A' : Option Addr) (hA : 0 < cap - 1 → A' = some ⟨b, off + size, none⟩) : ∃ F', (rowC size (.slice A' n (cap - 1)) n (xs.drop size)).P F' w ∧ ∀ k, F' k → F k := by
  obtain ⟨hm, b', off', hc, hF⟩ := rowC_came h
  have hle := hc.le
  have hb := hc.addr (by omega)
  injection hb with hb
  injection hb with e1 e2 e3
  subst e1 e2
  have hl := hc.oldsLen
  have e1 : (n + 1) * size = n * size + size := by rw [Nat.add_mul, Nat.one_mul]
  refine ⟨fun k => 0 < cap - 1 ∧ k = b, ⟨A', b, off + size, cap - 1, rfl, by omega, ⟨by omega, hA, fun h0 => hc.lt (by omega), by rw [List.length_drop]; omega, fun j u hu => ?_, fun j hj => ?_⟩, fun k => Iff.rfl⟩, fun k hk => (hF k).2 ⟨by omega, hk.2⟩⟩
  · rw [List.getElem?_drop] at hu
    have := hc.olds _ _ hu
    rwa [← Nat.add_assoc] at this
  · have := hc.spare j (by rwa [show cap - (n + 1) = cap - 1 - n by omega])
    rwa [e1, show off + (n * size + size) + j = off + size + n * size + j by omega] at this
end
/-- as the walk meets it -/
theorem wpList_append_c {F0 : Nat → Prop} {w0 w : World} {l : List As} (hS : St F0 w0 (stars l) w) (k : Nat) (hk : k < l.length) {size n cap : Nat} {A : Option Addr} {xs : List Value} (hlk : l[k] = rowC size (.slice A n cap) n xs)
    {ops : Array Oper} {rest : List Oper} {o : Oper} {a : Act} {Q : Exit → Act → World → Prop} (hgd : o.guard = none) (s x : Operand) (t : TypeId) (ho : o.op = .call { callee := .builtin .append, args := #[s, x], argTypes := #[t, t] })
    {e : TypeId} (i : TypeInfo) (z : Value) (bytes : Nat) (ht : Try.prog.underlying t = some (.slice e)) (hi : Try.prog.info? e = some i) (hz : i.zero = some z) (hsize : i.size = size) (hby : i.bytes = bytes) (hzs : z.cells.size = size)
    (hv : a.eval s = .slice A n cap) (ad : Addr) (news : List Value) (hx : a.eval x = .slice (some ad) 1 1) (hl : news.length = 1 * size) (hnews : ∀ j u, news[j]? = some u → w.cell? (ad.add j) = some u) (h1 : ∀ u ∈ news, u.oneCell' = true) (h63 : n + 1 ≤ maxLen) (hbytes : (n + 1) * bytes ≤ 140737488355328)
    (hK : ∀ A' cap' w', St F0 w0 (stars (l.set k (rowC size (.slice A' (n + 1) cap') (n + 1) (xs ++ news)))) w' → wpList Try.prog ops Q rest (a.put o.dst (.slice A' (n + 1) cap')) w') : wpList Try.prog ops Q (o :: rest) a w := by
  refine wpList_plain hgd fun K hK' => ?_
  obtain ⟨F, hA, hb⟩ := hS.at k hk
  rw [hlk] at hA
  obtain ⟨A', cap', w', hrun, hs⟩ := rowC_append1 hA t o.type e i z bytes ht hi hz hsize hby hzs ad news hl hnews h1 h63 hbytes
  unfold Oper.wp
  simp [execOp, ho, resolve, invoke, builtin, hv, hx, hrun, Result.andThen]
  exact hK' _ _ (hK A' cap' w' (hb _ _ hs))
section
variable {F0 : Nat → Prop} {w0 w w' : World} {l : List As}
theorem St.pushC0 (h : St F0 w0 (stars l) w) (size : Nat) (A : Addr) : St F0 w0 (stars (rowC size (.slice (some A) 0 0) 0 [] :: l)) w :=
  h.add (B := rowC size (.slice (some A) 0 0) 0 []) (F := fun _ => False) (Below.refl _ _) (rowC_empty size A w) (fun _ e => e.elim)
theorem St.rowc (h : St F0 w0 (stars l) w) (i : Nat) (hi : i < l.length) {size n cap : Nat} {A : Option Addr} {xs : List Value} (he : l[i] = rowC size (.slice A n cap) n xs) (hn : 0 < n) : ∃ b off, A = some ⟨b, off, none⟩ ∧ n ≤ cap ∧ b < w.heap.size ∧ ∀ j u, xs[j]? = some u → w.cell? ⟨b, off + j, none⟩ = some u := by
  obtain ⟨F, hA⟩ := h.get i hi
  rw [he] at hA
  exact rowC_cell hA hn
/-- something at place i gives way to something of fewer blocks -/
theorem St.less (h : St F0 w0 (stars l) w) (i : Nat) (hi : i < l.length) (B : As) (hB : ∀ F, l[i].P F w → ∃ F', B.P F' w ∧ ∀ k, F' k → F k) : St F0 w0 (stars (l.set i B)) w := by
  obtain ⟨F, hA, hb⟩ := h.at i hi
  obtain ⟨F', hB', hle⟩ := hB F hA
  exact hb B w ⟨F', hB', Step.refl _ _, fun k hk => .inl (hle k hk)⟩
theorem St.tail (h : St F0 w0 (stars l) w) (i : Nat) (hi : i < l.length) {size n cap b off : Nat} {xs : List Value} (he : l[i] = rowC size (.slice (some ⟨b, off, none⟩) (n + 1) cap) (n + 1) xs) (A' : Option Addr) (hA : 0 < cap - 1 → A' = some ⟨b, off + size, none⟩) : St F0 w0 (stars (l.set i (rowC size (.slice A' n (cap - 1)) n (xs.drop size)))) w :=
  h.less i hi _ (fun F e => by rw [he] at e; exact rowC_tail e A' hA)
end
end Go.Proofs.Ytbpgblmhacpjlaa
namespace Go.Proofs.Ytbpgblmhacpjlaa
open Go.RowKit

/-- A slice whose cells are those of the parts. -/
def PtsAt (A : Option Addr) (l : List Pt) (w : World) : Prop := 0 < l.length → ∃ gl, A = some ⟨gl, 0, none⟩ ∧ gl < w.heap.size ∧ ∀ j u, (ptCells l)[j]? = some u → w.cell? ⟨gl, j, none⟩ = some u
theorem PtsAt.of_own {w : World} {B : Nat} {A : Option Addr} {cap : Nat} {l : List Pt} (h : w.ownsRow B 77 3 (.slice A l.length cap) l.length (ptCells l)) : PtsAt A l w := by
  intro hn
  obtain ⟨gl, cap', hv, _, hlt⟩ := h.form hn
  have hA : A = some ⟨gl, 0, none⟩ := by injection hv
  subst hA
  refine ⟨gl, rfl, hlt, fun j u hu => ?_⟩
  have := h.cells (g := gl) rfl j u hu
  rwa [Addr.add_lit, Nat.zero_add] at this
theorem PtsAt.below {w w' : World} {A : Option Addr} {l : List Pt} (h : PtsAt A l w) (hb : Below w.heap.size w w') : PtsAt A l w' := by
  intro hn
  obtain ⟨gl, hA, hlt, hc⟩ := h hn
  exact ⟨gl, hA, by have := hb.size; omega, fun j u hu => (hb.cell (p := ⟨gl, j, none⟩) hlt).trans (hc j u hu)⟩
theorem PtsAt.pt {w : World} {A : Option Addr} {l : List Pt} (h : PtsAt A l w) (k : Nat) (hk : k < l.length) :
    ∃ gl, A = some ⟨gl, 0, none⟩ ∧ w.cell? ⟨gl, k * 3, none⟩ = some (.int .i64 (l[k].at_ : Int)) ∧ w.cell? ⟨gl, k * 3 + 1, none⟩ = some (.int .i64 (l[k].n : Int)) ∧ w.cell? ⟨gl, k * 3 + 2, none⟩ = some (.bool l[k].wr) := by
  obtain ⟨gl, hA, _, hc⟩ := h (by omega)
  obtain ⟨a, b, c⟩ := ptCells_at l k hk
  exact ⟨gl, hA, hc _ _ a, hc _ _ b, hc _ _ c⟩
/-- a chain as a value -/
def Ch.v (h : Ch) (A : Option Addr) (c : Nat) : Value := .agg #[.int .i64 (h.id : Int), .int .i64 (h.count : Int), .slice A h.parts.length c]
def chV (i k : Nat) (A : Option Addr) (n c : Nat) : Array Value := #[.int .i64 (i : Int), .int .i64 (k : Int), .slice A n c]
set_option maxHeartbeats 1600000 in
theorem chain_same (h : Ch) (A A' : Option Addr) (c c' : Nat) (w : World) (hl : h.parts.length ≤ 8192) (h1 : PtsAt A h.parts w) (h2 : PtsAt A' h.parts w) :
    Calls Try.prog 14 #[.agg #[.int .i64 (h.id : Int), .int .i64 (h.count : Int), .slice A h.parts.length c], .agg #[.int .i64 (h.id : Int), .int .i64 (h.count : Int), .slice A' h.parts.length c']] w fun e w' => e = .returned (.bool true) ∧ Below w.heap.size w w' := by
  obtain ⟨i, k, l⟩ := h
  simp only at hl h1 h2 ⊢
  have H1 := Lib.hid h1
  have H2 := Lib.hid h2
  clear h1 h2
  have e1 : ((i : Int) != (i : Int)) = false := by simp
  have e2 : ((k : Int) != (k : Int)) = false := by simp
  have e3 : ((l.length : Int) != (l.length : Int)) = false := by simp
  go_enter Try.func14, Try.ntmps14
  go_wp2_with fail
  go_loopw [5] (fun z wr => ∃ j : Nat, j ≤ l.length ∧ z = .int .i64 j ∧ Below w.heap.size w wr ∧ Blk wr w.heap.size 44 #[.int .i64 (i : Int), .int .i64 (k : Int), .slice A l.length c] ∧ Blk wr (w.heap.size + 1) 44 #[.int .i64 (i : Int), .int .i64 (k : Int), .slice A' l.length c']) (fun z _ => l.length - (RowKit.intOf z).toNat)
  case atStart => exact ⟨0, Nat.zero_le _, rfl, ba (ba (Below.refl _ _) _) _, (Blk.new _ _ _).alloc _, Sp.Blk.new2 _ _ _ _⟩
  case round =>
    obtain ⟨j, hj, rfl, hb, k1, k2⟩ := hrel
    have x2 := k1.cell 2
    have y2 := k2.cell 2
    simp only [List.getElem?_toArray, List.getElem?_cons_zero, List.getElem?_cons_succ] at x2 y2
    by_cases hlt : j < l.length
    · obtain ⟨g1, rfl, c1, c2, c3⟩ := (H1.out.below hb).pt j hlt
      obtain ⟨g2, rfl, d1, d2, d3⟩ := (H2.out.below hb).pt j hlt
      have HB := Lib.hid hb
      have K1 := Lib.hid k1
      have K2 := Lib.hid k2
      clear hb k1 k2
      go_wp2_with fail
      have f1 : (0 : Int) ≤ (j : Int) := by omega
      have f2 : (j : Int) < (l.length : Int) := by omega
      go_quiet (fail)
      go_wp2
      go_roundw
      case rel => exact ⟨j + 1, by omega, by go_num, below_drewN HB.out _, K1.out, K2.out⟩
      case measure => simp [RowKit.intOf]; omega
    · go_wp2
      go_ret
      exact ⟨rfl, hb⟩

end Go.Proofs.Ytbpgblmhacpjlaa
namespace Go.Proofs.Ytbpgblmhacpjlaa
open Go.RowKit

/-- the device's queue -/
def devA (gd g : Nat) (z : Qs) : As := box gd 92 (z.cells g)
/-- from a memory and a device's queue to stage 14's contracts, and back -/
theorem dev_rm {F : Nat → Prop} {w : World} {g gd : Nat} {xs : List UInt8} {z : Qs} (h : (stars [memA g xs, devA gd g z]).P F w) :
    ∃ gb lv, Rm ⟨0, gd, g, gb, lv, xs, z, w⟩ w w ∧ ∀ (z' : Qs) (xs' : List UInt8) (w' : World), Qn ⟨0, gd, g, gb, lv, xs, z, w⟩ z' xs' w' → St F w (stars [memA g xs', devA gd g z']) w' := by
  obtain ⟨F1, F2, hF, hd, ⟨gb, lv, hM, hF1⟩, hB⟩ := h
  have hB : (stars [devA gd g z]).P F2 w := hB
  obtain ⟨F3, F4, hF2, -, ⟨hb, hF3⟩, hF4⟩ := hB
  have hF4 : ∀ k, ¬ F4 k := hF4
  have hgd : F2 gd := (hF2 gd).2 (.inl ((hF3 gd).2 rfl))
  have hn : ¬ F1 gd := fun e => hd gd e hgd
  refine ⟨gb, lv, ⟨hb, Noted.refl hM, Keep.refl _, Nat.le_refl _⟩, fun z' xs' w' hQ => ?_⟩
  obtain ⟨lv1, hM1, hL1⟩ := hQ.mem
  have hL1 : ∀ k, lv1.ownBlock = some k → lv.ownBlock = some k ∨ w.heap.size ≤ k := hL1
  have hblk := hQ.blk
  have hlt : gd < w.heap.size := hb.lt
  refine ⟨fun k => (k = g ∨ k = gb ∨ lv1.ownBlock = some k) ∨ k = gd, ⟨fun k => k = g ∨ k = gb ∨ lv1.ownBlock = some k, fun k => k = gd, fun k => Iff.rfl, fun k e1 e2 => ?_, ⟨gb, lv1, hM1, fun _ => Iff.rfl⟩, fun k => k = gd, fun _ => False, fun k => by simp, fun k _ e => e, ⟨hblk, fun k => Iff.rfl⟩, fun _ e => e⟩, ⟨hQ.os, hQ.tape, hQ.output, hQ.size, fun k hk hno => ?_⟩, fun k hk => ?_⟩
  · have e2 : k = gd := e2
    subst e2
    rcases e1 with e | e | e
    · exact hn ((hF1 _).2 (.inl e))
    · exact hn ((hF1 _).2 (.inr (.inl e)))
    · rcases hL1 _ e with e | e
      · exact hn ((hF1 _).2 (.inr (.inr e)))
      · exact absurd hlt (Nat.not_lt.2 e)
  · have no1 : ¬ F1 k := fun e => hno ((hF k).2 (.inl e))
    exact hQ.block k hk (fun e => hno ((hF k).2 (.inr (by have e : k = gd := e; rw [e]; exact hgd)))) (fun e => no1 ((hF1 k).2 (.inl e))) (fun e => no1 ((hF1 k).2 (.inr (.inl e)))) (fun e => no1 ((hF1 k).2 (.inr (.inr e))))
  · rcases hk with (e | e | e) | e
    · exact .inl ((hF k).2 (.inl ((hF1 k).2 (.inl e))))
    · exact .inl ((hF k).2 (.inl ((hF1 k).2 (.inr (.inl e)))))
    · rcases hL1 k e with e | e
      · exact .inl ((hF k).2 (.inl ((hF1 k).2 (.inr (.inr e)))))
      · exact .inr e
    · exact .inl ((hF k).2 (.inr (by rw [e]; exact hgd)))
section
variable {F0 F : Nat → Prop} {w0 w w' : World} {l : List As} {g gq gd : Nat} {xs : List UInt8} {q : Vs} {z : Qs}
theorem dev_next (h : (stars [memA g xs, devA gd g z]).P F w) (hz : z.Ok xs.length) (r : Ch × Bool × Int × Qs) (hr : nextC xs z = r) :
    Calls Try.prog 13 #[.pointer (some ⟨gd, 0, none⟩)] w fun e w' => ∃ A cap, e = .returned (.tuple #[.agg #[.int .i64 (r.1.id : Int), .int .i64 (r.1.count : Int), .slice A r.1.parts.length cap], .bool r.2.1, .int .i64 r.2.2.1]) ∧ w'.ownsRow w.heap.size 77 3 (.slice A r.1.parts.length cap) r.1.parts.length (ptCells r.1.parts) ∧ St F w (stars [memA g xs, devA gd g r.2.2.2]) w' := by
  obtain ⟨gb, lv, hR, hQ⟩ := dev_rm h
  refine (next_any hR hz).mono fun e w' ⟨A, cap, he, ho, hn⟩ => ?_
  have he : e = .returned (.tuple #[.agg #[.int .i64 ((nextC xs z).1.id : Int), .int .i64 ((nextC xs z).1.count : Int), .slice A (nextC xs z).1.parts.length cap], .bool (nextC xs z).2.1, .int .i64 (nextC xs z).2.2.1]) := he
  have ho : w'.ownsRow w.heap.size 77 3 (.slice A (nextC xs z).1.parts.length cap) (nextC xs z).1.parts.length (ptCells (nextC xs z).1.parts) := ho
  have hn : Qn ⟨0, gd, g, gb, lv, xs, z, w⟩ (nextC xs z).2.2.2 xs w' := hn
  rw [hr] at he ho hn
  exact ⟨A, cap, he, ho, hQ _ _ _ hn⟩
theorem dev_done (h : (stars [memA g xs, devA gd g z]).P F w) (hz : z.Ok xs.length) (hs : z.since ≤ 1099511627776) (id count written : Int) (r : Int × List UInt8 × Qs) (hr : doneC xs z id count written = r) :
    Calls Try.prog 15 #[.pointer (some ⟨gd, 0, none⟩), .int .i64 id, .int .i64 count, .int .i64 written] w fun e w' => e = .returned (.int .i64 r.1) ∧ St F w (stars [memA g r.2.1, devA gd g r.2.2]) w' := by
  obtain ⟨gb, lv, hR, hQ⟩ := dev_rm h
  refine (done_any hR hz hs id count written).mono fun e w' ⟨he, hn⟩ => ?_
  have he : e = .returned (.int .i64 (doneC xs z id count written).1) := he
  have hn : Qn ⟨0, gd, g, gb, lv, xs, z, w⟩ (doneC xs z id count written).2.2 (doneC xs z id count written).2.1 w' := hn
  rw [hr] at he hn
  exact ⟨he, hQ _ _ _ hn⟩
/-! at places i < j of many things -/
theorem St.dvNext (h : St F0 w0 (stars l) w) (i j : Nat) (hij : i < j) (hj : j < l.length) (hi : l[i]'(by omega) = memA g xs) (he : l[j] = devA gd g z) (hz : z.Ok xs.length) (r : Ch × Bool × Int × Qs) (hr : nextC xs z = r) :
    Calls Try.prog 13 #[.pointer (some ⟨gd, 0, none⟩)] w fun e w' => ∃ A cap, e = .returned (.tuple #[.agg #[.int .i64 (r.1.id : Int), .int .i64 (r.1.count : Int), .slice A r.1.parts.length cap], .bool r.2.1, .int .i64 r.2.2.1]) ∧ w'.ownsRow w.heap.size 77 3 (.slice A r.1.parts.length cap) r.1.parts.length (ptCells r.1.parts) ∧ St F0 w0 (stars ((l.set j (devA gd g r.2.2.2)).set i (memA g xs))) w' := by
  obtain ⟨F, hA, hb⟩ := h.two i j hij hj
  rw [hi, he] at hA
  exact (dev_next hA hz r hr).mono fun e w' ⟨A, cap, h1, h2, h3⟩ => ⟨A, cap, h1, h2, hb _ _ _ h3⟩
theorem St.dvDone (h : St F0 w0 (stars l) w) (i j : Nat) (hij : i < j) (hj : j < l.length) (hi : l[i]'(by omega) = memA g xs) (he : l[j] = devA gd g z) (hz : z.Ok xs.length) (hs : z.since ≤ 1099511627776) (id count written : Int) (r : Int × List UInt8 × Qs) (hr : doneC xs z id count written = r) :
    Calls Try.prog 15 #[.pointer (some ⟨gd, 0, none⟩), .int .i64 id, .int .i64 count, .int .i64 written] w fun e w' => e = .returned (.int .i64 r.1) ∧ St F0 w0 (stars ((l.set j (devA gd g r.2.2)).set i (memA g r.2.1))) w' := by
  obtain ⟨F, hA, hb⟩ := h.two i j hij hj
  rw [hi, he] at hA
  exact (dev_done hA hz hs id count written r hr).mono fun e w' ⟨h1, h3⟩ => ⟨h1, hb _ _ _ h3⟩
theorem St.dvBroken (h : St F0 w0 (stars l) w) (j : Nat) (hj : j < l.length) (he : l[j] = devA gd g z) : Calls Try.prog 18 #[.pointer (some ⟨gd, 0, none⟩)] w fun e w' => e = .returned (.bool z.broken) ∧ w = w' := by
  have c := (h.blk j hj he).cell 13
  have hlt := (h.blk j hj he).lt
  have e : (z.cells g)[13]? = some (.bool z.broken) := rfl
  rw [e] at c
  clear e
  go_enter Try.func18, Try.ntmps18
  go_wp2_with fail
  go_ret
  exact ⟨rfl, rfl⟩
theorem St.dvOut (h : St F0 w0 (stars l) w) (j : Nat) (hj : j < l.length) (he : l[j] = devA gd g z) : Calls Try.prog 45 #[.pointer (some ⟨gd, 0, none⟩)] w fun e w' => e = .returned (.int .i64 (z.out : Int)) ∧ w = w' := by
  have c := (h.blk j hj he).cell 9
  have hlt := (h.blk j hj he).lt
  have e : (z.cells g)[9]? = some (.int .i64 (z.out : Int)) := rfl
  rw [e] at c
  clear e
  go_enter Try.func45, Try.ntmps45
  go_wp2_with fail
  go_ret
  exact ⟨rfl, rfl⟩
/-- Post, its parts in a row at place m of the rest -/
theorem St.dPost (h : St F0 w0 (stars l) w) (i j : Nat) (hij : i < j) (hj : j < l.length) (hi : l[i]'(by omega) = memA g xs) (he : l[j] = drvA gq g q) (hq : q.Ok xs.length) (hs : q.since ≤ 1099511627776) {ps : List IPt} {A : Option Addr} {cap : Nat} (hP : PsAt A ps w)
    (m : Nat) (hm : m < ((l.eraseIdx j).eraseIdx i).length) {e : TypeId} {size n c : Nat} {vs : List Value} (hr0 : ((l.eraseIdx j).eraseIdx i)[m] = rowA e size (.slice A n c) n vs) (hA : ∀ ad, A = some ad → (Value.slice A n c).ownBlock = some ad.block)
    (hl : ps.length ≤ 1099511627776) (hN : ∀ j (h : j < ps.length), ps[j].n < 9223372036854775808) (r : Int × Int × List UInt8 × Vs) (hr : postC xs q ps = r) :
    Calls Try.prog 11 #[.pointer (some ⟨gq, 0, none⟩), .slice A ps.length cap] w fun e w' => e = .returned (.tuple #[.int .i64 r.1, .int .i64 r.2.1]) ∧ St F0 w0 (stars ((l.set j (drvA gq g r.2.2.2)).set i (memA g r.2.2.1))) w' := by
  obtain ⟨F, hA1, hF, ⟨F2, h2, hd⟩, hb⟩ := h.twoy i j hij hj
  rw [hi, he] at hA1
  exact (post_v hA1 hq hs hP (fun ad e hFa => hd _ hFa (stars_hasRow _ m hm hr0 (hA ad e) h2)) hl hN r hr).mono fun _ _ ⟨h1, h2⟩ => ⟨h1, hb _ _ _ h2⟩
theorem St.dReap (h : St F0 w0 (stars l) w) (i j : Nat) (hij : i < j) (hj : j < l.length) (hi : l[i]'(by omega) = memA g xs) (he : l[j] = drvA gq g q) (hq : q.Ok xs.length) (r : Int × Int × Bool × Int × Vs) (hr : reapC xs q = r) :
    Calls Try.prog 17 #[.pointer (some ⟨gq, 0, none⟩)] w fun e w' => e = .returned (.tuple #[.int .i64 r.1, .int .i64 r.2.1, .bool r.2.2.1, .int .i64 r.2.2.2.1]) ∧ St F0 w0 (stars ((l.set j (drvA gq g r.2.2.2.2)).set i (memA g xs))) w' := by
  obtain ⟨F, hA, hb⟩ := h.two i j hij hj
  rw [hi, he] at hA
  exact (reap_v hA hq r hr).mono fun _ _ ⟨h1, h2⟩ => ⟨h1, hb _ _ _ h2⟩
theorem St.dFree (h : St F0 w0 (stars l) w) (j : Nat) (hj : j < l.length) (he : l[j] = drvA gq g q) : Calls Try.prog 12 #[.pointer (some ⟨gq, 0, none⟩)] w fun e w' => e = .returned (.int .i64 (q.free : Int)) ∧ w = w' := by
  obtain ⟨F, hA⟩ := h.get j hj
  rw [he] at hA
  exact dfree_v hA
theorem St.dHeld (h : St F0 w0 (stars l) w) (j : Nat) (hj : j < l.length) (he : l[j] = drvA gq g q) (hl : q.hs.length ≤ 32768) : Calls Try.prog 19 #[.pointer (some ⟨gq, 0, none⟩)] w (HeldP q.hs w) := by
  obtain ⟨F, hA⟩ := h.get j hj
  rw [he] at hA
  exact dheld_v hA hl
end
/-! chains in rows -/
/-- a chain as a row holds it: where its parts lie -/
structure Ce where
  c : Cn
  A : Option Addr
  cap : Nat
def Ce.cells (e : Ce) : List Value := [.int .i64 (e.c.id : Int), .int .i64 (e.c.ps.length : Int), .slice e.A e.c.ps.length e.cap]
def ceCells (l : List Ce) : List Value := l.flatMap Ce.cells
theorem ceCells_append (l m : List Ce) : ceCells (l ++ m) = ceCells l ++ ceCells m := by simp [ceCells]
theorem ceCells_one (e : Ce) : ceCells [e] = e.cells := by simp [ceCells]
theorem ceCells_drop (e : Ce) (l : List Ce) : (ceCells (e :: l)).drop 3 = ceCells l := by simp [ceCells, Ce.cells]
theorem ce_one (l : List Ce) : ∀ u ∈ ceCells l, u.oneCell' = true := by
  intro u hu
  simp only [ceCells, List.mem_flatMap] at hu
  obtain ⟨p, -, hu⟩ := hu
  simp only [Ce.cells, List.mem_cons, List.not_mem_nil, or_false] at hu
  rcases hu with rfl | rfl | rfl <;> rfl
theorem ceCells_at (l : List Ce) (k : Nat) (h : k < l.length) :
    (ceCells l)[k * 3]? = some (.int .i64 (l[k].c.id : Int)) ∧ (ceCells l)[k * 3 + 1]? = some (.int .i64 (l[k].c.ps.length : Int)) ∧ (ceCells l)[k * 3 + 2]? = some (.slice l[k].A l[k].c.ps.length l[k].cap) := by
  induction l generalizing k with
  | nil => simp at h
  | cons a l ih =>
    have e : ∀ l : List Ce, ceCells (a :: l) = a.cells ++ ceCells l := fun l => by simp [ceCells]
    cases k with
    | zero => simp [ceCells, Ce.cells]
    | succ k =>
      obtain ⟨h0, h1, h2⟩ := ih k (by simpa using h)
      have zl : a.cells.length = 3 := rfl
      rw [e, List.getElem?_append_right (by rw [zl]; omega), List.getElem?_append_right (by rw [zl]; omega), List.getElem?_append_right (by rw [zl]; omega), zl]
      refine ⟨?_, ?_, ?_⟩
      · rw [show (k + 1) * 3 - 3 = k * 3 by omega]; exact h0
      · rw [show (k + 1) * 3 + 1 - 3 = k * 3 + 1 by omega]; exact h1
      · rw [show (k + 1) * 3 + 2 - 3 = k * 3 + 2 by omega]; exact h2
/-- its parts' row; those of many -/
def partsA (e : Ce) : As := rowA 77 3 (.slice e.A e.c.ps.length e.cap) e.c.ps.length (ptCells e.c.ps)
def ptsA (l : List Ce) : As := stars (l.map partsA)
theorem stars_cat {w : World} : ∀ (l m : List As) {F : Nat → Prop}, (stars (l ++ m)).P F w → (sep (stars l) (stars m)).P F w
  | [], m, F, h => ⟨fun _ => False, F, fun k => by simp, fun k e => e.elim, fun _ e => e, h⟩
  | A :: l, m, F, h => sep_right (sep_mono h (fun _ e => e) (fun _ e => stars_cat l m e))
theorem ptsA_add {F : Nat → Prop} {w : World} {P : List Ce} {e : Ce} (h : (sep (ptsA P) (partsA e)).P F w) : (ptsA (P ++ [e])).P F w := by
  unfold ptsA at h ⊢
  rw [List.map_append]
  refine stars_app _ _ (sep_mono h (fun _ x => x) (fun F x => ?_))
  exact ⟨F, fun _ => False, fun k => by simp, fun k _ e => e, x, fun _ e => e⟩
theorem ptsA_tail {F : Nat → Prop} {w : World} {P : List Ce} {e : Ce} (h : (ptsA (e :: P)).P F w) : ∃ F', (ptsA P).P F' w ∧ ∀ k, F' k → F k := by
  obtain ⟨F1, F2, hF, -, -, b⟩ := h
  exact ⟨F2, b, fun k hk => (hF k).2 (.inr hk)⟩
theorem ptsA_head {F : Nat → Prop} {w : World} {P : List Ce} {e : Ce} (h : (ptsA (e :: P)).P F w) : PtsAt e.A e.c.ps w := by
  obtain ⟨F1, F2, hF, -, a, -⟩ := h
  exact PtsAt.of_own a.1
/-- the two at places 0 and j made one -/
theorem St.merge {F0 : Nat → Prop} {w0 w : World} {A : As} {l : List As} (h : St F0 w0 (stars (A :: l)) w) (j : Nat) (hj : j < l.length) (C : As) (hC : ∀ F, (sep l[j] A).P F w → C.P F w) : St F0 w0 (stars (l.set j C)) w := by
  refine h.mono fun F e => ?_
  have e2 := sep_mono e (fun _ x => x) (fun F x => stars_pull l j hj F x)
  have e3 : (sep (sep A l[j]) (stars (l.eraseIdx j))).P F w := sep_right e2
  exact stars_back l j hj C F (sep_mono e3 (fun F x => hC F (sep_comm x)) (fun _ x => x))
end Go.Proofs.Ytbpgblmhacpjlaa
namespace Go.Proofs.Ytbpgblmhacpjlaa
open Go.RowKit

/-- where drained stands -/
def DrS (n : Nat) (F : Nat → Prop) (w : World) (g gq gd : Nat) (P T : List Cn) (gl s : Nat) (wr : World) : Prop :=
  ∃ (xs : List UInt8) (q : Vs) (z : Qs) (G : List Gv) (b : Nat), Both n xs q z P T G b ∧ G.length = gl ∧ z.since ≤ s ∧ St F w (stars [memA g xs, drvA gq g q, devA gd g z]) wr
theorem szs_le {n b : Nat} {xs : List UInt8} {q : Vs} {z : Qs} {P T : List Cn} {G : List Gv} (h : Both n xs q z P T G b) : P.length ≤ n ∧ T.length ≤ n ∧ G.length ≤ n ∧ P.length + T.length + G.length ≤ n := by
  have h1 := h.held
  have h2 := heldL_length q.hs
  have h3 := h.qok.hl
  have h4 := h.qs
  omega
theorem Both.lens {n b : Nat} {xs : List UInt8} {q : Vs} {z : Qs} {P T : List Cn} {G : List Gv} (h : Both n xs q z P T G b) (c : Cn) (hc : c ∈ T) : c.ps.length ≤ n := by
  obtain ⟨t1, -, -⟩ := h.total
  obtain ⟨k, hk, e⟩ := List.getElem_of_mem hc
  have := szs_erase T k hk
  rw [e] at this
  omega
/-- two cells of a block that the call leaves -/
theorem keep_two {F : Nat → Prop} {w W W' : World} {b1 o1 o2 : Nat} {u1 u2 : Value} {m : List As} (e0 : ∀ o, W.cell? ⟨b1, o, none⟩ = w.cell? ⟨b1, o, none⟩) (S2 : St F w (stars m) W') (hbl : b1 < w.heap.size) (hnF : ¬ F b1) (h : (W.drew.cell? ⟨b1, o1, none⟩ = some u1 ∧ W.drew.cell? ⟨b1, o2, none⟩ = some u2) ∧ ∃ l, St F w (stars l) W.drew) :
    (W'.cell? ⟨b1, o1, none⟩ = some u1 ∧ W'.cell? ⟨b1, o2, none⟩ = some u2) ∧ ∃ l, St F w (stars l) W' := by
  have e1 : ∀ o, W'.cell? ⟨b1, o, none⟩ = w.cell? ⟨b1, o, none⟩ := fun o => World.cell?_of_block (a := ⟨b1, o, none⟩) (S2.step.block b1 hbl hnF)
  exact ⟨⟨(e1 _).trans ((e0 _).symm.trans h.1.1), (e1 _).trans ((e0 _).symm.trans h.1.2)⟩, m, S2⟩
set_option maxRecDepth 100000 in
set_option maxHeartbeats 6400000 in
theorem drained_v {n gl s : Nat} {F : Nat → Prop} {w : World} {g gq gd : Nat} {P : List Cn} {T : List Ce} {A : Option Addr} {cap m : Nat} (h : DrS n F w g gq gd P (T.map Ce.c) gl s w) (hn2 : n ≤ 32) (hm : P.length + T.length + gl = m) (hs : s ≤ 1000000)
    (hT : 0 < T.length → ∃ b off, A = some ⟨b, off, none⟩ ∧ b < w.heap.size ∧ ¬ F b ∧ ∀ (j : Nat) (u : Value), (ceCells T)[j]? = some u → w.cell? ⟨b, off + j, none⟩ = some u) :
    Calls Try.prog 20 #[.pointer (some ⟨gq, 0, none⟩), .pointer (some ⟨gd, 0, none⟩), .int .i64 (m : Int), .slice A T.length cap] w fun e w' => e = .returned (.bool true) ∧ ∃ B, St F w B w' := by
  have hTn : T.length ≤ n ∧ P.length ≤ n ∧ m ≤ n := by
    obtain ⟨xs, q, z, G, b, hB, hG, -, -⟩ := h
    have := szs_le hB
    rw [List.length_map] at this
    omega
  obtain ⟨hTn, hPn, hmn⟩ := hTn
  obtain ⟨L, hL⟩ : ∃ L, T.length = L := ⟨_, rfl⟩
  have HT := Lib.hid hT
  have HL := Lib.hid hL
  have HS := Lib.hid h
  have HM := Lib.hid hm
  have Hs := Lib.hid hs
  have hL32 : L ≤ 32 := by omega
  have hm32 : m ≤ 32 := by omega
  have Hn2 := Lib.hid hn2
  have HP32 := Lib.hid (show P.length ≤ 32 by omega)
  clear h hT hm hs hTn hPn hmn hn2
  rw [hL]
  clear hL
  go_enter Try.func20, Try.ntmps20
  go_wp2_with fail
  go_loopw [9] (fun iv wr => ∃ i : Nat, i ≤ L ∧ iv = .int .i64 (i : Int) ∧ DrS n F w g gq gd P ((T.drop i).map Ce.c) (gl + i) (s + 64 * i) wr) (fun iv _ => L - (RowKit.intOf iv).toNat)
  case atStart => exact ⟨0, Nat.zero_le _, rfl, HS.out⟩
  case round =>
    obtain ⟨i, hi, rfl, hD⟩ := hrel
    by_cases hlt : i < L
    · have g1 : (i : Int) < (L : Int) := by omega
      have g2 : (0 : Int) ≤ (i : Int) := by omega
      have hiT : i < T.length := by rw [HL.out]; exact hlt
      obtain ⟨b1, off, rfl, hbl, hnF, hcs⟩ := HT.out (by omega)
      obtain ⟨xs, q, z, G, b, hB, hG, hsi, S⟩ := hD
      obtain ⟨c, hc⟩ : ∃ c, T[i] = c := ⟨_, rfl⟩
      have hd : (T.drop i).map Ce.c = c.c :: (T.drop (i + 1)).map Ce.c := by rw [List.drop_eq_getElem_cons hiT, List.map_cons, hc]
      rw [hd] at hB
      obtain ⟨hdn, hB2⟩ := hB.done 0 (by simp) 1 (by omega)
      rw [List.getElem_cons_zero, List.eraseIdx_cons_zero] at hB2
      rw [List.getElem_cons_zero] at hdn
      have hck := hB.lens c.c (List.mem_cons_self ..)
      have e0 : ∀ o, wr.cell? ⟨b1, o, none⟩ = w.cell? ⟨b1, o, none⟩ := fun o => World.cell?_of_block (a := ⟨b1, o, none⟩) (S.step.block b1 hbl hnF)
      obtain ⟨a0, a1, -⟩ := ceCells_at T i hiT
      rw [hc] at a0 a1
      have c0 : wr.cell? ⟨b1, off + i * 3, none⟩ = some (.int .i64 (c.c.id : Int)) := (e0 _).trans (hcs _ _ a0)
      have c1 : wr.cell? ⟨b1, off + i * 3 + 1, none⟩ = some (.int .i64 (c.c.ps.length : Int)) := (e0 _).trans (by rw [Nat.add_assoc]; exact hcs _ _ a1)
      have hzo : z.Ok xs.length := by rw [hB.len]; exact hB.zok
      have HDN := S.drew.dvDone 0 2 (by omega) (by simp) rfl rfl hzo (by have := Hs.out; omega) (c.c.id : Int) (c.c.ps.length : Int) ((1 : Nat) : Int) _ hdn
      have HDN : Calls Try.prog 15 #[.pointer (some ⟨gd, 0, none⟩), .int .i64 (c.c.id : Int), .int .i64 (c.c.ps.length : Int), .int .i64 1] wr.drew _ := HDN
      have HDN := Lib.hid HDN
      have hsi2 : (doneQ z c.c.ps.length).since ≤ s + 64 * (i + 1) := by show z.since + _ ≤ _; have := Hn2.out; omega
      have hG2 : (G ++ [(⟨c.c.id, c.c.ps.length, 1⟩ : Gv)]).length = gl + (i + 1) := by rw [List.length_append, hG]; rfl
      have HB2 := Lib.hid hB2
      have HG2 := Lib.hid hG2
      have Hsi2 := Lib.hid hsi2
      have HLT := Lib.hid hlt
      have X1 : Hid ((wr.drew.cell? ⟨b1, off + i * 3, none⟩ = some (.int .i64 (c.c.id : Int)) ∧ wr.drew.cell? ⟨b1, off + i * 3 + 1, none⟩ = some (.int .i64 (c.c.ps.length : Int))) ∧ ∃ l, St F w (stars l) wr.drew) := Lib.hid ⟨⟨c0, c1⟩, _, S.drew⟩
      clear hB hB2 hG2 hsi2 hdn hck a0 a1 hzo hiT hd hcs hG hsi c0 c1 hc
      go_wp2_with fail
      go_region_held3 (fun W => (W.cell? ⟨b1, off + i * 3, none⟩ = some (.int .i64 (c.c.id : Int)) ∧ W.cell? ⟨b1, off + i * 3 + 1, none⟩ = some (.int .i64 (c.c.ps.length : Int))) ∧ ∃ l, St F w (stars l) W)
        ((with_reducible (first | exact X1.out | exact Z2)))
        ((go_at_call 15; ((with_reducible refine HDN.out.mono ?_); rintro e w2 ⟨rfl, S2⟩; have Z2 := keep_two e0 S2 hbl hnF X1.out)))
      have S2 := Lib.hid S2
      clear X1 Z2 HDN S e0
      go_wp2_with fail
      go_roundw
      case rel => exact ⟨i + 1, by have := HLT.out; omega, by go_num, _, _, _, _, _, HB2.out, HG2.out, Hsi2.out, S2.out⟩
      case measure => have := HLT.out; simp [RowKit.intOf]; omega
    · have g1 : ¬ (i : Int) < (L : Int) := by omega
      obtain rfl : i = L := by omega
      have hd : (T.drop i).map Ce.c = [] := by rw [← HL.out, List.drop_length]; rfl
      rw [hd] at hD
      have HD := Lib.hid hD
      clear hD HT hd
      go_wp2_with fail
      go_loopw [10] (fun iv wr => ∃ j : Nat, j ≤ P.length ∧ iv = .int .i64 (j : Int) ∧ DrS n F w g gq gd (P.drop j) [] (gl + i + j) (s + 64 * (i + j)) wr) (fun iv _ => P.length - (RowKit.intOf iv).toNat)
      case atStart => exact ⟨0, Nat.zero_le _, rfl, HD.out⟩
      case round =>
        obtain ⟨j, hj, rfl, hD⟩ := hrel
        clear HD
        have hp32 := HP32.out
        have g3 : (j : Int) < 200 := by omega
        obtain ⟨xs, q, z, G, b, hB, hG, hsi, S⟩ := hD
        have hzo : z.Ok xs.length := by rw [hB.len]; exact hB.zok
        by_cases hjP : j < P.length
        · obtain ⟨c, hc⟩ : ∃ c, P[j] = c := ⟨_, rfl⟩
          have hd : P.drop j = c :: P.drop (j + 1) := by rw [List.drop_eq_getElem_cons hjP, hc]
          rw [hd] at hB
          obtain ⟨hnx, hB2⟩ := hB.next_some
          rw [List.nil_append] at hB2
          have HNX := Lib.hid (S.dvNext 0 2 (by omega) (by simp) rfl rfl hzo _ hnx)
          obtain ⟨hdn, hB3⟩ := hB2.done 0 (by simp) 0 (by omega)
          rw [List.getElem_cons_zero, List.eraseIdx_cons_zero] at hB3
          rw [List.getElem_cons_zero] at hdn
          have hck := hB2.lens c (List.mem_cons_self ..)
          have hzo2 : (takenQ' z c.ps.length).Ok xs.length := by rw [hB2.len]; exact hB2.zok
          have hsi1 : (takenQ' z c.ps.length).since ≤ 1099511627776 := by show z.since ≤ _; have := Hs.out; omega
          have hsi2 : (doneQ (takenQ' z c.ps.length) c.ps.length).since ≤ s + 64 * (i + (j + 1)) := by show z.since + _ ≤ _; have := Hn2.out; omega
          have hG2 : (G ++ [(⟨c.id, c.ps.length, 0⟩ : Gv)]).length = gl + i + (j + 1) := by rw [List.length_append, hG]; rfl
          have HB3 := Lib.hid hB3
          have HG2 := Lib.hid hG2
          have Hsi2 := Lib.hid hsi2
          have Hdn := Lib.hid hdn
          have Hzo2 := Lib.hid hzo2
          have Hsi1 := Lib.hid hsi1
          have HJP := Lib.hid hjP
          clear hB hB2 hB3 hG2 hsi2 hdn hck hzo hzo2 hsi1 hd hG hsi hnx S hc hp32
          go_wp2_with fail
          refine HNX.out.mono ?_
          rintro e w2 ⟨A5, cap5, rfl, -, S2⟩
          have S2 : St F w (stars [memA g xs, drvA gq g q, devA gd g (takenQ' z c.ps.length)]) w2 := S2
          have S3 := S2.push 44 #[.int .i64 (c.id : Int), .int .i64 (c.ps.length : Int), .slice A5 c.ps.length cap5]
          have bk := S3.blk 0 (by simp) rfl
          have d0 := bk.cell 0
          have d1 := bk.cell 1
          simp only [List.getElem?_toArray, List.getElem?_cons_zero, List.getElem?_cons_succ] at d0 d1
          have hlt3 := bk.lt
          have HDN := S3.dvDone 1 3 (by omega) (by simp) rfl rfl Hzo2.out Hsi1.out (c.id : Int) (c.ps.length : Int) ((0 : Nat) : Int) _ Hdn.out
          have HDN : Calls Try.prog 15 #[.pointer (some ⟨gd, 0, none⟩), .int .i64 (c.id : Int), .int .i64 (c.ps.length : Int), .int .i64 0] (w2.alloc (.cells #[.int .i64 (c.id : Int), .int .i64 (c.ps.length : Int), .slice A5 c.ps.length cap5] 44)) _ := HDN
          have HDN := Lib.hid HDN
          clear S2 S3 bk HNX Hdn Hzo2 Hsi1
          go_wp2_with fail
          refine HDN.out.mono ?_
          rintro e w4 ⟨rfl, S4⟩
          have S4 := Lib.hid (St.pop S4)
          clear HDN d0 d1 hlt3
          go_wp2_with fail
          go_roundw
          case rel => exact ⟨j + 1, by have := HJP.out; omega, by go_num, _, _, _, _, _, HB3.out, HG2.out, Hsi2.out, S4.out⟩
          case measure => have := HJP.out; simp [RowKit.intOf]; omega
        · obtain rfl : j = P.length := by omega
          rw [List.drop_length] at hB
          have HNX := Lib.hid (S.dvNext 0 2 (by omega) (by simp) rfl rfl hzo _ hB.next_none)
          have hGm : G.length = m := by rw [hG, ← HM.out, HL.out]; omega
          have HB := Lib.hid hB
          have HGm := Lib.hid hGm
          clear hB hzo hG S hp32 hGm hsi
          go_wp2_with fail
          refine HNX.out.mono ?_
          rintro e w2 ⟨A5, cap5, rfl, -, S2⟩
          have S2 : St F w (stars [memA g xs, drvA gq g q, devA gd g z]) w2 := S2
          have S3 := Lib.hid (S2.alloc (.cells #[.int .i64 0, .int .i64 0, .slice A5 0 cap5] 44))
          clear S2 HNX
          go_wp2_with fail
          go_loopw [14] (fun kv wr => ∃ (k : Nat) (q : Vs) (G : List Gv) (b : Nat), k ≤ m ∧ kv = .int .i64 (k : Int) ∧ Both n xs q z [] [] G b ∧ G.length + k = m ∧ St F w (stars [memA g xs, drvA gq g q, devA gd g z]) wr) (fun kv _ => m - (RowKit.intOf kv).toNat)
          case atStart => exact ⟨0, q, G, b, Nat.zero_le _, rfl, HB.out, HGm.out, S3.out⟩
          case round =>
            obtain ⟨k, q, G, b, hk, rfl, hB, hGk, S⟩ := hrel
            clear S3 HB HGm
            have hqo : q.Ok xs.length := by rw [hB.len]; exact hB.qok
            by_cases hkm : k < m
            · have q1 : (k : Int) < (m : Int) := by omega
              match G, hGk with
              | [], hGk => exact absurd hGk (by simp; omega)
              | gv :: G, hGk =>
              obtain ⟨hrp, hB2⟩ := hB.reap_some
              have HRP := Lib.hid (S.dReap 0 1 (by omega) (by simp) rfl rfl hqo _ hrp)
              have HB2 := Lib.hid hB2
              have HGK := Lib.hid (show G.length + (k + 1) = m by simp at hGk; omega)
              have HKM := Lib.hid hkm
              clear hB hB2 hrp hqo S hGk
              go_wp2_with fail
              refine HRP.out.mono ?_
              rintro e w5 ⟨rfl, S5⟩
              have S5 := Lib.hid S5
              clear HRP
              go_wp2_with fail
              go_roundw
              case rel => exact ⟨k + 1, _, G, _, by have := HKM.out; omega, by go_num, HB2.out, HGK.out, S5.out⟩
              case measure => have := HKM.out; simp [RowKit.intOf]; omega
            · have q1 : ¬ (k : Int) < (m : Int) := by omega
              obtain rfl : G = [] := List.eq_nil_of_length_eq_zero (by omega)
              have hrp := hB.reap_none
              have HRP := Lib.hid (S.dReap 0 1 (by omega) (by simp) rfl rfl hqo _ hrp)
              have hhl := hB.held
              have hho := hB.qok.hl
              have hh2 := hB.qok.s2
              have hz1 := hB.zout
              have hz2 := hB.zbr
              have HHL := Lib.hid (show (heldL q.hs).length = 0 by simpa using hhl)
              have HHO := Lib.hid (show q.hs.length ≤ 32768 by omega)
              have HZ1 := Lib.hid (show z.out = 0 from hz1)
              have HZ2 := Lib.hid hz2
              clear hB hrp hqo S hhl hho hh2 hz1 hz2 hGk
              go_wp2_with fail
              refine HRP.out.mono ?_
              rintro e w5 ⟨rfl, S5⟩
              have S5 : St F w (stars [memA g xs, drvA gq g q, devA gd g z]) w5 := S5
              have H1 := S5.dHeld 1 (by simp) rfl HHO.out
              unfold HeldP at H1
              rw [HHL.out] at H1
              have H1 := Lib.hid H1
              have S5 := Lib.hid S5
              clear HRP
              go_wp2_with fail
              refine H1.out.mono ?_
              rintro e w6 ⟨A6, cap6, rfl, -, hb6⟩
              have S6 := S5.out.below hb6
              have H2 := S6.dvOut 2 (by simp) rfl
              rw [HZ1.out] at H2
              have H2 : Calls Try.prog 45 #[.pointer (some ⟨gd, 0, none⟩)] w6 fun e w' => e = .returned (.int .i64 0) ∧ w6 = w' := H2
              have H3 := S6.dvBroken 2 (by simp) rfl
              rw [HZ2.out] at H3
              have H2 := Lib.hid H2
              have H3 := Lib.hid H3
              have S6 := Lib.hid S6
              clear H1 S5 hb6
              go_wp2_with fail
              refine H2.out.mono ?_
              rintro e wx ⟨rfl, rfl⟩
              go_wp2_with fail
              refine H3.out.mono ?_
              rintro e wx ⟨rfl, rfl⟩
              go_wp2_with fail
              go_ret
              exact ⟨rfl, _, S6.out⟩
end Go.Proofs.Ytbpgblmhacpjlaa
