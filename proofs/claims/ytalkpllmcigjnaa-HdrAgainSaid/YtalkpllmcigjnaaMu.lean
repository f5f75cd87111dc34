/-
  What is left is completed as it was; headers there and back.
-/
import Derived.Test.YtalkpllmcigjnaaMm
import Derived.Test.YtalkpllmcigjnaaMr
import Derived.Test.YtalkpllmcigjnaaMh
import Derived.Test.YtalkpllmcigjnaaMg
import Derived.Test.YtalkpllmcigjnaaMn
namespace Go.Proofs.Ytalkpllmcigjnaa

theorem wt_bs2 (v : Int) (h0 : 0 ≤ v) (h1 : v < 65536) : wt true (lst (bs v 2)) = v := by
  rw [lst_bs]
  simp only [enc, digs, if_true, List.reverse_cons, List.reverse_nil, List.nil_append, List.singleton_append, wt]
  simp only [UInt8.toNat_ofNat']
  simp
  omega
theorem wt_withS (s : ByteArray) (a : Nat) (v : Int) (ha : a + 2 ≤ s.size) (he : a % 2 = 0) (h0 : 0 ≤ v) (h1 : v < 65536) :
    wt true (lst (withS s a v)) = wt true ((lst s).take a) + v + wt true ((lst s).drop (a + 2)) := by
  have l1 : ((lst s).take a).length = a := by rw [List.length_take, lst_len]; omega
  have l2 : (lst (bs v 2)).length = 2 := bs_len v 2
  rw [lst_withS, wt_append, wt_append, l1, l2, if_pos he, if_pos rfl, wt_bs2 v h0 h1]
  omega
theorem sum_left (B ps : ByteArray) (a : Nat) (ha : a + 2 ≤ B.size) (he : a % 2 = 0) (hp : ps.size % 2 = 0) :
    segSum (withS B a (onS 0 ps)) = segSum (ps ++ withS B a 0) := by
  have hr := onS_range ps 0 (by omega) (by omega)
  have e1 : onS 0 (withS B a (onS 0 ps)) = onS 0 (ps ++ withS B a 0) := by
    rw [onS_eq (withS B a (onS 0 ps)) 0 (by omega) (by omega), onS_eq (ps ++ withS B a 0) 0 (by omega) (by omega)]
    have w1 := wt_withS B a (onS 0 ps) ha he hr.1 (by omega)
    have w2 := wt_withS B a 0 ha he (by omega) (by omega)
    have w3 : wt true (lst (ps ++ withS B a 0)) = wt true (lst ps) + wt true (lst (withS B a 0)) := by
      rw [lst_app, wt_append, lst_len, if_pos hp]
    have w4 := onS_eq ps 0 (by omega) (by omega)
    change canon (0 + wt true (lst (withS B a (onS 0 ps)))) = canon (0 + wt true (lst (ps ++ withS B a 0)))
    change onS 0 ps = canon (0 + wt true (lst ps)) at w4
    have n1 := wt_nonneg true (lst ps)
    have n2 := wt_nonneg true ((lst B).take a)
    have n3 := wt_nonneg true ((lst B).drop (a + 2))
    rw [w1, w3, w2]
    have k := canon_add (wt true (lst ps)) (wt true ((lst B).take a) + wt true ((lst B).drop (a + 2))) n1 (by omega)
    rw [Int.zero_add] at w4
    rw [← w4] at k
    rw [show 0 + (wt true ((lst B).take a) + onS 0 ps + wt true ((lst B).drop (a + 2))) = onS 0 ps + (wt true ((lst B).take a) + wt true ((lst B).drop (a + 2))) by omega, k]
    congr 1
    omega
  unfold segSum
  rw [e1]
theorem withS_withS (s : ByteArray) (i : Nat) (P V : Int) (h : i + 2 ≤ s.size) : withS (withS s i P) i V = withS s i V := by
  apply lst_inj
  have l1 : ((lst s).take i).length = i := by rw [List.length_take, lst_len]; omega
  have l2 : (lst (bs P 2)).length = 2 := bs_len P 2
  rw [lst_withS, lst_withS s i V, lst_withS s i P, take_of l1]
  congr 2
  rw [show i + 2 = i + 2 from rfl, ← List.drop_drop, drop_of l1, drop_of l2]
theorem withS_tail (s : ByteArray) (k a : Nat) (P : Int) (h : k + a + 2 ≤ s.size) : (withS s (k + a) P).extract k s.size = withS (s.extract k s.size) a P := by
  apply lst_inj
  have hz := withS_size s (k + a) P (by omega)
  have e1 : lst ((withS s (k + a) P).extract k s.size) = (lst (withS s (k + a) P)).drop k := by
    rw [lst_cut, List.take_of_length_le]
    rw [List.length_drop, lst_len, hz]; exact Nat.le_refl _
  have e2 : lst (s.extract k s.size) = (lst s).drop k := by
    rw [lst_cut, List.take_of_length_le]
    rw [List.length_drop, lst_len]; exact Nat.le_refl _
  rw [e1, lst_withS, lst_withS, e2, List.drop_append_of_le_length (by rw [List.length_take, lst_len]; omega), List.drop_take, List.drop_drop]
  congr 2
  · congr 1; omega
theorem cut_cut (s : ByteArray) (k n : Nat) (hk : k ≤ s.size) (hn : n ≤ s.size - k) : (s.extract k s.size).extract n (s.extract k s.size).size = s.extract (k + n) s.size := by
  apply lst_inj
  have hz : (s.extract k s.size).size = s.size - k := by rw [ByteArray.size_extract]; omega
  have e2 : ∀ j, lst (s.extract j s.size) = (lst s).drop j := fun j => by
    rw [lst_cut, List.take_of_length_le]
    rw [List.length_drop, lst_len]; exact Nat.le_refl _
  rw [lst_cut, e2, e2, List.drop_drop, List.take_of_length_le]
  rw [List.length_drop, lst_len, hz]; omega
/-- A packet's body ends where its frame ends. -/
theorem body_end {s : ByteArray} (h : pkOk s) : (pkIn s).body = s.extract (s.size - (pkIn s).body.size) s.size := by
  have hpk0 := h
  obtain ⟨h1, h2, _⟩ := h
  obtain ⟨_, r1, _, r3⟩ := parse_is h1
  have h3 : 14 ≤ s.size ∧ (num s 12 = 33024 → 18 ≤ s.size) := by
    unfold readE at r1
    split at r1
    · cases r1
    · rename_i h; exact ⟨by omega, fun e => by omega⟩
  have hb : ∃ k, k ≤ s.size ∧ (parseF s).b = s.extract k s.size := by
    rw [r3]
    by_cases ht : num s 12 = 33024
    · rw [readF_tag (h3.2 ht) ht]; exact ⟨18, h3.2 ht, rfl⟩
    · rw [readF_plain h3.1 ht]; exact ⟨14, h3.1, rfl⟩
  obtain ⟨k, hk, hb⟩ := hb
  have hp : ∃ n, n ≤ (parseF s).b.size ∧ (ipP (parseF s).b).body = (parseF s).b.extract n (parseF s).b.size := by
    generalize (parseF s).b = b at *
    unfold ipE at h2
    split at h2
    · cases h2
    · rename_i z1
      split at h2
      · rename_i v4
        split at h2
        · cases h2
        · rename_i s4
          have e : ipE b = 0 := by
            unfold ipE
            rw [if_neg z1, if_pos v4, if_neg s4]
            exact h2
          refine ⟨n4 b, by unfold short4 at s4; omega, ?_⟩
          rw [ipP, if_pos e, if_pos v4]; rfl
      · rename_i v4
        split at h2
        · rename_i v6
          split at h2
          · cases h2
          · rename_i s6
            have e : ipE b = 0 := by
              unfold ipE
              rw [if_neg z1, if_neg v4, if_pos v6, if_neg s6]
              exact h2
            refine ⟨40, by omega, ?_⟩
            rw [ipP, if_pos e, if_neg v4]; rfl
        · cases h2
  obtain ⟨n, hn, hq⟩ := hp
  have hpk : pkIn s = ipP (parseF s).b := by rw [pkIn, if_pos hpk0]
  rw [hpk, hq, hb]
  have hz : (s.extract k s.size).size = s.size - k := by rw [ByteArray.size_extract]; omega
  rw [hb, hz] at hn
  rw [cut_cut s k n hk hn]
  congr 1
  rw [ByteArray.size_extract]; omega
theorem seg_sums {p : Pk} (h1 : segPE p = 0) (h2 : (segPG p).nosum = false) : sumdS p p.body = p.body := by
  have hs := h1
  unfold segPE at h1
  split at h1
  · split at h1
    · rename_i h6
      unfold tcpE at h1
      split at h1
      · cases h1
      · split at h1
        · cases h1
        · split at h1
          · assumption
          · cases h1
    · rename_i h6
      have hn : noS p = false := by
        rw [segPG, if_pos hs, if_neg h6] at h2
        exact h2
      unfold udpE at h1
      split at h1
      · cases h1
      · split at h1
        · cases h1
        · split at h1
          · rename_i hc
            rcases hc with hc | hc
            · rw [hn] at hc; cases hc
            · exact hc
          · cases h1
  · cases h1
theorem atV_even (proto : Int) : atV proto % 2 = 0 := by unfold atV; split <;> rfl
theorem pseudo_even {p : Pk} (hc : canB p = true) (n : Int) : (pseudoB p n).size % 2 = 0 := by
  obtain ⟨h1, _⟩ := canB_iff.1 hc
  unfold pseudoB
  split <;> simp only [ByteArray.size_append, bs_size] <;> omega
theorem fin_off (s : ByteArray) : finE (offH s) (offS s) = 0 ∧ finS (offH s) (offS s) = s ∧ (offS s).size = s.size := by
  by_cases ok : offOk s
  · obtain ⟨b1, b2⟩ := pkIn_body s
    obtain ⟨q1, q2⟩ := sumB_iff.1 ok.2
    obtain ⟨g1, g2⟩ := seg_fits q1
    have hsum := seg_sums q1 q2
    have hbody := body_end ok.1
    have hev := atV_even (pkIn s).proto
    have hpe := pseudo_even g1 (pkIn s).body.size
    rw [offH, offS, if_pos ok, if_pos ok, offAt]
    generalize pkIn s = p at *
    obtain ⟨k, hk⟩ : ∃ k, s.size - p.body.size = k := ⟨_, rfl⟩
    rw [hk] at hbody ⊢
    obtain ⟨P, hP⟩ : ∃ P, onS 0 (pseudoB p p.body.size) = P := ⟨_, rfl⟩
    have hPr := onS_range (pseudoB p p.body.size) 0 (by omega) (by omega)
    rw [hP] at hPr ⊢
    have hz := withS_size s (k + atV p.proto) P (by omega)
    have hT : (withS s (k + atV p.proto) P).extract k s.size = withS p.body (atV p.proto) P := by
      rw [withS_tail s k (atV p.proto) P (by omega), ← hbody]
    have hS : segSum (withS p.body (atV p.proto) P) = segSum (pseudoB p p.body.size ++ withS p.body (atV p.proto) 0) := by
      rw [← hP]; exact sum_left p.body (pseudoB p p.body.size) (atV p.proto) g2 hev hpe
    have hV := segSum_range (withS p.body (atV p.proto) P)
    have hn : (nat p.body (atV p.proto) 2 : Int) = segSum (withS p.body (atV p.proto) P) := by
      rw [hS]
      have hV2 := segSum_range (pseudoB p p.body.size ++ withS p.body (atV p.proto) 0)
      exact (withS_iff _ _ _ g2 hV2.1 hV2.2).1 hsum
    have hn2 : nat s (k + atV p.proto) 2 = nat p.body (atV p.proto) 2 := by
      have hc := nat_cut s k (atV p.proto) (s.size - k) 2 (by omega)
      rw [show k + (s.size - k) = s.size by omega, ← hbody] at hc
      exact hc.symm
    have hcm : comB2 (withS s (k + atV p.proto) P) ((s.size : Int) - p.body.size) (atV p.proto) = true := comB2_iff.2 (by rw [hz]; omega)
    have hf : ¬ ((1 : Int) % 2 = 0) := by decide
    refine ⟨?_, ?_, hz⟩
    · rw [finE]
      simp only
      rw [if_pos trivial, if_neg hf, if_pos hcm]
    · rw [finS]
      simp only
      rw [if_pos trivial, if_neg hf, comS, if_pos hcm]
      rw [show ((s.size : Int) - p.body.size + (atV p.proto : Nat)).toNat = k + atV p.proto by omega, show ((s.size : Int) - p.body.size).toNat = k by omega, hz, hT, withS_withS s _ _ _ (by omega)]
      exact (withS_iff s (k + atV p.proto) _ (by omega) hV.1 hV.2).2 (by rw [hn2]; exact hn)
  · rw [offH, offS, if_neg ok, if_neg ok]
    exact ⟨rfl, rfl, rfl⟩
end Go.Proofs.Ytalkpllmcigjnaa
namespace Go.Proofs.Ytalkpllmcigjnaa
open Go.RowKit

theorem lst_lbs (v : Int) (n : Nat) : lst (lbs v n) = enc v.toNat n false := by simp [lst, lbs]
theorem lbs_len (v : Int) (n : Nat) : (lst (lbs v n)).length = n := by rw [lst_lbs, enc_length]
theorem low_at {s : ByteArray} {X Y : List UInt8} {a n : Nat} (v : Int) (h : lst s = X ++ (lst (lbs v n) ++ Y)) (hx : X.length = a) (h0 : 0 ≤ v) (h1 : v < 256 ^ n) : ((low s a n : Nat) : Int) = v := by
  have e : low s a n = dec (((lst s).drop a).take n) false := rfl
  rw [e, h, drop_of hx, take_of (lbs_len v n), lst_lbs, dec_enc _ _ _ (by
    have : ((256 ^ n : Nat) : Int) = 256 ^ n := by simp
    omega)]
  omega
theorem hd_back (h : Hd) (s : ByteArray) (ok : okH h = true) : hdE (hdS h ++ s) = 0 ∧ hdV (hdS h ++ s) = h ∧ hdR (hdS h ++ s) = s ∧ (hdS h).size = 12 ∧ hdF h = 0 := by
  have g := okH_iff.1 ok
  have eS : hdS h = lbs h.flags 1 ++ lbs h.gso 1 ++ lbs h.len 2 ++ lbs h.siz 2 ++ lbs h.start 2 ++ lbs h.off 2 ++ lbs h.count 2 := by rw [hdS, if_pos ok]
  have hz : (hdS h).size = 12 := by rw [eS]; simp only [ByteArray.size_append, lbs_size]
  have e : lst (hdS h ++ s) = lst (lbs h.flags 1) ++ (lst (lbs h.gso 1) ++ (lst (lbs h.len 2) ++ (lst (lbs h.siz 2) ++ (lst (lbs h.start 2) ++ (lst (lbs h.off 2) ++ (lst (lbs h.count 2) ++ lst s)))))) := by
    rw [eS]; simp only [lst_app, List.append_assoc]
  have z0 := lbs_len h.flags 1
  have z1 := lbs_len h.gso 1
  have z2 := lbs_len h.len 2
  have z3 := lbs_len h.siz 2
  have z4 := lbs_len h.start 2
  have z5 := lbs_len h.off 2
  have z6 := lbs_len h.count 2
  have f0 : ((low (hdS h ++ s) 0 1 : Nat) : Int) = h.flags := low_at (X := []) h.flags (by rw [e]; rfl) rfl (by omega) (by omega)
  have f1 : ((low (hdS h ++ s) 1 1 : Nat) : Int) = h.gso := low_at (X := lst (lbs h.flags 1)) h.gso e z0 (by omega) (by omega)
  have f2 : ((low (hdS h ++ s) 2 2 : Nat) : Int) = h.len := low_at (X := lst (lbs h.flags 1) ++ lst (lbs h.gso 1)) h.len (by rw [e]; simp only [List.append_assoc]; rfl) (by simp only [List.length_append, z0, z1]) (by omega) (by omega)
  have f3 : ((low (hdS h ++ s) 4 2 : Nat) : Int) = h.siz := low_at (X := lst (lbs h.flags 1) ++ lst (lbs h.gso 1) ++ lst (lbs h.len 2)) h.siz (by rw [e]; simp only [List.append_assoc]; rfl) (by simp only [List.length_append, z0, z1, z2]) (by omega) (by omega)
  have f4 : ((low (hdS h ++ s) 6 2 : Nat) : Int) = h.start := low_at (X := lst (lbs h.flags 1) ++ lst (lbs h.gso 1) ++ lst (lbs h.len 2) ++ lst (lbs h.siz 2)) h.start (by rw [e]; simp only [List.append_assoc]; rfl) (by simp only [List.length_append, z0, z1, z2, z3]) (by omega) (by omega)
  have f5 : ((low (hdS h ++ s) 8 2 : Nat) : Int) = h.off := low_at (X := lst (lbs h.flags 1) ++ lst (lbs h.gso 1) ++ lst (lbs h.len 2) ++ lst (lbs h.siz 2) ++ lst (lbs h.start 2)) h.off (by rw [e]; simp only [List.append_assoc]; rfl) (by simp only [List.length_append, z0, z1, z2, z3, z4]) (by omega) (by omega)
  have f6 : ((low (hdS h ++ s) 10 2 : Nat) : Int) = h.count := low_at (X := lst (lbs h.flags 1) ++ lst (lbs h.gso 1) ++ lst (lbs h.len 2) ++ lst (lbs h.siz 2) ++ lst (lbs h.start 2) ++ lst (lbs h.off 2)) h.count (by rw [e]; simp only [List.append_assoc]; rfl) (by simp only [List.length_append, z0, z1, z2, z3, z4, z5]) (by omega) (by omega)
  have hE : hdE (hdS h ++ s) = 0 := by
    rw [hdE, if_neg (by rw [ByteArray.size_append, hz]; omega), if_neg (by omega)]
  refine ⟨hE, ?_, ?_, hz, by rw [hdF, if_pos ok]⟩
  · rw [hdV, if_pos hE, f0, f1, f2, f3, f4, f5, f6]
  · rw [hdR, if_pos hE]
    apply lst_inj
    rw [lst_cut, List.take_of_length_le (by rw [List.length_drop, lst_len]; exact Nat.le_refl _), lst_app, drop_of (by rw [lst_len, hz])]
/-- What Offload leaves Finish completes. -/
theorem fin_back (s : ByteArray) (W : World) (hs : s.size ≤ 281474976710656) : Calls Try.prog 15 #[.agg (hdL (offH s)), .string (offS s)] W fun e w' => e = .returned (.tuple #[.string s, .int .i64 0]) ∧ Below W.heap.size W w' := by
  obtain ⟨e1, e2, e3⟩ := fin_off s
  have := fin_any (offH s) (offS s) W (by omega)
  rw [e1, e2] at this
  exact this
end Go.Proofs.Ytalkpllmcigjnaa
