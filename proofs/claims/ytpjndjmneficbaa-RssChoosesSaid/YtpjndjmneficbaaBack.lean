/-
  Frames and bytes, there and back: what Parse and Build answer, held against one another; no condition.
-/
import Derived.Test.YtpjndjmneficbaaTagr
import Derived.Test.YtpjndjmneficbaaIpr
namespace Go.Proofs.Ytpjndjmneficbaa

theorem build_out {f : Fr} (h : ¬ (frameB f = true ∧ f.d.size + f.r.size + (tagS f.v f.p).size + 2 + f.b.size ≤ 1518)) : buildS f = ⟨#[]⟩ ∧ buildE f = 61 := ⟨if_neg h, if_neg h⟩
theorem build_in {f : Fr} (h : frameB f = true ∧ f.d.size + f.r.size + (tagS f.v f.p).size + 2 + f.b.size ≤ 1518) : buildS f = f.d ++ f.r ++ tagS f.v f.p ++ two f.t ++ f.b ∧ buildE f = 0 := ⟨if_pos h, if_pos h⟩
theorem low16 (n : Int) : ∃ X : Int, (0 ≤ X ∧ X < 65536) ∧ bits .and .i64 n 65535 = X := by
  have e : (BitVec.ofInt 64 65535).toNat = 2 ^ 16 - 1 := by decide
  have k : (BitVec.ofInt 64 n &&& BitVec.ofInt 64 65535).toNat = (n % ((2 ^ 64 : Nat) : Int)).toNat % 2 ^ 16 := by
    rw [BitVec.toNat_and, BitVec.toNat_ofInt, e, Nat.and_two_pow_sub_one_eq_mod]
  refine ⟨n % 65536, by omega, ?_⟩
  show IntKind.i64.wrap ((BitVec.ofInt 64 n &&& BitVec.ofInt 64 65535).toNat : Nat) = n % 65536
  rw [k, IntKind.wrap_i64]
  omega

def lst (s : ByteArray) : List UInt8 := s.data.toList
theorem lst_len (s : ByteArray) : (lst s).length = s.size := rfl
theorem lst_inj {s t : ByteArray} (h : lst s = lst t) : s = t := ByteArray.ext (Array.toList_inj.1 h)
theorem lst_app (s t : ByteArray) : lst (s ++ t) = lst s ++ lst t := by simp [lst]
theorem lst_cut (s : ByteArray) (a b : Nat) : lst (s.extract a b) = ((lst s).drop a).take (b - a) := by
  unfold lst
  rw [ByteArray.data_extract, Array.toList_extract, List.extract_eq_take_drop]
theorem lst_tail (s : ByteArray) (a : Nat) : lst (tail s a) = (lst s).drop a := by
  rw [tail, lst_cut, List.take_of_length_le]
  rw [List.length_drop, lst_len]; exact Nat.le_refl _
theorem lst_two (v : Int) : lst (two v) = enc v.toNat 2 true := by simp [lst, two]
theorem num_lst (s : ByteArray) (a : Nat) : num s a = dec (((lst s).drop a).take 2) true := rfl
theorem enc_dec2 (x y : UInt8) : enc (dec [x, y] true) 2 true = [x, y] := by
  have hx := x.toNat_lt
  have hy := y.toNat_lt
  have e : dec [x, y] true = y.toNat + 256 * x.toNat := by simp [dec, val]
  rw [e]
  simp only [enc, digs, if_true, List.reverse_cons, List.reverse_nil, List.nil_append, List.singleton_append]
  congr 1
  · apply UInt8.toNat_inj.1; rw [UInt8.toNat_ofNat']; omega
  · congr 1; apply UInt8.toNat_inj.1; rw [UInt8.toNat_ofNat']; omega
theorem two_num (s : ByteArray) (a : Nat) (h : a + 2 ≤ s.size) : lst (two (num s a)) = ((lst s).drop a).take 2 := by
  rw [lst_two, Int.toNat_natCast, num_lst]
  have hl : (((lst s).drop a).take 2).length = 2 := by rw [List.length_take, List.length_drop, lst_len]; omega
  match ((lst s).drop a).take 2, hl with
  | [x, y], _ => exact enc_dec2 x y
theorem dec_two (v : Int) (h0 : 0 ≤ v) (h1 : v < 65536) : (dec (enc v.toNat 2 true) true : Int) = v := by
  rw [dec_enc _ _ _ (by omega)]; omega
/-- The bytes of a frame. -/
def raw (f : Fr) : ByteArray := f.d ++ f.r ++ tagS f.v f.p ++ two f.t ++ f.b
theorem raw_lst (f : Fr) : lst (raw f) = lst f.d ++ (lst f.r ++ (lst (tagS f.v f.p) ++ (lst (two f.t) ++ lst f.b))) := by
  simp [raw, lst_app, List.append_assoc]
theorem build_is {f : Fr} (h : buildE f = 0) : buildS f = raw f ∧ frameB f = true ∧ f.d.size + f.r.size + (tagS f.v f.p).size + 2 + f.b.size ≤ 1518 := by
  unfold buildE at h
  split at h
  · rename_i hc; exact ⟨(build_in hc).1, hc.1, hc.2⟩
  · cases h
theorem build_of {f : Fr} (h : frameB f = true) (hl : f.d.size + f.r.size + (tagS f.v f.p).size + 2 + f.b.size ≤ 1518) : buildS f = raw f ∧ buildE f = 0 := build_in ⟨h, hl⟩
theorem build_not {f : Fr} (h : buildE f ≠ 0) : buildS f = ⟨#[]⟩ ∧ buildE f = 61 := by
  unfold buildE at h
  split at h
  · exact absurd rfl h
  · rename_i hc; exact build_out hc
theorem raw_size {f : Fr} (h : frameB f = true) : (raw f).size = f.b.size + (if f.v = -1 then 14 else 18) := by
  obtain ⟨h1, h2, _, _⟩ := frameB_iff.1 h
  have : (raw f).size = f.d.size + f.r.size + (tagS f.v f.p).size + (two f.t).size + f.b.size := by simp [raw, ByteArray.size_append]
  rw [this, two_size, tagS_size, h1, h2]
  split <;> omega
theorem drop_of {l1 l2 : List UInt8} {n : Nat} (h : l1.length = n) : (l1 ++ l2).drop n = l2 := by subst h; simp
theorem take_of {l1 l2 : List UInt8} {n : Nat} (h : l1.length = n) : (l1 ++ l2).take n = l1 := by subst h; simp
/-- what is read of a frame's bytes is the frame -/
theorem read_raw {f : Fr} (h : frameB f = true) : readE (raw f) = 0 ∧ readF (raw f) = f := by
  obtain ⟨h1, h2, h3, h4⟩ := frameB_iff.1 h
  have h5 := kindB_iff.1 h4
  have hs := raw_size h
  have hr := raw_lst f
  obtain ⟨d, r, v, p, t, b⟩ := f
  simp only at *
  have ld : (lst d).length = 6 := h1
  have lr : (lst r).length = 6 := h2
  have lt : (lst (two t)).length = 2 := two_size t
  have e0 : ((lst (raw ⟨d, r, v, p, t, b⟩)).drop 0).take 6 = lst d := by rw [hr, List.drop_zero, take_of ld]
  have e6 : (lst (raw ⟨d, r, v, p, t, b⟩)).drop 6 = lst r ++ (lst (tagS v p) ++ (lst (two t) ++ lst b)) := by rw [hr, drop_of ld]
  have e12 : (lst (raw ⟨d, r, v, p, t, b⟩)).drop 12 = lst (tagS v p) ++ (lst (two t) ++ lst b) := by
    rw [show 12 = 6 + 6 from rfl, ← List.drop_drop, e6, drop_of lr]
  have x0 : (raw ⟨d, r, v, p, t, b⟩).extract 0 6 = d := lst_inj (by rw [lst_cut, e0])
  have x6 : (raw ⟨d, r, v, p, t, b⟩).extract 6 12 = r := lst_inj (by rw [lst_cut, e6, show 12 - 6 = 6 from rfl, take_of lr])
  rcases tagB_cases h3 with ⟨rfl, rfl⟩ | ⟨a0, a1, a2, a3⟩
  · have eT : lst (tagS (-1) 0) = [] := rfl
    rw [eT, List.nil_append] at e12
    rw [if_pos rfl] at hs
    have n12 : (num (raw ⟨d, r, -1, 0, t, b⟩) 12 : Int) = t := by rw [num_lst, e12, take_of lt, lst_two, dec_two t (by omega) (by omega)]
    have hne : num (raw ⟨d, r, -1, 0, t, b⟩) 12 ≠ 33024 := by omega
    have e14 : tail (raw ⟨d, r, -1, 0, t, b⟩) 14 = b := lst_inj (by rw [lst_tail, show 14 = 12 + 2 from rfl, ← List.drop_drop, e12, drop_of lt])
    refine ⟨by rw [readE, if_neg (by omega)], ?_⟩
    rw [readF_plain (by omega) hne, x0, x6, n12, e14]
  · have hv : v ≠ -1 := by omega
    have eT : lst (tagS v p) = lst (two 33024) ++ lst (two (8192 * p + v)) := by rw [tagS, if_neg hv, lst_app]
    rw [eT, List.append_assoc] at e12
    rw [if_neg hv] at hs
    have l1 : (lst (two 33024)).length = 2 := two_size _
    have l2 : (lst (two (8192 * p + v))).length = 2 := two_size _
    have n12 : (num (raw ⟨d, r, v, p, t, b⟩) 12 : Int) = 33024 := by rw [num_lst, e12, take_of l1, lst_two, dec_two _ (by omega) (by omega)]
    have e14 : (lst (raw ⟨d, r, v, p, t, b⟩)).drop 14 = lst (two (8192 * p + v)) ++ (lst (two t) ++ lst b) := by rw [show 14 = 12 + 2 from rfl, ← List.drop_drop, e12, drop_of l1]
    have n14 : (num (raw ⟨d, r, v, p, t, b⟩) 14 : Int) = 8192 * p + v := by rw [num_lst, e14, take_of l2, lst_two, dec_two _ (by omega) (by omega)]
    have e16 : (lst (raw ⟨d, r, v, p, t, b⟩)).drop 16 = lst (two t) ++ lst b := by rw [show 16 = 14 + 2 from rfl, ← List.drop_drop, e14, drop_of l2]
    have n16 : (num (raw ⟨d, r, v, p, t, b⟩) 16 : Int) = t := by rw [num_lst, e16, take_of lt, lst_two, dec_two t (by omega) (by omega)]
    have e18 : tail (raw ⟨d, r, v, p, t, b⟩) 18 = b := lst_inj (by rw [lst_tail, show 18 = 16 + 2 from rfl, ← List.drop_drop, e16, drop_of lt])
    refine ⟨by rw [readE, if_neg (by omega)], ?_⟩
    rw [readF_tag (by omega) (by omega), x0, x6, n16, e18, n14]
    congr 1 <;> omega
theorem parse_build {f : Fr} (h : buildE f = 0) : parseE (buildS f) = 0 ∧ parseF (buildS f) = f ∧ (buildS f).size = f.b.size + (if f.v = -1 then 14 else 18) ∧ (buildS f).size ≤ 1518 := by
  obtain ⟨e, hf, hl⟩ := build_is h
  obtain ⟨h1, h2, _, _⟩ := frameB_iff.1 hf
  have hs := raw_size hf
  obtain ⟨r1, r2⟩ := read_raw hf
  have hle : (raw f).size ≤ 1518 := by
    rw [hs]; rw [tagS_size, h1, h2] at hl; split at hl <;> split <;> omega
  rw [e]
  obtain ⟨p1, p2⟩ := parse_in hle r1 (by rw [r2]; exact hf)
  exact ⟨p1, by rw [p2, r2], hs, hle⟩
theorem parse_is {s : ByteArray} (h : parseE s = 0) : s.size ≤ 1518 ∧ readE s = 0 ∧ frameB (readF s) = true ∧ parseF s = readF s := by
  refine ⟨parseE_size h, ?_, ?_, if_pos h⟩
  · unfold parseE at h
    split at h
    · cases h
    · split at h
      · assumption
      · cases h
  · unfold parseE at h
    split at h
    · cases h
    · split at h
      · split at h
        · assumption
        · cases h
      · cases h
theorem raw_read {s : ByteArray} (h1 : readE s = 0) (h2 : frameB (readF s) = true) : raw (readF s) = s := by
  have h3 : 14 ≤ s.size ∧ (num s 12 = 33024 → 18 ≤ s.size) := by
    unfold readE at h1
    split at h1
    · cases h1
    · rename_i h; exact ⟨by omega, fun e => by omega⟩
  obtain ⟨_, _, g3, g4⟩ := frameB_iff.1 h2
  apply lst_inj
  have halves : ∀ (l : List UInt8) (n : Nat), l.take n ++ l.drop n = l := fun l n => List.take_append_drop n l
  rw [raw_lst]
  by_cases ht : num s 12 = 33024
  · have h18 := h3.2 ht
    have hF := readF_tag h18 ht
    rw [hF] at g3 g4 ⊢
    simp only at g3 g4 ⊢
    have hlt := num_lt s 14
    have hv : (num s 14 : Int) % 8192 ≠ -1 := by omega
    have e1 : tagS ((num s 14 : Int) % 8192) ((num s 14 : Int) / 8192) = two (num s 12) ++ two (num s 14) := by
      rw [tagS, if_neg hv, show (8192 * ((num s 14 : Int) / 8192) + (num s 14 : Int) % 8192) = num s 14 by omega, ht]; rfl
    rw [e1, lst_app, two_num s 12 (by omega), two_num s 14 (by omega), two_num s 16 (by omega), lst_cut, lst_cut, lst_tail]
    have d1 : (lst s).drop 6 = ((lst s).drop 6).take 6 ++ (lst s).drop 12 := by
      have := halves ((lst s).drop 6) 6; rw [List.drop_drop] at this; exact this.symm
    have d2 : (lst s).drop 12 = ((lst s).drop 12).take 2 ++ (lst s).drop 14 := by
      have := halves ((lst s).drop 12) 2; rw [List.drop_drop] at this; exact this.symm
    have d3 : (lst s).drop 14 = ((lst s).drop 14).take 2 ++ (lst s).drop 16 := by
      have := halves ((lst s).drop 14) 2; rw [List.drop_drop] at this; exact this.symm
    have d4 : (lst s).drop 16 = ((lst s).drop 16).take 2 ++ (lst s).drop 18 := by
      have := halves ((lst s).drop 16) 2; rw [List.drop_drop] at this; exact this.symm
    rw [List.append_assoc, ← d4, ← d3, ← d2, show 12 - 6 = 6 from rfl, ← d1, List.drop_zero]
    exact halves _ 6
  · have hF := readF_plain h3.1 ht
    rw [hF] at g3 g4 ⊢
    simp only at g3 g4 ⊢
    have e1 : lst (tagS (-1) 0) = [] := rfl
    rw [e1, List.nil_append, two_num s 12 (by omega), lst_cut, lst_cut, lst_tail]
    have d1 : (lst s).drop 6 = ((lst s).drop 6).take 6 ++ (lst s).drop 12 := by
      have := halves ((lst s).drop 6) 6; rw [List.drop_drop] at this; exact this.symm
    have d2 : (lst s).drop 12 = ((lst s).drop 12).take 2 ++ (lst s).drop 14 := by
      have := halves ((lst s).drop 12) 2; rw [List.drop_drop] at this; exact this.symm
    rw [← d2, show 12 - 6 = 6 from rfl, ← d1, List.drop_zero]
    exact halves _ 6
theorem build_parse {s : ByteArray} (h : parseE s = 0) : buildE (parseF s) = 0 ∧ buildS (parseF s) = s := by
  obtain ⟨h1, h2, h3, h4⟩ := parse_is h
  have hr := raw_read h2 h3
  have hs := raw_size h3
  obtain ⟨g1, g2, _, _⟩ := frameB_iff.1 h3
  rw [h4]
  obtain ⟨b1, b2⟩ := build_of h3 (by rw [hr] at hs; rw [tagS_size, g1, g2]; split <;> split at hs <;> omega)
  exact ⟨b2, by rw [b1, hr]⟩

/-! Tags -/
theorem tag_is {s : ByteArray} {n : Int} (h : tagE s n = 0) : parseE s = 0 ∧ buildE (tagF s n) = 0 ∧ tagT s n = buildS (tagF s n) := by
  unfold tagE at h
  split at h
  · rename_i hp; exact ⟨hp, h, if_pos hp⟩
  · rename_i hp; exact absurd h hp
theorem tag_of {s : ByteArray} {n : Int} (h1 : parseE s = 0) (h2 : buildE (tagF s n) = 0) : tagE s n = 0 ∧ tagT s n = buildS (tagF s n) :=
  ⟨by rw [tagE, if_pos h1, h2], if_pos h1⟩
theorem tag_parse {s : ByteArray} {n : Int} (h : tagE s n = 0) : parseE (tagT s n) = 0 ∧ parseF (tagT s n) = tagF s n := by
  obtain ⟨_, h2, h3⟩ := tag_is h
  rw [h3]
  exact ⟨(parse_build h2).1, (parse_build h2).2.1⟩
/-- a tag on top of a tag -/
theorem tag_tag {s : ByteArray} {n k : Int} (h : tagE s n = 0) (hn : n ≠ -1 ∨ k = -1) (hk : tagE s k = 0) : tagE (tagT s n) k = 0 ∧ tagT (tagT s n) k = tagT s k := by
  obtain ⟨p1, p2⟩ := tag_parse h
  obtain ⟨_, q2, q3⟩ := tag_is hk
  have e : tagF (tagT s n) k = tagF s k := by
    rw [tagF, p2]
    unfold tagF
    by_cases hk1 : k = -1
    · simp [hk1]
    · have hn1 : n ≠ -1 := hn.resolve_right hk1
      simp [hk1, hn1]
  obtain ⟨r1, r2⟩ := tag_of (s := tagT s n) (n := k) p1 (by rw [e]; exact q2)
  exact ⟨r1, by rw [r2, e, q3]⟩
theorem tagB_some (n p : Int) (h0 : 0 ≤ n) (h1 : n ≤ 4094) : tagB n p = decide (0 ≤ p ∧ p ≤ 7) := by
  rw [tagB, if_neg (by omega)]
  by_cases h : 0 ≤ p ∧ p ≤ 7
  · rw [decide_eq_true h, decide_eq_true ⟨h0, h1, h⟩]
  · rw [decide_eq_false h, decide_eq_false (fun x => h x.2.2)]
/-- the number of a tag makes no difference to whether there may be one -/
theorem build_same (d r : ByteArray) (n k p t : Int) (b : ByteArray) (h0 : 0 ≤ n) (h1 : n ≤ 4094) (g0 : 0 ≤ k) (g1 : k ≤ 4094) : buildE ⟨d, r, n, p, t, b⟩ = buildE ⟨d, r, k, p, t, b⟩ := by
  have hn : n ≠ -1 := by omega
  have hk : k ≠ -1 := by omega
  unfold buildE frameB
  simp only [tagB_some n p h0 h1, tagB_some k p g0 g1, tagS_size, if_neg hn, if_neg hk]
theorem tag_same (s : ByteArray) (n k : Int) (h0 : 0 ≤ n) (h1 : n ≤ 4094) (g0 : 0 ≤ k) (g1 : k ≤ 4094) : tagE s n = tagE s k := by
  unfold tagE tagF
  rw [if_neg (show n ≠ -1 by omega), if_neg (show k ≠ -1 by omega), build_same _ _ n k _ _ _ h0 h1 g0 g1]
/-- a tag, behind it was taken off -/
theorem tag_again {s : ByteArray} {n : Int} (h0 : 0 ≤ n) (h1 : n ≤ 4094) (h : tagE s n = 0) (hm : tagE s (-1) = 0) :
    tagE (tagT s (-1)) n = 0 ∧ parseE (tagT (tagT s (-1)) n) = 0 ∧ parseF (tagT (tagT s (-1)) n) = ⟨(parseF s).d, (parseF s).r, n, 0, (parseF s).t, (parseF s).b⟩ := by
  obtain ⟨p1, p2⟩ := tag_parse hm
  obtain ⟨_, q2, _⟩ := tag_is h
  have hn : n ≠ -1 := by omega
  have e : tagF (tagT s (-1)) n = ⟨(parseF s).d, (parseF s).r, n, 0, (parseF s).t, (parseF s).b⟩ := by
    rw [tagF, p2]
    unfold tagF
    simp [hn]
  have e2 : tagF s n = ⟨(parseF s).d, (parseF s).r, n, (parseF s).p, (parseF s).t, (parseF s).b⟩ := by rw [tagF, if_neg hn]
  have hb : buildE (tagF (tagT s (-1)) n) = 0 := by
    rw [e]
    rw [e2] at q2
    obtain ⟨_, f1, f2⟩ := build_is q2
    obtain ⟨g1, g2, g3, g4⟩ := frameB_iff.1 f1
    simp only at g1 g2 g3 g4 f2
    refine (build_of (f := ⟨(parseF s).d, (parseF s).r, n, 0, (parseF s).t, (parseF s).b⟩) (frameB_iff.2 ⟨g1, g2, ?_, g4⟩) ?_).2
    · show tagB n 0 = true
      rw [tagB_some n 0 h0 h1]; rfl
    · show _ + _ + (tagS n 0).size + 2 + _ ≤ 1518
      rw [tagS_size, if_neg hn]
      rw [tagS_size, if_neg hn] at f2
      exact f2
  obtain ⟨r1, r2⟩ := tag_of p1 hb
  obtain ⟨t1, t2⟩ := tag_parse r1
  exact ⟨r1, t1, by rw [t2, e]⟩
theorem tag_size {s : ByteArray} {n : Int} (h : tagE s n = 0) : (tagT s n).size = (parseF s).b.size + (if n = -1 then 14 else 18) ∧ (tagT s n).size ≤ 1518 := by
  obtain ⟨_, h2, h3⟩ := tag_is h
  rw [h3]
  exact (parse_build h2).2.2
end Go.Proofs.Ytpjndjmneficbaa
