/-
  Packets and segments there and back.
-/
import Derived.Test.YtalkpllmcigjnaaMg
import Derived.Test.YtalkpllmcigjnaaMe
namespace Go.Proofs.Ytalkpllmcigjnaa


theorem cut_at {s : ByteArray} {X M Y : List UInt8} {a n b : Nat} (h : lst s = X ++ (M ++ Y)) (hx : X.length = a) (hm : M.length = n) (hb : b = a + n) : lst (s.extract a b) = M := by
  subst hb
  rw [cut_here, h, drop_of hx, take_of hm]
theorem nat_at {s : ByteArray} {X M Y : List UInt8} {a n : Nat} (h : lst s = X ++ (M ++ Y)) (hx : X.length = a) (hm : M.length = n) : nat s a n = dec M true := by
  rw [nat_lst, h, drop_of hx, take_of hm]
theorem bs_len (v : Int) (n : Nat) : (lst (bs v n)).length = n := by rw [lst_bs, enc_length]
theorem dec_bs (v : Int) (n : Nat) (h0 : 0 ≤ v) (h1 : v < 256 ^ n) : ((dec (lst (bs v n)) true : Nat) : Int) = v := nat_bs v n h0 h1
theorem num_at {s : ByteArray} {X Y : List UInt8} {a n : Nat} (v : Int) (h : lst s = X ++ (lst (bs v n) ++ Y)) (hx : X.length = a) (h0 : 0 ≤ v) (h1 : v < 256 ^ n) : ((nat s a n : Nat) : Int) = v := by
  rw [nat_at h hx (bs_len v n)]
  exact dec_bs v n h0 h1
theorem lst_blank (h : ByteArray) : lst (blank h) = (lst h).take 10 ++ (lst (bs 0 2) ++ (lst h).drop 12) := by
  unfold blank
  rw [lst_app, lst_app, lst_cut, lst_cut, List.append_assoc]
  congr 2
  rw [List.take_of_length_le (by rw [List.length_drop, lst_len]; omega)]
theorem take10 (h : ByteArray) (h12 : 12 ≤ h.size) : ((lst h).take 10).length = 10 := by rw [List.length_take, lst_len]; omega
theorem lst_sumd (h : ByteArray) (h12 : 12 ≤ h.size) : lst (sumd h) = (lst h).take 10 ++ (lst (bs (65535 - onS 0 (blank h)) 2) ++ (lst h).drop 12) := by
  unfold sumd
  generalize (65535 - onS 0 (blank h) : Int) = x
  have hl := lst_blank h
  rw [lst_app, lst_app, lst_cut, lst_cut, List.append_assoc, List.drop_zero, Nat.sub_zero, hl, take_of (take10 h h12)]
  congr 2
  have e : ((lst h).take 10 ++ (lst (bs 0 2) ++ (lst h).drop 12)).drop 12 = (lst h).drop 12 := by
    rw [← List.append_assoc, drop_of]
    rw [List.length_append, take10 h h12, bs_len]
  rw [e, List.take_of_length_le]
  rw [List.length_drop, lst_len, blank_size h h12]
  omega
theorem blank_sumd (h : ByteArray) (h12 : 12 ≤ h.size) : blank (sumd h) = blank h := by
  apply lst_inj
  rw [lst_blank, lst_blank, lst_sumd h h12, take_of (take10 h h12)]
  congr 2
  rw [← List.append_assoc, drop_of]
  rw [List.length_append, take10 h h12, bs_len]
theorem sumd_sumd (h : ByteArray) (h12 : 12 ≤ h.size) : sumd (sumd h) = sumd h := by
  have e := blank_sumd h h12
  have d : ∀ x, sumd x = (fun B : ByteArray => B.extract 0 10 ++ bs (65535 - onS 0 B) 2 ++ B.extract 12 B.size) (blank x) := fun _ => rfl
  rw [d (sumd h), e]
  exact (d h).symm
theorem dec_cons (c : UInt8) (r : List UInt8) : dec (c :: r) true = dec r true + 256 ^ r.length * c.toNat := by
  rw [dec_big, dec_big, List.reverse_cons, val_snoc, List.length_reverse]
theorem first_of4 (s : ByteArray) (h : 4 ≤ s.size) : nat s 0 1 = nat s 0 4 / 16777216 := by
  rw [nat_lst, nat_lst, List.drop_zero]
  have hl : (lst s).length = s.size := rfl
  match hs : lst s, hl with
  | c :: r, hl =>
    have h3 : (r.take 3).length = 3 := by rw [List.length_take]; simp at hl; omega
    show dec (c :: []) true = dec (c :: r.take 3) true / 16777216
    rw [dec_cons, dec_cons, h3]
    have h0 : dec ([] : List UInt8) true = 0 := rfl
    have hlt := dec_lt (r.take 3) true
    rw [h3] at hlt
    rw [h0]
    simp only [List.length_nil]
    omega
  | [], hl => simp at hl; omega

/-- The bytes of a packet of version 4. -/
theorem lst_four (p : Pk) (h : pk4B p = true) : lst (ipS p) = lst (bs (64 + (20 + (p.opt.size : Int)) / 4) 1) ++ (lst (bs p.cls 1) ++ (lst (bs (20 + (p.opt.size : Int) + p.body.size) 2) ++ (lst (bs p.id 2) ++ (lst (bs (8192 * p.flags + p.off) 2) ++ (lst (bs p.hops 1) ++ (lst (bs p.proto 1) ++ (lst (bs (65535 - onS 0 (blank (ipH p))) 2) ++ (lst p.src ++ (lst p.dst ++ (lst p.opt ++ lst p.body)))))))))) := by
  have hp := pk4B_iff.1 h
  have hz : (ipH p).size = 20 + p.opt.size := by rw [head4_size]; omega
  rw [ipS, if_pos h, lst_app, lst_sumd _ (by omega)]
  generalize (65535 - onS 0 (blank (ipH p)) : Int) = x
  have hl : lst (ipH p) = (lst (bs (64 + (20 + (p.opt.size : Int)) / 4) 1) ++ (lst (bs p.cls 1) ++ (lst (bs (20 + (p.opt.size : Int) + p.body.size) 2) ++ (lst (bs p.id 2) ++ (lst (bs (8192 * p.flags + p.off) 2) ++ (lst (bs p.hops 1) ++ lst (bs p.proto 1))))))) ++ (lst (bs 0 2) ++ (lst p.src ++ (lst p.dst ++ lst p.opt))) := by
    simp only [ipH, head4B, lst_app, List.append_assoc]
  have l10 : (lst (bs (64 + (20 + (p.opt.size : Int)) / 4) 1) ++ (lst (bs p.cls 1) ++ (lst (bs (20 + (p.opt.size : Int) + p.body.size) 2) ++ (lst (bs p.id 2) ++ (lst (bs (8192 * p.flags + p.off) 2) ++ (lst (bs p.hops 1) ++ lst (bs p.proto 1))))))).length = 10 := by
    simp only [List.length_append, bs_len]
  rw [hl, take_of l10]
  have e : ((lst (bs (64 + (20 + (p.opt.size : Int)) / 4) 1) ++ (lst (bs p.cls 1) ++ (lst (bs (20 + (p.opt.size : Int) + p.body.size) 2) ++ (lst (bs p.id 2) ++ (lst (bs (8192 * p.flags + p.off) 2) ++ (lst (bs p.hops 1) ++ lst (bs p.proto 1))))))) ++ (lst (bs 0 2) ++ (lst p.src ++ (lst p.dst ++ lst p.opt)))).drop 12 = lst p.src ++ (lst p.dst ++ lst p.opt) := by
    rw [← List.append_assoc, drop_of]
    rw [List.length_append, l10, bs_len]
  rw [e]
  simp only [List.append_assoc]
theorem four_back (p : Pk) (h : pk4B p = true) : ipE (ipS p) = 0 ∧ ipP (ipS p) = p := by
  have hp := pk4B_iff.1 h
  have hl := lst_four p h
  have hz : (ipH p).size = 20 + p.opt.size := by rw [head4_size]; omega
  have hs : (ipS p).size = 20 + p.opt.size + p.body.size := by
    rw [ipS, if_pos h, ByteArray.size_append, sumd_size _ (by omega), hz]
  have a0 : lst (ipS p) = ([] : List UInt8) ++ (lst (bs (64 + (20 + (p.opt.size : Int)) / 4) 1) ++ (lst (bs p.cls 1) ++ lst (bs (20 + (p.opt.size : Int) + p.body.size) 2) ++ lst (bs p.id 2) ++ lst (bs (8192 * p.flags + p.off) 2) ++ lst (bs p.hops 1) ++ lst (bs p.proto 1) ++ lst (bs (65535 - onS 0 (blank (ipH p))) 2) ++ lst p.src ++ lst p.dst ++ lst p.opt ++ lst p.body)) := by rw [hl]; simp
  have a1 : lst (ipS p) = (lst (bs (64 + (20 + (p.opt.size : Int)) / 4) 1)) ++ (lst (bs p.cls 1) ++ (lst (bs (20 + (p.opt.size : Int) + p.body.size) 2) ++ lst (bs p.id 2) ++ lst (bs (8192 * p.flags + p.off) 2) ++ lst (bs p.hops 1) ++ lst (bs p.proto 1) ++ lst (bs (65535 - onS 0 (blank (ipH p))) 2) ++ lst p.src ++ lst p.dst ++ lst p.opt ++ lst p.body)) := by rw [hl]; simp
  have a2 : lst (ipS p) = (lst (bs (64 + (20 + (p.opt.size : Int)) / 4) 1) ++ lst (bs p.cls 1)) ++ (lst (bs (20 + (p.opt.size : Int) + p.body.size) 2) ++ (lst (bs p.id 2) ++ lst (bs (8192 * p.flags + p.off) 2) ++ lst (bs p.hops 1) ++ lst (bs p.proto 1) ++ lst (bs (65535 - onS 0 (blank (ipH p))) 2) ++ lst p.src ++ lst p.dst ++ lst p.opt ++ lst p.body)) := by rw [hl]; simp
  have a3 : lst (ipS p) = (lst (bs (64 + (20 + (p.opt.size : Int)) / 4) 1) ++ lst (bs p.cls 1) ++ lst (bs (20 + (p.opt.size : Int) + p.body.size) 2)) ++ (lst (bs p.id 2) ++ (lst (bs (8192 * p.flags + p.off) 2) ++ lst (bs p.hops 1) ++ lst (bs p.proto 1) ++ lst (bs (65535 - onS 0 (blank (ipH p))) 2) ++ lst p.src ++ lst p.dst ++ lst p.opt ++ lst p.body)) := by rw [hl]; simp
  have a4 : lst (ipS p) = (lst (bs (64 + (20 + (p.opt.size : Int)) / 4) 1) ++ lst (bs p.cls 1) ++ lst (bs (20 + (p.opt.size : Int) + p.body.size) 2) ++ lst (bs p.id 2)) ++ (lst (bs (8192 * p.flags + p.off) 2) ++ (lst (bs p.hops 1) ++ lst (bs p.proto 1) ++ lst (bs (65535 - onS 0 (blank (ipH p))) 2) ++ lst p.src ++ lst p.dst ++ lst p.opt ++ lst p.body)) := by rw [hl]; simp
  have a5 : lst (ipS p) = (lst (bs (64 + (20 + (p.opt.size : Int)) / 4) 1) ++ lst (bs p.cls 1) ++ lst (bs (20 + (p.opt.size : Int) + p.body.size) 2) ++ lst (bs p.id 2) ++ lst (bs (8192 * p.flags + p.off) 2)) ++ (lst (bs p.hops 1) ++ (lst (bs p.proto 1) ++ lst (bs (65535 - onS 0 (blank (ipH p))) 2) ++ lst p.src ++ lst p.dst ++ lst p.opt ++ lst p.body)) := by rw [hl]; simp
  have a6 : lst (ipS p) = (lst (bs (64 + (20 + (p.opt.size : Int)) / 4) 1) ++ lst (bs p.cls 1) ++ lst (bs (20 + (p.opt.size : Int) + p.body.size) 2) ++ lst (bs p.id 2) ++ lst (bs (8192 * p.flags + p.off) 2) ++ lst (bs p.hops 1)) ++ (lst (bs p.proto 1) ++ (lst (bs (65535 - onS 0 (blank (ipH p))) 2) ++ lst p.src ++ lst p.dst ++ lst p.opt ++ lst p.body)) := by rw [hl]; simp
  have a7 : lst (ipS p) = (lst (bs (64 + (20 + (p.opt.size : Int)) / 4) 1) ++ lst (bs p.cls 1) ++ lst (bs (20 + (p.opt.size : Int) + p.body.size) 2) ++ lst (bs p.id 2) ++ lst (bs (8192 * p.flags + p.off) 2) ++ lst (bs p.hops 1) ++ lst (bs p.proto 1)) ++ (lst (bs (65535 - onS 0 (blank (ipH p))) 2) ++ (lst p.src ++ lst p.dst ++ lst p.opt ++ lst p.body)) := by rw [hl]; simp
  have a8 : lst (ipS p) = (lst (bs (64 + (20 + (p.opt.size : Int)) / 4) 1) ++ lst (bs p.cls 1) ++ lst (bs (20 + (p.opt.size : Int) + p.body.size) 2) ++ lst (bs p.id 2) ++ lst (bs (8192 * p.flags + p.off) 2) ++ lst (bs p.hops 1) ++ lst (bs p.proto 1) ++ lst (bs (65535 - onS 0 (blank (ipH p))) 2)) ++ (lst p.src ++ (lst p.dst ++ lst p.opt ++ lst p.body)) := by rw [hl]; simp
  have a9 : lst (ipS p) = (lst (bs (64 + (20 + (p.opt.size : Int)) / 4) 1) ++ lst (bs p.cls 1) ++ lst (bs (20 + (p.opt.size : Int) + p.body.size) 2) ++ lst (bs p.id 2) ++ lst (bs (8192 * p.flags + p.off) 2) ++ lst (bs p.hops 1) ++ lst (bs p.proto 1) ++ lst (bs (65535 - onS 0 (blank (ipH p))) 2) ++ lst p.src) ++ (lst p.dst ++ (lst p.opt ++ lst p.body)) := by rw [hl]; simp
  have a10 : lst (ipS p) = (lst (bs (64 + (20 + (p.opt.size : Int)) / 4) 1) ++ lst (bs p.cls 1) ++ lst (bs (20 + (p.opt.size : Int) + p.body.size) 2) ++ lst (bs p.id 2) ++ lst (bs (8192 * p.flags + p.off) 2) ++ lst (bs p.hops 1) ++ lst (bs p.proto 1) ++ lst (bs (65535 - onS 0 (blank (ipH p))) 2) ++ lst p.src ++ lst p.dst) ++ (lst p.opt ++ (lst p.body)) := by rw [hl]; simp
  have a11 : lst (ipS p) = (lst (bs (64 + (20 + (p.opt.size : Int)) / 4) 1) ++ lst (bs p.cls 1) ++ lst (bs (20 + (p.opt.size : Int) + p.body.size) 2) ++ lst (bs p.id 2) ++ lst (bs (8192 * p.flags + p.off) 2) ++ lst (bs p.hops 1) ++ lst (bs p.proto 1) ++ lst (bs (65535 - onS 0 (blank (ipH p))) 2) ++ lst p.src ++ lst p.dst ++ lst p.opt) ++ (lst p.body ++ ([] : List UInt8)) := by rw [hl]; simp
  have ls : (lst p.src).length = 4 := hp.2.1
  have ld : (lst p.dst).length = 4 := hp.2.2.1
  have lo : (lst p.opt).length = p.opt.size := rfl
  have lb : (lst p.body).length = p.body.size := rfl
  have m0 : ((nat (ipS p) 0 1 : Nat) : Int) = (64 + (20 + (p.opt.size : Int)) / 4) := num_at (64 + (20 + (p.opt.size : Int)) / 4) a0 rfl (by omega) (by omega)
  have m1 : ((nat (ipS p) 1 1 : Nat) : Int) = p.cls := num_at p.cls a1 (by simp [bs_len]) (by omega) (by omega)
  have m2 : ((nat (ipS p) 2 2 : Nat) : Int) = (20 + (p.opt.size : Int) + p.body.size) := num_at (20 + (p.opt.size : Int) + p.body.size) a2 (by simp [bs_len]) (by omega) (by omega)
  have m3 : ((nat (ipS p) 4 2 : Nat) : Int) = p.id := num_at p.id a3 (by simp [bs_len]) (by omega) (by omega)
  have m4 : ((nat (ipS p) 6 2 : Nat) : Int) = (8192 * p.flags + p.off) := num_at (8192 * p.flags + p.off) a4 (by simp [bs_len]) (by omega) (by omega)
  have m5 : ((nat (ipS p) 8 1 : Nat) : Int) = p.hops := num_at p.hops a5 (by simp [bs_len]) (by omega) (by omega)
  have m6 : ((nat (ipS p) 9 1 : Nat) : Int) = p.proto := num_at p.proto a6 (by simp [bs_len]) (by omega) (by omega)
  have c8 : (ipS p).extract 12 16 = p.src := lst_inj (cut_at a8 (by simp only [List.length_append, bs_len]) ls rfl)
  have c9 : (ipS p).extract 16 20 = p.dst := lst_inj (cut_at a9 (by simp only [List.length_append, bs_len, ls]) ld rfl)
  have c10 : (ipS p).extract 20 (20 + p.opt.size) = p.opt := lst_inj (cut_at a10 (by simp only [List.length_append, bs_len, ls, ld]) lo rfl)
  have c11 : (ipS p).extract (20 + p.opt.size) (ipS p).size = p.body := lst_inj (cut_at a11 (by simp only [List.length_append, bs_len, ls, ld, lo]) lb hs)
  have e4 : n4 (ipS p) = 20 + p.opt.size := by unfold n4; omega
  have v4 : nat (ipS p) 0 1 / 16 = 4 := by omega
  have sh : ¬ short4 (ipS p) := by unfold short4; rw [e4]; omega
  have fm : form4 (ipS p) := by unfold form4; rw [e4]; omega
  have sm : sum4 (ipS p) := by
    have e : (ipS p).extract 0 (20 + p.opt.size) = sumd (ipH p) := by
      apply lst_inj
      rw [lst_cut, List.drop_zero, Nat.sub_zero, ipS, if_pos h, lst_app, take_of]
      rw [lst_len, sumd_size _ (by omega), hz]
    unfold sum4
    rw [e4, e, sumd_sumd _ (by omega)]
  have e0 : ipE (ipS p) = 0 := by rw [ipE, if_neg (by omega), if_pos v4, if_neg sh, if_pos fm, if_pos sm]
  refine ⟨e0, ?_⟩
  rw [ipP, if_pos e0, if_pos v4, pk4, e4, c8, c9, c10, c11, m6, m5, m1, m3, m4]
  obtain ⟨pv, psrc, pdst, pproto, phops, pcls, pid, pflags, poff, plabel, popt, pbody⟩ := p
  simp only at hp ⊢
  obtain ⟨h1, h2, h3, h4, h5, h6, h7, h8, h9, h10, h11, h12⟩ := hp
  have f1 : (8192 * pflags + poff) / 8192 = pflags := by omega
  have f2 : (8192 * pflags + poff) % 8192 = poff := by omega
  rw [f1, f2, h1, h10]
theorem six_back (p : Pk) (h : pk6B p = true) : ipE (ipS p) = 0 ∧ ipP (ipS p) = p := by
  have hp := pk6B_iff.1 h
  have h4 : ¬ pk4B p = true := fun x => by have := (pk4B_iff.1 x).1; omega
  have hl : lst (ipS p) = lst (bs (1610612736 + p.cls * 1048576 + p.label) 4) ++ lst (bs p.body.size 2) ++ lst (bs p.proto 1) ++ lst (bs p.hops 1) ++ lst p.src ++ lst p.dst ++ lst p.body := by
    rw [ipS, if_neg h4, if_pos h]
    simp only [head6B, lst_app]
  have hs : (ipS p).size = 40 + p.body.size := by
    rw [ipS, if_neg h4, if_pos h, ByteArray.size_append, head6_size]; omega
  have a0 : lst (ipS p) = ([] : List UInt8) ++ (lst (bs (1610612736 + p.cls * 1048576 + p.label) 4) ++ (lst (bs p.body.size 2) ++ lst (bs p.proto 1) ++ lst (bs p.hops 1) ++ lst p.src ++ lst p.dst ++ lst p.body)) := by rw [hl]; simp
  have a1 : lst (ipS p) = (lst (bs (1610612736 + p.cls * 1048576 + p.label) 4)) ++ (lst (bs p.body.size 2) ++ (lst (bs p.proto 1) ++ lst (bs p.hops 1) ++ lst p.src ++ lst p.dst ++ lst p.body)) := by rw [hl]; simp
  have a2 : lst (ipS p) = (lst (bs (1610612736 + p.cls * 1048576 + p.label) 4) ++ lst (bs p.body.size 2)) ++ (lst (bs p.proto 1) ++ (lst (bs p.hops 1) ++ lst p.src ++ lst p.dst ++ lst p.body)) := by rw [hl]; simp
  have a3 : lst (ipS p) = (lst (bs (1610612736 + p.cls * 1048576 + p.label) 4) ++ lst (bs p.body.size 2) ++ lst (bs p.proto 1)) ++ (lst (bs p.hops 1) ++ (lst p.src ++ lst p.dst ++ lst p.body)) := by rw [hl]; simp
  have a4 : lst (ipS p) = (lst (bs (1610612736 + p.cls * 1048576 + p.label) 4) ++ lst (bs p.body.size 2) ++ lst (bs p.proto 1) ++ lst (bs p.hops 1)) ++ (lst p.src ++ (lst p.dst ++ lst p.body)) := by rw [hl]; simp
  have a5 : lst (ipS p) = (lst (bs (1610612736 + p.cls * 1048576 + p.label) 4) ++ lst (bs p.body.size 2) ++ lst (bs p.proto 1) ++ lst (bs p.hops 1) ++ lst p.src) ++ (lst p.dst ++ (lst p.body)) := by rw [hl]; simp
  have a6 : lst (ipS p) = (lst (bs (1610612736 + p.cls * 1048576 + p.label) 4) ++ lst (bs p.body.size 2) ++ lst (bs p.proto 1) ++ lst (bs p.hops 1) ++ lst p.src ++ lst p.dst) ++ (lst p.body ++ ([] : List UInt8)) := by rw [hl]; simp
  have ls : (lst p.src).length = 16 := hp.2.1
  have ld : (lst p.dst).length = 16 := hp.2.2.1
  have lb : (lst p.body).length = p.body.size := rfl
  have m0 : ((nat (ipS p) 0 4 : Nat) : Int) = (1610612736 + p.cls * 1048576 + p.label) := num_at (1610612736 + p.cls * 1048576 + p.label) a0 rfl (by omega) (by omega)
  have m1 : ((nat (ipS p) 4 2 : Nat) : Int) = (p.body.size : Int) := num_at (p.body.size : Int) a1 (by simp [bs_len]) (by omega) (by omega)
  have m2 : ((nat (ipS p) 6 1 : Nat) : Int) = p.proto := num_at p.proto a2 (by simp [bs_len]) (by omega) (by omega)
  have m3 : ((nat (ipS p) 7 1 : Nat) : Int) = p.hops := num_at p.hops a3 (by simp [bs_len]) (by omega) (by omega)
  have c4 : (ipS p).extract 8 24 = p.src := lst_inj (cut_at a4 (by simp only [List.length_append, bs_len]) ls rfl)
  have c5 : (ipS p).extract 24 40 = p.dst := lst_inj (cut_at a5 (by simp only [List.length_append, bs_len, ls]) ld rfl)
  have c6 : (ipS p).extract 40 (ipS p).size = p.body := lst_inj (cut_at a6 (by simp only [List.length_append, bs_len, ls, ld]) lb hs)
  have f4 := first_of4 (ipS p) (by omega)
  have v6 : nat (ipS p) 0 1 / 16 = 6 := by omega
  have fm : form6 (ipS p) := by unfold form6; omega
  have e0 : ipE (ipS p) = 0 := by rw [ipE, if_neg (by omega), if_neg (by omega), if_pos v6, if_neg (by omega), if_pos fm]
  refine ⟨e0, ?_⟩
  rw [ipP, if_pos e0, if_neg (by omega), pk6, c4, c5, c6, m0, m2, m3]
  obtain ⟨pv, psrc, pdst, pproto, phops, pcls, pid, pflags, poff, plabel, popt, pbody⟩ := p
  simp only at hp ⊢
  obtain ⟨h1, h2, h3, h4, h5, h6, h7, h8, h9, h10, h11, h12⟩ := hp
  have f1 : (1610612736 + pcls * 1048576 + plabel) / 1048576 % 256 = pcls := by omega
  have f2 : (1610612736 + pcls * 1048576 + plabel) % 1048576 = plabel := by omega
  have f3 : popt = ⟨#[]⟩ := lst_inj (List.length_eq_zero_iff.1 h11)
  rw [f1, f2, h1, h7, h8, h9, f3]
theorem ip_back {p : Pk} (h : ipF p = 0) : ipE (ipS p) = 0 ∧ ipP (ipS p) = p := by
  unfold ipF at h
  split at h <;> rename_i hc
  · rcases hc with hc | hc
    · exact four_back p hc
    · exact six_back p hc
  · cases h
end Go.Proofs.Ytalkpllmcigjnaa
namespace Go.Proofs.Ytalkpllmcigjnaa


theorem lst_withS (s : ByteArray) (a : Nat) (v : Int) : lst (withS s a v) = (lst s).take a ++ (lst (bs v 2) ++ (lst s).drop (a + 2)) := by
  unfold withS
  rw [lst_app, lst_app, lst_cut, lst_cut, List.append_assoc, List.drop_zero, Nat.sub_zero]
  congr 2
  rw [List.take_of_length_le (by rw [List.length_drop, lst_len]; omega)]
theorem atV_six (proto : Int) : 6 ≤ atV proto := by unfold atV; split <;> omega
theorem blank_first (p : Pk) (g : Sg) : ∃ r, lst (blankS p g) = lst (bs g.src 2) ++ (lst (bs g.dst 2) ++ r) := by
  unfold blankS
  split
  · exact ⟨lst (restB g.seq g.ack g.flags g.win g.urgent g.opt) ++ (lst g.opt ++ lst g.body), by simp only [lst_app, List.append_assoc]⟩
  · exact ⟨lst (bs (8 + g.body.size) 2) ++ (lst (bs 0 2) ++ lst g.body), by simp only [lst_app, List.append_assoc]⟩
/-- A segment's ports come first; it has so many bytes. -/
theorem seg_first {p : Pk} {g : Sg} (h : segOk p g = true) : lst ((segS p g).extract 0 4) = lst (bs g.src 2) ++ lst (bs g.dst 2) ∧ (segS p g).size = (blankS p g).size := by
  have hk : kindOk p g = true := by
    simp only [segOk, Bool.and_eq_true] at h
    exact h.2.2
  have hz := kind_size hk
  obtain ⟨r, hr⟩ := blank_first p g
  have e4 : (lst (blankS p g)).take 4 = lst (bs g.src 2) ++ lst (bs g.dst 2) := by
    rw [hr, ← List.append_assoc, take_of]
    rw [List.length_append, bs_len, bs_len]
  rw [segS, if_pos h]
  split
  · exact ⟨by rw [lst_cut, List.drop_zero, Nat.sub_zero, e4], rfl⟩
  · refine ⟨?_, withS_size _ _ _ hz.2⟩
    have h6 := atV_six p.proto
    rw [lst_cut, List.drop_zero, Nat.sub_zero, lst_withS, List.take_append_of_le_length (by rw [List.length_take, lst_len]; omega), List.take_take, Nat.min_eq_left (by omega), e4]
theorem seg_size {p : Pk} {g : Sg} (h : segOk p g = true) : 8 ≤ (segS p g).size ∧ (segS p g).size ≤ 60 + g.body.size := by
  have hk : kindOk p g = true := by
    simp only [segOk, Bool.and_eq_true] at h
    exact h.2.2
  rw [(seg_first h).2]
  by_cases h6 : p.proto = 6
  · rw [blank_tcp_size h6]
    have ht : tcpB g.flags g.win g.urgent g.opt g.body g.nosum = true := by rw [kindOk, if_pos h6] at hk; exact hk
    simp only [tcpB, Bool.and_eq_true, decide_eq_true_eq] at ht
    omega
  · rw [blank_udp_size h6]
    omega
def typV (v : Int) : Int := if v = 6 then 34525 else 2048
theorem ip_v {p : Pk} (h : ipF p = 0) : p.v = 4 ∨ p.v = 6 := by
  unfold ipF at h
  split at h <;> rename_i hc
  · rcases hc with hc | hc
    · exact .inl (pk4B_iff.1 hc).1
    · exact .inr (pk6B_iff.1 hc).1
  · cases h
theorem ip_size {p : Pk} (h : ipF p = 0) : (ipS p).size ≤ 60 + p.body.size := by
  unfold ipF at h
  split at h <;> rename_i hc
  · by_cases h4 : pk4B p = true
    · have hp := pk4B_iff.1 h4
      rw [ipS, if_pos h4, ByteArray.size_append, sumd_size _ (by rw [head4_size]; omega), head4_size]
      omega
    · have h6 := hc.resolve_left h4
      have hp := pk6B_iff.1 h6
      rw [ipS, if_neg h4, if_pos h6, ByteArray.size_append, head6_size]
      omega
  · cases h
end Go.Proofs.Ytalkpllmcigjnaa
