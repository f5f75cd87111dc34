/-
  For every input the law HdrWhole returns true, and its arguments read afterwards as before; no condition beyond the form's own reach.
-/
import Derived.Test.YtalkpllmcigjnaaMk
import Derived.Test.YtalkpllmcigjnaaMv
import Derived.Test.YtalkpllmcigjnaaMu
import Derived.Test.YtalkpllmcigjnaaMw
import Derived.Test.YtalkpllmcigjnaaWwham
import Derived.Test.YtalkpllmcigjnaaWwhbm
namespace Go.Proofs.Ytalkpllmcigjnaa
open Go.Joins Go.ChangeShapes Go.WideShapes Go.ChangeAt Go.RowKit Go.Deep
open Go.ChangeMaps (open_string)

theorem ip_none {p : Pk} (h : ipF p ≠ 0) : ipS p = ⟨#[]⟩ := by
  unfold ipF at h
  split at h
  · exact absurd rfl h
  · rename_i hk
    rw [ipS, if_neg (fun x => hk (.inl x)), if_neg (fun x => hk (.inr x))]
theorem ip_upto (p : Pk) : (ipS p).size ≤ 60 + p.body.size := by
  by_cases h : ipF p = 0
  · exact ip_size h
  · rw [ip_none h]; exact Nat.zero_le _
theorem build_upto (f : Fr) : (buildS f).size ≤ 1518 := by
  unfold buildS
  split
  · rename_i h
    obtain ⟨_, h⟩ := h
    have e : (two f.t).size = 2 := rfl
    simp only [ByteArray.size_append, e]
    omega
  · exact Nat.zero_le _
theorem whole_s (v : Int) (src dst : ByteArray) (proto hops cls id flags off label : Int) (opt body : ByteArray) (gsrc gdst seq ack gflags win urgent : Int) (gopt gbody : ByteArray) (nosum : Bool) (vlan : Int) (w : World) (hl : gbody.size ≤ 500) (ho : opt.size ≤ 140737488351232) (hq : 0 ≤ seq ∧ seq < 4294967296) (ha : 0 ≤ ack ∧ ack < 4294967296) (hgo : gopt.size ≤ 140737488351232) :
    Calls Try.prog 6 #[.agg #[.int .i64 v, .string src, .string dst, .int .i64 proto, .int .i64 hops, .int .i64 cls, .int .i64 id, .int .i64 flags, .int .i64 off, .int .i64 label, .string opt, .string body], .agg #[.int .i64 gsrc, .int .i64 gdst, .int .u32 seq, .int .u32 ack, .int .i64 gflags, .int .i64 win, .int .i64 urgent, .string gopt, .string gbody, .bool nosum], .int .i64 vlan] w fun e w' => e = .returned (.bool true) ∧ Below w.heap.size w w' := by
  have hb : (gbody).size ≤ 500 := by exact hl
  obtain ⟨p, hp⟩ : ∃ p : Pk, p = ⟨v, src, dst, proto, hops, cls, id, flags, off, label, opt, ⟨#[]⟩⟩ := ⟨_, rfl⟩
  obtain ⟨g, hg⟩ : ∃ g : Sg, g = ⟨gsrc, gdst, seq, ack, gflags, win, urgent, gopt, gbody, nosum⟩ := ⟨_, rfl⟩
  have A1 : ∀ W, Calls Try.prog 19 #[.agg #[.int .i64 v, .string src, .string dst, .int .i64 proto, .int .i64 hops, .int .i64 cls, .int .i64 id, .int .i64 flags, .int .i64 off, .int .i64 label, .string opt, .string ⟨#[]⟩], .agg #[.int .i64 gsrc, .int .i64 gdst, .int .u32 seq, .int .u32 ack, .int .i64 gflags, .int .i64 win, .int .i64 urgent, .string gopt, .string gbody, .bool nosum]] W fun e w' => e = .returned (.tuple #[.string (segS p g), .int .i64 (segE p g)]) ∧ Below W.heap.size W w' := by
    intro W
    have h := seg_any p g W (by rw [hg]; exact hq) (by rw [hg]; exact ha) (by rw [hg]; exact hgo) (by rw [hg]; exact Nat.le_trans hb (by decide))
    unfold Says at h
    rw [hp, hg] at h ⊢
    exact h
  by_cases hE : segE p g = 0
  · have ok : segOk p g = true := by
      unfold segE at hE
      split at hE
      · assumption
      · cases hE
    rw [hE] at A1
    cases nosum
    · have hn : g.nosum = false := by rw [hg]
      have hz := (seg_size ok).2
      have hgb : g.body.size ≤ 500 := by rw [hg]; exact hb
      have pv : p.v = v := by rw [hp]
      have hv : v = 4 ∨ v = 6 := by
        have h1 : canB p = true := by
          simp only [segOk, Bool.and_eq_true] at ok
          exact ok.1
        rcases (canB_iff.1 h1).1 with h | h
        · exact .inl (pv ▸ h.1)
        · exact .inr (pv ▸ h.1)
      obtain ⟨X0, hX0, eX⟩ := low16 vlan
      obtain ⟨X, rfl⟩ := Int.eq_ofNat_of_zero_le hX0.1
      obtain ⟨Y, hm⟩ : ∃ Y : Nat, X % 4095 = Y := ⟨_, rfl⟩
      have hY : Y < 4095 := by omega
      have hX : X < 65536 := by omega
      have hm2 : (X : Int).tmod 4095 = (Y : Int) := by rw [Int.tmod_eq_emod_of_nonneg (by omega)]; omega
      have A2 : ∀ W, Calls Try.prog 20 #[.agg #[.int .i64 v, .string src, .string dst, .int .i64 proto, .int .i64 hops, .int .i64 cls, .int .i64 id, .int .i64 flags, .int .i64 off, .int .i64 label, .string opt, .string (segS p g)]] W fun e w' => e = .returned (.tuple #[.string (ipS (p.with (segS p g))), .int .i64 (ipF (p.with (segS p g)))]) ∧ Below W.heap.size W w' := by
        intro W
        have h := ipB_any (p.with (segS p g)) W (by rw [hp]; exact ho) (by show (segS p g).size ≤ _; omega)
        generalize segS p g = S at *
        rw [hp] at h ⊢
        exact h
      have tz := ip_upto (p.with (segS p g))
      have tz2 : (ipS (p.with (segS p g))).size ≤ 140737488351232 := by
        have e : (p.with (segS p g)).body.size = (segS p g).size := rfl
        omega
      have A3 := fun W => build_any ⟨⟨#[65, 66, 67, 68, 69, 70]⟩, ⟨#[71, 72, 73, 74, 75, 76]⟩, (Y : Int) - 1, 0, typV v, ipS (p.with (segS p g))⟩ W tz2
      have bz := build_upto ⟨⟨#[65, 66, 67, 68, 69, 70]⟩, ⟨#[71, 72, 73, 74, 75, 76]⟩, (Y : Int) - 1, 0, typV v, ipS (p.with (segS p g))⟩
      have hL : ipF (p.with (segS p g)) = 0 → buildE ⟨⟨#[65, 66, 67, 68, 69, 70]⟩, ⟨#[71, 72, 73, 74, 75, 76]⟩, (Y : Int) - 1, 0, typV v, ipS (p.with (segS p g))⟩ = 0 → (offH (buildS ⟨⟨#[65, 66, 67, 68, 69, 70]⟩, ⟨#[71, 72, 73, 74, 75, 76]⟩, (Y : Int) - 1, 0, typV v, ipS (p.with (segS p g))⟩)).flags = 1 ∧ (offH (buildS ⟨⟨#[65, 66, 67, 68, 69, 70]⟩, ⟨#[71, 72, 73, 74, 75, 76]⟩, (Y : Int) - 1, 0, typV v, ipS (p.with (segS p g))⟩)).start = ((buildS ⟨⟨#[65, 66, 67, 68, 69, 70]⟩, ⟨#[71, 72, 73, 74, 75, 76]⟩, (Y : Int) - 1, 0, typV v, ipS (p.with (segS p g))⟩).size : Int) - (segS p g).size := by
        intro hF hB
        have h := whole_left ok hn hF ⟨#[65, 66, 67, 68, 69, 70]⟩ ⟨#[71, 72, 73, 74, 75, 76]⟩ ((Y : Int) - 1) 0 (by rw [pv]; exact hB)
        rw [pv] at h
        exact h
      simp only at A3
      have A4 := fun W => offload_any (buildS ⟨⟨#[65, 66, 67, 68, 69, 70]⟩, ⟨#[71, 72, 73, 74, 75, 76]⟩, (Y : Int) - 1, 0, typV v, ipS (p.with (segS p g))⟩) W (by omega)
      unfold OffIs hdL at A4
      have A5 := fun W => fin_back (buildS ⟨⟨#[65, 66, 67, 68, 69, 70]⟩, ⟨#[71, 72, 73, 74, 75, 76]⟩, (Y : Int) - 1, 0, typV v, ipS (p.with (segS p g))⟩) W (by omega)
      unfold hdL at A5
      generalize segS p g = S at *
      generalize ipF (p.with S) = F1 at *
      generalize ipS (p.with S) = T at *
      have bz := bz
      have sz : S.size ≤ 560 := by omega
      clear hp hg ok hE hn hz hgb tz tz2
      by_cases hF1 : F1 = 0
      · subst hF1
        by_cases hF2 : buildE ⟨⟨#[65, 66, 67, 68, 69, 70]⟩, ⟨#[71, 72, 73, 74, 75, 76]⟩, (Y : Int) - 1, 0, typV v, T⟩ = 0
        · obtain ⟨l1, l2⟩ := hL rfl hF2
          rw [hF2] at A3
          clear hL
          rcases hv with rfl | rfl
          · exact whole_s_good4 _ _ _ _ _ _ _ _ _ _ _ _ _ _ _ _ _ _ _ _ _ _ S T _ _ _ _ _ _ _ _ _ w hl rfl X hX eX Y hY hm2 bz sz l1 l2 A1 A2 A3 A4 A5 (fun W => fixed_any W)
          · exact whole_s_good6 _ _ _ _ _ _ _ _ _ _ _ _ _ _ _ _ _ _ _ _ _ _ S T _ _ _ _ _ _ _ _ _ w hl rfl X hX eX Y hY hm2 bz sz l1 l2 A1 A2 A3 A4 A5 (fun W => fixed_any W)
        · have h2 : (buildE ⟨⟨#[65, 66, 67, 68, 69, 70]⟩, ⟨#[71, 72, 73, 74, 75, 76]⟩, (Y : Int) - 1, 0, typV v, T⟩ != 0) = true := by simpa using hF2
          clear hL A4 A5
          rcases hv with rfl | rfl
          · exact whole_s_bad34 _ _ _ _ _ _ _ _ _ _ _ _ _ _ _ _ _ _ _ _ _ _ S T _ _ w hl rfl X hX eX Y hY hm2 h2 A1 A2 A3 (fun W => fixed_any W)
          · exact whole_s_bad36 _ _ _ _ _ _ _ _ _ _ _ _ _ _ _ _ _ _ _ _ _ _ S T _ _ w hl rfl X hX eX Y hY hm2 h2 A1 A2 A3 (fun W => fixed_any W)
      · have h1 : (F1 != 0) = true := by simpa using hF1
        clear hL A4 A5
        rcases hv with rfl | rfl
        · exact whole_s_bad24 _ _ _ _ _ _ _ _ _ _ _ _ _ _ _ _ _ _ _ _ _ _ S T _ _ _ w hl rfl X hX eX Y hY hm2 h1 A1 A2 A3 (fun W => fixed_any W)
        · exact whole_s_bad26 _ _ _ _ _ _ _ _ _ _ _ _ _ _ _ _ _ _ _ _ _ _ S T _ _ _ w hl rfl X hX eX Y hY hm2 h1 A1 A2 A3 (fun W => fixed_any W)
    · exact whole_s_nosum _ _ _ _ _ _ _ _ _ _ _ _ _ _ _ _ _ _ _ _ _ _ _ w hl A1 (fun W => fixed_any W)
  · exact whole_s_bad1 _ _ _ _ _ _ _ _ _ _ _ _ _ _ _ _ _ _ _ _ _ _ _ _ _ w hl (by simpa using hE) A1 (fun W => fixed_any W)
theorem whole_l (v : Int) (src dst : ByteArray) (proto hops cls id flags off label : Int) (opt body : ByteArray) (gsrc gdst seq ack gflags win urgent : Int) (gopt gbody : ByteArray) (nosum : Bool) (vlan : Int) (w : World) (hl : 500 < gbody.size) (ho : opt.size ≤ 140737488351232) (hq : 0 ≤ seq ∧ seq < 4294967296) (ha : 0 ≤ ack ∧ ack < 4294967296) (hgo : gopt.size ≤ 140737488351232) :
    Calls Try.prog 6 #[.agg #[.int .i64 v, .string src, .string dst, .int .i64 proto, .int .i64 hops, .int .i64 cls, .int .i64 id, .int .i64 flags, .int .i64 off, .int .i64 label, .string opt, .string body], .agg #[.int .i64 gsrc, .int .i64 gdst, .int .u32 seq, .int .u32 ack, .int .i64 gflags, .int .i64 win, .int .i64 urgent, .string gopt, .string gbody, .bool nosum], .int .i64 vlan] w fun e w' => e = .returned (.bool true) ∧ Below w.heap.size w w' := by
  have hb : ((gbody.extract 0 500)).size ≤ 500 := by rw [ByteArray.size_extract]; omega
  obtain ⟨p, hp⟩ : ∃ p : Pk, p = ⟨v, src, dst, proto, hops, cls, id, flags, off, label, opt, ⟨#[]⟩⟩ := ⟨_, rfl⟩
  obtain ⟨g, hg⟩ : ∃ g : Sg, g = ⟨gsrc, gdst, seq, ack, gflags, win, urgent, gopt, (gbody.extract 0 500), nosum⟩ := ⟨_, rfl⟩
  have A1 : ∀ W, Calls Try.prog 19 #[.agg #[.int .i64 v, .string src, .string dst, .int .i64 proto, .int .i64 hops, .int .i64 cls, .int .i64 id, .int .i64 flags, .int .i64 off, .int .i64 label, .string opt, .string ⟨#[]⟩], .agg #[.int .i64 gsrc, .int .i64 gdst, .int .u32 seq, .int .u32 ack, .int .i64 gflags, .int .i64 win, .int .i64 urgent, .string gopt, .string (gbody.extract 0 500), .bool nosum]] W fun e w' => e = .returned (.tuple #[.string (segS p g), .int .i64 (segE p g)]) ∧ Below W.heap.size W w' := by
    intro W
    have h := seg_any p g W (by rw [hg]; exact hq) (by rw [hg]; exact ha) (by rw [hg]; exact hgo) (by rw [hg]; exact Nat.le_trans hb (by decide))
    unfold Says at h
    rw [hp, hg] at h ⊢
    exact h
  by_cases hE : segE p g = 0
  · have ok : segOk p g = true := by
      unfold segE at hE
      split at hE
      · assumption
      · cases hE
    rw [hE] at A1
    cases nosum
    · have hn : g.nosum = false := by rw [hg]
      have hz := (seg_size ok).2
      have hgb : g.body.size ≤ 500 := by rw [hg]; exact hb
      have pv : p.v = v := by rw [hp]
      have hv : v = 4 ∨ v = 6 := by
        have h1 : canB p = true := by
          simp only [segOk, Bool.and_eq_true] at ok
          exact ok.1
        rcases (canB_iff.1 h1).1 with h | h
        · exact .inl (pv ▸ h.1)
        · exact .inr (pv ▸ h.1)
      obtain ⟨X0, hX0, eX⟩ := low16 vlan
      obtain ⟨X, rfl⟩ := Int.eq_ofNat_of_zero_le hX0.1
      obtain ⟨Y, hm⟩ : ∃ Y : Nat, X % 4095 = Y := ⟨_, rfl⟩
      have hY : Y < 4095 := by omega
      have hX : X < 65536 := by omega
      have hm2 : (X : Int).tmod 4095 = (Y : Int) := by rw [Int.tmod_eq_emod_of_nonneg (by omega)]; omega
      have A2 : ∀ W, Calls Try.prog 20 #[.agg #[.int .i64 v, .string src, .string dst, .int .i64 proto, .int .i64 hops, .int .i64 cls, .int .i64 id, .int .i64 flags, .int .i64 off, .int .i64 label, .string opt, .string (segS p g)]] W fun e w' => e = .returned (.tuple #[.string (ipS (p.with (segS p g))), .int .i64 (ipF (p.with (segS p g)))]) ∧ Below W.heap.size W w' := by
        intro W
        have h := ipB_any (p.with (segS p g)) W (by rw [hp]; exact ho) (by show (segS p g).size ≤ _; omega)
        generalize segS p g = S at *
        rw [hp] at h ⊢
        exact h
      have tz := ip_upto (p.with (segS p g))
      have tz2 : (ipS (p.with (segS p g))).size ≤ 140737488351232 := by
        have e : (p.with (segS p g)).body.size = (segS p g).size := rfl
        omega
      have A3 := fun W => build_any ⟨⟨#[65, 66, 67, 68, 69, 70]⟩, ⟨#[71, 72, 73, 74, 75, 76]⟩, (Y : Int) - 1, 0, typV v, ipS (p.with (segS p g))⟩ W tz2
      have bz := build_upto ⟨⟨#[65, 66, 67, 68, 69, 70]⟩, ⟨#[71, 72, 73, 74, 75, 76]⟩, (Y : Int) - 1, 0, typV v, ipS (p.with (segS p g))⟩
      have hL : ipF (p.with (segS p g)) = 0 → buildE ⟨⟨#[65, 66, 67, 68, 69, 70]⟩, ⟨#[71, 72, 73, 74, 75, 76]⟩, (Y : Int) - 1, 0, typV v, ipS (p.with (segS p g))⟩ = 0 → (offH (buildS ⟨⟨#[65, 66, 67, 68, 69, 70]⟩, ⟨#[71, 72, 73, 74, 75, 76]⟩, (Y : Int) - 1, 0, typV v, ipS (p.with (segS p g))⟩)).flags = 1 ∧ (offH (buildS ⟨⟨#[65, 66, 67, 68, 69, 70]⟩, ⟨#[71, 72, 73, 74, 75, 76]⟩, (Y : Int) - 1, 0, typV v, ipS (p.with (segS p g))⟩)).start = ((buildS ⟨⟨#[65, 66, 67, 68, 69, 70]⟩, ⟨#[71, 72, 73, 74, 75, 76]⟩, (Y : Int) - 1, 0, typV v, ipS (p.with (segS p g))⟩).size : Int) - (segS p g).size := by
        intro hF hB
        have h := whole_left ok hn hF ⟨#[65, 66, 67, 68, 69, 70]⟩ ⟨#[71, 72, 73, 74, 75, 76]⟩ ((Y : Int) - 1) 0 (by rw [pv]; exact hB)
        rw [pv] at h
        exact h
      simp only at A3
      have A4 := fun W => offload_any (buildS ⟨⟨#[65, 66, 67, 68, 69, 70]⟩, ⟨#[71, 72, 73, 74, 75, 76]⟩, (Y : Int) - 1, 0, typV v, ipS (p.with (segS p g))⟩) W (by omega)
      unfold OffIs hdL at A4
      have A5 := fun W => fin_back (buildS ⟨⟨#[65, 66, 67, 68, 69, 70]⟩, ⟨#[71, 72, 73, 74, 75, 76]⟩, (Y : Int) - 1, 0, typV v, ipS (p.with (segS p g))⟩) W (by omega)
      unfold hdL at A5
      generalize segS p g = S at *
      generalize ipF (p.with S) = F1 at *
      generalize ipS (p.with S) = T at *
      have bz := bz
      have sz : S.size ≤ 560 := by omega
      clear hp hg ok hE hn hz hgb tz tz2
      by_cases hF1 : F1 = 0
      · subst hF1
        by_cases hF2 : buildE ⟨⟨#[65, 66, 67, 68, 69, 70]⟩, ⟨#[71, 72, 73, 74, 75, 76]⟩, (Y : Int) - 1, 0, typV v, T⟩ = 0
        · obtain ⟨l1, l2⟩ := hL rfl hF2
          rw [hF2] at A3
          clear hL
          rcases hv with rfl | rfl
          · exact whole_l_good4 _ _ _ _ _ _ _ _ _ _ _ _ _ _ _ _ _ _ _ _ _ _ S T _ _ _ _ _ _ _ _ _ w hl rfl X hX eX Y hY hm2 bz sz l1 l2 A1 A2 A3 A4 A5 (fun W => fixed_any W)
          · exact whole_l_good6 _ _ _ _ _ _ _ _ _ _ _ _ _ _ _ _ _ _ _ _ _ _ S T _ _ _ _ _ _ _ _ _ w hl rfl X hX eX Y hY hm2 bz sz l1 l2 A1 A2 A3 A4 A5 (fun W => fixed_any W)
        · have h2 : (buildE ⟨⟨#[65, 66, 67, 68, 69, 70]⟩, ⟨#[71, 72, 73, 74, 75, 76]⟩, (Y : Int) - 1, 0, typV v, T⟩ != 0) = true := by simpa using hF2
          clear hL A4 A5
          rcases hv with rfl | rfl
          · exact whole_l_bad34 _ _ _ _ _ _ _ _ _ _ _ _ _ _ _ _ _ _ _ _ _ _ S T _ _ w hl rfl X hX eX Y hY hm2 h2 A1 A2 A3 (fun W => fixed_any W)
          · exact whole_l_bad36 _ _ _ _ _ _ _ _ _ _ _ _ _ _ _ _ _ _ _ _ _ _ S T _ _ w hl rfl X hX eX Y hY hm2 h2 A1 A2 A3 (fun W => fixed_any W)
      · have h1 : (F1 != 0) = true := by simpa using hF1
        clear hL A4 A5
        rcases hv with rfl | rfl
        · exact whole_l_bad24 _ _ _ _ _ _ _ _ _ _ _ _ _ _ _ _ _ _ _ _ _ _ S T _ _ _ w hl rfl X hX eX Y hY hm2 h1 A1 A2 A3 (fun W => fixed_any W)
        · exact whole_l_bad26 _ _ _ _ _ _ _ _ _ _ _ _ _ _ _ _ _ _ _ _ _ _ S T _ _ _ w hl rfl X hX eX Y hY hm2 h1 A1 A2 A3 (fun W => fixed_any W)
    · exact whole_l_nosum _ _ _ _ _ _ _ _ _ _ _ _ _ _ _ _ _ _ _ _ _ _ _ w hl A1 (fun W => fixed_any W)
  · exact whole_l_bad1 _ _ _ _ _ _ _ _ _ _ _ _ _ _ _ _ _ _ _ _ _ _ _ _ _ w hl (by simpa using hE) A1 (fun W => fixed_any W)
theorem hdrWhole_any (p : Pk) (g : Sg) (vlan : Int) (w : World) (ho : p.opt.size ≤ 140737488351232) (hq : 0 ≤ g.seq ∧ g.seq < 4294967296) (ha : 0 ≤ g.ack ∧ g.ack < 4294967296) (hgo : g.opt.size ≤ 140737488351232) :
    Calls Try.prog 6 #[.agg #[.int .i64 p.v, .string p.src, .string p.dst, .int .i64 p.proto, .int .i64 p.hops, .int .i64 p.cls, .int .i64 p.id, .int .i64 p.flags, .int .i64 p.off, .int .i64 p.label, .string p.opt, .string p.body], .agg #[.int .i64 g.src, .int .i64 g.dst, .int .u32 g.seq, .int .u32 g.ack, .int .i64 g.flags, .int .i64 g.win, .int .i64 g.urgent, .string g.opt, .string g.body, .bool g.nosum], .int .i64 vlan] w fun e w' => e = .returned (.bool true) ∧ Below w.heap.size w w' := by
  by_cases hl : g.body.size ≤ 500
  · exact whole_s _ _ _ _ _ _ _ _ _ _ _ p.body _ _ _ _ _ _ _ _ _ _ vlan w hl ho hq ha hgo
  · exact whole_l _ _ _ _ _ _ _ _ _ _ _ p.body _ _ _ _ _ _ _ _ g.body _ vlan w (by omega) ho hq ha hgo

set_option maxRecDepth 100000 in
theorem hdrWhole_lifted (os : Os) (started : os.Started) (H : Type) (enc : TypeId × Value → H) :
    ReturnsInHanded {} Try.checked os 6 .any (Rows.hdrWholeSpec.pre6 enc Try.prog Try.f6 Rows.hdrWholeRow.domain false) (Rows.hdrWholeSpec.post enc Try.prog Try.f6 false true false false) := by
  have e : Try.f6.params.toList = [36, 39, 3] := by rw [Try.params6]
  refine law_of_walk (C := Try.checked) (tb := 4) H enc Try.own started (by kernel_rfl) Try.func6 Try.laidOut rfl rfl Try.underlying4 ?_ ?_
    (ChangeSpec.witness6 (enc := enc) (C := Try.checked) false ⟨#[], #[.agg #[.int .i64 0, .string ⟨#[]⟩, .string ⟨#[]⟩, .int .i64 0, .int .i64 0, .int .i64 0, .int .i64 0, .int .i64 0, .int .i64 0, .int .i64 0, .string ⟨#[]⟩, .string ⟨#[]⟩], .agg #[.int .i64 0, .int .i64 0, .int .u32 0, .int .u32 0, .int .i64 0, .int .i64 0, .int .i64 0, .string ⟨#[]⟩, .string ⟨#[]⟩, .bool false], .int .i64 0], []⟩ 8 (by kernel_rfl) (by kernel_rfl) (by kernel_rfl) (by kernel_rfl)) ?_
  · rw [e]
    intro t ht
    simp only [List.mem_cons, List.not_mem_nil, or_false] at ht
    rcases ht with rfl | rfl | rfl <;> exact ⟨by kernel_rfl, of_decide_eq_true (by kernel_rfl)⟩
  · intro ds hds
    rw [e] at hds
    match ds, hds with
    | [d0, d1, d2], _ => rfl
  · intro W base args ds p hval0 hA0 hsz0
    have hval : ∀ (j : Nat) t v, Try.f6.params[j]? = some t → args[j]? = some v → Value.okWide Try.prog W .any base t v := hval0
    have hA : DataW.TrodAll enc Try.prog W 0 (fun _ => true) true Try.f6.params.toList args.toList ds p := hA0
    have hsz : (DataW.weightsEach Try.prog Try.f6.params.toList ds).all (· ≤ reachBytes) = true := hsz0
    rw [Try.params6] at hA hval hsz
    obtain ⟨v0, v1, v2, d0, d1, d2, p0, p1, p2, rfl, rfl, rfl, h0, h1, h2⟩ := trodAll_three hA
    obtain ⟨x0, rfl, rfl, _⟩ := open_ip (hval 0 36 v0 rfl rfl) h0
    obtain ⟨x1, rfl, rfl, q1, a1, _⟩ := open_seg (hval 1 39 v1 rfl rfl) h1
    obtain ⟨x2, rfl, rfl, rfl, _⟩ := open_int Try.underlying3 (hval 2 3 v2 rfl rfl) h2
    have so := ip_opt_sized hsz (j := 0) (f := x0) rfl rfl
    have sg := seg_opt_sized hsz (j := 1) (f := x1) rfl rfl
    exact hdrWhole_any x0 x1 x2 W so ⟨q1.1, by omega⟩ ⟨a1.1, by omega⟩ sg

theorem hdrWhole_holds : Rows.HdrWholeSaid :=
  OpenClaim.holds_of_wide 6 Try.f6 rfl rfl rfl rfl rfl rfl rfl ⟨rfl, rfl, rfl, rfl, rfl⟩ rfl rfl rfl rfl rfl (by kernel_rfl) Try.func6 (by kernel_rfl)
    (of_decide_eq_true (by kernel_rfl)) (by unfold Func.isWrapper; first | (rw [if_pos (by decide +kernel)]; kernel_rfl) | (rw [if_neg (by decide +kernel)]; exact ⟨rfl, rfl⟩))
    (fun os started H enc _ => hdrWhole_lifted os started H enc)
end Go.Proofs.Ytalkpllmcigjnaa
