/-
  A frame around a right segment is left with its sum.
-/
import Derived.Test.YtalkpllmcigjnaaMu
import Derived.Test.YtalkpllmcigjnaaMn
namespace Go.Proofs.Ytalkpllmcigjnaa

theorem segSum_pos (s : ByteArray) : segSum s ≠ 0 := by
  unfold segSum
  split
  · decide
  · assumption
/-- A packet with another body. -/
def Pk.with (p : Pk) (s : ByteArray) : Pk := ⟨p.v, p.src, p.dst, p.proto, p.hops, p.cls, p.id, p.flags, p.off, p.label, p.opt, s⟩
theorem lst_cutS (X : ByteArray) (a : Nat) (V : Int) (n : Nat) (A M Y : List UInt8) (h : lst X = A ++ (M ++ Y)) (ha : A.length + M.length ≤ a) (hm : A.length = n) (_ : a ≤ X.size) :
    ∃ Z, lst (withS X a V) = A ++ (M ++ Z) ∧ A.length = n := by
  refine ⟨Y.take (a - (A.length + M.length)) ++ (lst (bs V 2) ++ (lst X).drop (a + 2)), ?_, hm⟩
  rw [lst_withS]
  have e : (lst X).take a = A ++ (M ++ Y.take (a - (A.length + M.length))) := by
    rw [h, ← List.append_assoc, ← List.append_assoc, List.take_append, List.take_of_length_le (by rw [List.length_append]; omega), List.length_append]
  rw [e]
  simp only [List.append_assoc]
theorem seg_accept {p : Pk} {g : Sg} (h : segOk p g = true) (hn : g.nosum = false) :
    segPE (p.with (segS p g)) = 0 ∧ (segPG (p.with (segS p g))).nosum = false ∧ (segS p g).size = (blankS p g).size := by
  have h0 := h
  simp only [segOk, Bool.and_eq_true] at h
  obtain ⟨hc, hpo, hk⟩ := h
  have hz := kind_size hk
  have hS : segS p g = withS (blankS p g) (atV p.proto) (segSum (pseudoB p (blankS p g).size ++ withS (blankS p g) (atV p.proto) 0)) := by
    rw [segS, if_pos h0, if_neg (by rw [hn]; decide)]
  obtain ⟨X, hX⟩ : ∃ X, blankS p g = X := ⟨_, rfl⟩
  obtain ⟨V, hV⟩ : ∃ V, segSum (pseudoB p X.size ++ withS X (atV p.proto) 0) = V := ⟨_, rfl⟩
  have hVr : 0 ≤ V ∧ V ≤ 65535 := by rw [← hV]; exact segSum_range _
  have hV0 : V ≠ 0 := by rw [← hV]; exact segSum_pos _
  rw [hX] at hS hz ⊢
  rw [hV] at hS
  rw [hS]
  have hB := withS_size X (atV p.proto) V hz.2
  have hcq : canB (p.with (withS X (atV p.proto) V)) = true := hc
  have hsum : sumdS (p.with (withS X (atV p.proto) V)) (withS X (atV p.proto) V) = withS X (atV p.proto) V := by
    show withS (withS X (atV p.proto) V) (atV p.proto) (segSum (pseudoB p (withS X (atV p.proto) V).size ++ withS (withS X (atV p.proto) V) (atV p.proto) 0)) = _
    rw [hB, withS_withS X _ V 0 hz.2, hV, withS_withS X _ V V hz.2]
  have hnat : (nat (withS X (atV p.proto) V) (atV p.proto) 2 : Int) = V := (withS_iff _ _ V (by rw [hB]; exact hz.2) hVr.1 hVr.2).1 (withS_withS X _ V V hz.2)
  by_cases h6 : p.proto = 6
  · have hq6 : (p.with (withS X (atV p.proto) V)).proto = 6 := h6
    have ht : tcpB g.flags g.win g.urgent g.opt g.body g.nosum = true := by rw [kindOk, if_pos h6] at hk; exact hk
    simp only [tcpB, Bool.and_eq_true, decide_eq_true_eq] at ht
    have hsz := blank_tcp_size (g := g) h6
    rw [hX] at hsz
    have eX : lst X = (lst (bs g.src 2) ++ lst (bs g.dst 2) ++ lst (bs g.seq 4) ++ lst (bs g.ack 4)) ++ (lst (bs ((20 + (g.opt.size : Int)) / 4 * 16) 1) ++ (lst (bs g.flags 1) ++ (lst (bs g.win 2) ++ (lst (bs 0 2) ++ (lst (bs g.urgent 2) ++ (lst g.opt ++ lst g.body)))))) := by
      rw [← hX, blankS, if_pos h6, restB]
      simp only [lst_app, List.append_assoc]
    have hat : atV p.proto = 16 := by rw [atV, if_pos h6]
    obtain ⟨Z, e1, e2⟩ := lst_cutS X (atV p.proto) V 12 _ _ _ eX (by simp only [List.length_append, bs_len]; omega) (by simp only [List.length_append, bs_len]) (by omega)
    have hu := num_at _ e1 e2 (by omega) (by
      show _ < (256 : Int) ^ 1
      omega)
    have hE : tcpE (p.with (withS X (atV p.proto) V)) = 0 := by
      unfold tcpE
      show (if (withS X (atV p.proto) V).size < 20 ∨ (withS X (atV p.proto) V).size < tcpN (withS X (atV p.proto) V) then (80 : Int) else if tcpN (withS X (atV p.proto) V) < 20 ∨ nat (withS X (atV p.proto) V) 12 1 % 16 ≠ 0 then 81 else if sumdS (p.with (withS X (atV p.proto) V)) (withS X (atV p.proto) V) = withS X (atV p.proto) V then 0 else 82) = 0
      unfold tcpN
      rw [if_neg (by omega), if_neg (by omega), if_pos hsum]
    have hP : segPE (p.with (withS X (atV p.proto) V)) = 0 := by rw [segPE, if_pos hcq, if_pos hq6, hE]
    exact ⟨hP, by rw [segPG, if_pos hP, if_pos hq6]; rfl, hB⟩
  · have hq6 : ¬ (p.with (withS X (atV p.proto) V)).proto = 6 := h6
    have hsz := blank_udp_size (g := g) h6
    rw [hX] at hsz
    have eX : lst X = (lst (bs g.src 2) ++ lst (bs g.dst 2)) ++ (lst (bs (8 + g.body.size) 2) ++ (lst (bs 0 2) ++ lst g.body)) := by
      rw [← hX, blankS, if_neg h6]
      simp only [lst_app, List.append_assoc]
    have hat : atV p.proto = 6 := by rw [atV, if_neg h6]
    obtain ⟨Z, e1, e2⟩ := lst_cutS X (atV p.proto) V 4 _ _ _ eX (by simp only [List.length_append, bs_len]; omega) (by simp only [List.length_append, bs_len]) (by omega)
    have hu := num_at _ e1 e2 (by omega) (by
      show _ < (256 : Int) ^ 2
      omega)
    have hno : noS (p.with (withS X (atV p.proto) V)) = false := by
      unfold noS
      have : (nat (withS X (atV p.proto) V) 6 2 == 0) = false := by
        rw [hat] at hnat ⊢
        have : nat (withS X 6 V) 6 2 ≠ 0 := by omega
        simpa using this
      show (p.v == 4 && (nat (withS X (atV p.proto) V) 6 2 == 0)) = false
      rw [this, Bool.and_false]
    have hE : udpE (p.with (withS X (atV p.proto) V)) = 0 := by
      unfold udpE
      show (if (withS X (atV p.proto) V).size < 8 then (80 : Int) else if nat (withS X (atV p.proto) V) 4 2 ≠ (withS X (atV p.proto) V).size then 81 else if noS (p.with (withS X (atV p.proto) V)) = true ∨ sumdS (p.with (withS X (atV p.proto) V)) (withS X (atV p.proto) V) = withS X (atV p.proto) V then 0 else 82) = 0
      rw [if_neg (by omega), if_neg (by omega), if_pos (.inr hsum)]
    have hP : segPE (p.with (withS X (atV p.proto) V)) = 0 := by rw [segPE, if_pos hcq, if_neg hq6, hE]
    exact ⟨hP, by rw [segPG, if_pos hP, if_neg hq6]; exact hno, hB⟩
theorem typ_ver {v : Int} (h : v = 4 ∨ v = 6) : verV (typV v) = v := by
  rcases h with rfl | rfl <;> rfl
/-- What is left of a frame around a right segment. -/
theorem whole_left {p : Pk} {g : Sg} (h : segOk p g = true) (hn : g.nosum = false) (hp : ipF (p.with (segS p g)) = 0) (d r : ByteArray) (vl pr : Int) (hb : buildE ⟨d, r, vl, pr, typV p.v, ipS (p.with (segS p g))⟩ = 0) :
    (offH (buildS ⟨d, r, vl, pr, typV p.v, ipS (p.with (segS p g))⟩)).flags = 1 ∧ (offH (buildS ⟨d, r, vl, pr, typV p.v, ipS (p.with (segS p g))⟩)).start = ((buildS ⟨d, r, vl, pr, typV p.v, ipS (p.with (segS p g))⟩).size : Int) - (segS p g).size := by
  obtain ⟨b1, b2, _⟩ := parse_build hb
  obtain ⟨i1, i2⟩ := ip_back hp
  obtain ⟨s1, s2, _⟩ := seg_accept h hn
  generalize buildS ⟨d, r, vl, pr, typV p.v, ipS (p.with (segS p g))⟩ = F at *
  have e2 : (parseF F).b = ipS (p.with (segS p g)) := by rw [b2]
  have e3 : (parseF F).t = typV p.v := by rw [b2]
  have ok1 : pkOk F := by
    refine ⟨b1, by rw [e2]; exact i1, ?_⟩
    rw [e2, e3, i2]
    have hv : (p.with (segS p g)).v = 4 ∨ (p.with (segS p g)).v = 6 := ip_v hp
    exact (typ_ver hv).symm
  have hk : pkIn F = p.with (segS p g) := by rw [pkIn, if_pos ok1, e2, i2]
  have ok : offOk F := ⟨ok1, by rw [hk]; exact sumB_iff.2 ⟨s1, s2⟩⟩
  rw [offH, if_pos ok, hk]
  exact ⟨rfl, rfl⟩
end Go.Proofs.Ytalkpllmcigjnaa
