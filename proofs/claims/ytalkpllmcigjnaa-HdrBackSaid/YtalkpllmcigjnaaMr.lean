/-
  The document's Parse of segments, in one.
-/
import Derived.Test.YtalkpllmcigjnaaMo
import Derived.Test.YtalkpllmcigjnaaMp
import Derived.Test.YtalkpllmcigjnaaMq
import Derived.Test.YtalkpllmcigjnaaMn
namespace Go.Proofs.Ytalkpllmcigjnaa
open Go.RowKit

theorem withS_iff (s : ByteArray) (a : Nat) (V : Int) (h : a + 2 ≤ s.size) (h0 : 0 ≤ V) (h1 : V ≤ 65535) : withS s a V = s ↔ (nat s a 2 : Int) = V := by
  have e1 := lst_withS s a V
  have e2 : lst s = (lst s).take a ++ (((lst s).drop a).take 2 ++ (lst s).drop (a + 2)) := by
    have k := List.take_append_drop 2 ((lst s).drop a)
    rw [List.drop_drop] at k
    rw [k, List.take_append_drop]
  have hb := bs_nat s a 2 h
  constructor
  · intro e
    rw [e] at e1
    have e3 := e1.symm.trans e2
    have e4 := List.append_cancel_left e3
    have e5 : lst (bs V 2) = ((lst s).drop a).take 2 := List.append_cancel_right e4
    rw [nat_lst, ← e5]
    exact dec_bs V 2 h0 (by omega)
  · intro e
    apply lst_inj
    rw [e1, ← e, hb]
    exact e2.symm
theorem rsum_any (p : Pk) (W : World) (hc : canB p = true) (h : atV p.proto + 2 ≤ p.body.size) (hb : p.body.size ≤ 65535) :
    Calls Try.prog 79 #[.agg #[.int .i64 p.v, .string p.src, .string p.dst, .int .i64 p.proto, .int .i64 p.hops, .int .i64 p.cls, .int .i64 p.id, .int .i64 p.flags, .int .i64 p.off, .int .i64 p.label, .string p.opt, .string p.body], .string p.body] W fun e w' => e = .returned (.int .u16 (segSum (pseudoB p p.body.size ++ withS p.body (atV p.proto) 0))) ∧ Below W.heap.size W w' := by
  obtain ⟨h1, h2, _, _⟩ := canB_iff.1 hc
  have hp : 0 ≤ p.proto ∧ p.proto ≤ 255 := by omega
  obtain ⟨v, src, dst, proto, hops, cls, id, flags, off, label, opt, body⟩ := p
  simp only at *
  rcases h1 with ⟨rfl, h3, h4⟩ | ⟨rfl, h3, h4⟩
  · refine rsum_walk 4 src dst proto hops cls id flags off label opt body body (src ++ dst ++ bs 0 1 ++ bs proto 1 ++ bs body.size 2) W hb ?_ h fun W' => rpseudo_4 src dst proto hops cls id flags off label opt body body.size W' h3 h4 hp (by omega)
    simp only [ByteArray.size_append, bs_size]; omega
  · refine rsum_walk 6 src dst proto hops cls id flags off label opt body body (src ++ dst ++ bs body.size 4 ++ bs 0 3 ++ bs proto 1) W hb ?_ h fun W' => rpseudo_6 src dst proto hops cls id flags off label opt body body.size W' h3 h4 hp (by omega)
    simp only [ByteArray.size_append, bs_size]; omega
theorem sumd_is (p : Pk) (h : atV p.proto + 2 ≤ p.body.size) : sumdS p p.body = p.body ↔ (((nat p.body (atV p.proto) 2 : Int) != segSum (pseudoB p p.body.size ++ withS p.body (atV p.proto) 0)) = false) := by
  have hV := segSum_range (pseudoB p p.body.size ++ withS p.body (atV p.proto) 0)
  rw [sumdS, withS_iff _ _ _ h hV.1 hV.2]
  simp
theorem refS_tcp (p : Pk) (w : World) (hc : canB p = true) (h6 : p.proto = 6) (hb : p.body.size ≤ 65535) :
    Calls Try.prog 36 #[.agg #[.int .i64 p.v, .string p.src, .string p.dst, .int .i64 p.proto, .int .i64 p.hops, .int .i64 p.cls, .int .i64 p.id, .int .i64 p.flags, .int .i64 p.off, .int .i64 p.label, .string p.opt, .string p.body]] w (SaysG w (sgL (if tcpE p = 0 then tcpG p.body else .zero)) (tcpE p)) := by
  have A := fun W => carries_any p W
  rw [hc] at A
  have hp : (p.proto == 17) = false := by rw [h6]; rfl
  by_cases h1 : p.body.size < 20
  · have e : tcpE p = 80 := by rw [tcpE, if_pos (.inl h1)]
    rw [e, if_neg (by decide)]
    exact rps_tcp_few _ _ _ _ _ _ _ _ _ _ _ _ w hp h1 A
  · have ha : atV p.proto + 2 ≤ p.body.size := by rw [h6]; show 16 + 2 ≤ _; omega
    have A38 := fun W => rAt_any p.v p.src p.dst p.proto p.hops p.cls p.id p.flags p.off p.label p.opt p.body W
    have A78 := fun W => num8_any p.body (atV p.proto) 2 W (by unfold maxLen; omega) (by omega) (by omega) ha
    have A79 := fun W => rsum_any p W hc ha hb
    have hV := segSum_range (pseudoB p p.body.size ++ withS p.body (atV p.proto) 0)
    by_cases h2 : p.body.size < tcpN p.body
    · have e : tcpE p = 80 := by rw [tcpE, if_pos (.inr h2)]
      rw [e, if_neg (by decide)]
      exact rps_tcp_less _ _ _ _ _ _ _ _ _ _ _ _ w hp _ _ _ _ rfl rfl rfl rfl (by omega) h2 A
    · have h12 : ¬ (p.body.size < 20 ∨ p.body.size < tcpN p.body) := by omega
      by_cases h3 : tcpN p.body < 20
      · have e : tcpE p = 81 := by rw [tcpE, if_neg h12, if_pos (.inl h3)]
        rw [e, if_neg (by decide)]
        exact rps_tcp_form1 _ _ _ _ _ _ _ _ _ _ _ _ w hp _ _ _ _ rfl rfl rfl rfl (by omega) (by unfold tcpN at h2; omega) h3 A
      · by_cases h4 : nat p.body 12 1 % 16 = 0
        · have h34 : ¬ (tcpN p.body < 20 ∨ nat p.body 12 1 % 16 ≠ 0) := by omega
          have k2 : tcpN p.body ≤ p.body.size := by omega
          have k3 : 20 ≤ tcpN p.body := by omega
          by_cases h5 : sumdS p p.body = p.body
          · have e : tcpE p = 0 := by rw [tcpE, if_neg h12, if_neg h34, if_pos h5]
            rw [e, if_pos rfl]
            exact rps_tcp_good _ _ _ _ _ _ _ _ _ _ _ _ w hp _ _ _ _ rfl rfl rfl rfl (by omega) hb k2 k3 h4 _ _ _ _ _ _ _ rfl rfl rfl rfl rfl rfl rfl _ _ _ hV ((sumd_is p ha).1 h5) A38 A78 A79 A
          · have e : tcpE p = 82 := by rw [tcpE, if_neg h12, if_neg h34, if_neg h5]
            rw [e, if_neg (by decide)]
            exact rps_tcp_sum _ _ _ _ _ _ _ _ _ _ _ _ w hp _ _ _ _ rfl rfl rfl rfl (by omega) hb k2 k3 h4 _ _ _ _ _ _ _ rfl rfl rfl rfl rfl rfl rfl _ _ _ hV (by
              cases hx : ((nat p.body (atV p.proto) 2 : Int) != segSum (pseudoB p p.body.size ++ withS p.body (atV p.proto) 0))
              · exact absurd ((sumd_is p ha).2 hx) h5
              · rfl) A38 A78 A79 A
        · have e : tcpE p = 81 := by rw [tcpE, if_neg h12, if_pos (.inr h4)]
          rw [e, if_neg (by decide)]
          exact rps_tcp_form2 _ _ _ _ _ _ _ _ _ _ _ _ w hp _ _ _ _ rfl rfl rfl rfl (by omega) (by unfold tcpN at h2; omega) (by unfold tcpN at h3; omega) h4 A
theorem refS_udp (p : Pk) (w : World) (hc : canB p = true) (h17 : p.proto = 17) (hb : p.body.size ≤ 65535) :
    Calls Try.prog 36 #[.agg #[.int .i64 p.v, .string p.src, .string p.dst, .int .i64 p.proto, .int .i64 p.hops, .int .i64 p.cls, .int .i64 p.id, .int .i64 p.flags, .int .i64 p.off, .int .i64 p.label, .string p.opt, .string p.body]] w (SaysG w (sgL (if udpE p = 0 then udpG p else .zero)) (udpE p)) := by
  have A := fun W => carries_any p W
  rw [hc] at A
  have hp : (p.proto == 17) = true := by rw [h17]; rfl
  by_cases h1 : p.body.size < 8
  · have e : udpE p = 80 := by rw [udpE, if_pos h1]
    rw [e, if_neg (by decide)]
    exact rps_udp_few _ _ _ _ _ _ _ _ _ _ _ _ w hp h1 A
  · have ha : atV p.proto + 2 ≤ p.body.size := by rw [h17]; show 6 + 2 ≤ _; omega
    have A38 := fun W => rAt_any p.v p.src p.dst p.proto p.hops p.cls p.id p.flags p.off p.label p.opt p.body W
    have A78 := fun W => num8_any p.body (atV p.proto) 2 W (by unfold maxLen; omega) (by omega) (by omega) ha
    have A79 := fun W => rsum_any p W hc ha hb
    have hV := segSum_range (pseudoB p p.body.size ++ withS p.body (atV p.proto) 0)
    by_cases h2 : nat p.body 4 2 = p.body.size
    · have h2' : ¬ nat p.body 4 2 ≠ p.body.size := by omega
      have hX : ∀ k : Bool, (sumdS p p.body = p.body ↔ k = false) → ((nat p.body (atV p.proto) 2 : Int) != segSum (pseudoB p p.body.size ++ withS p.body (atV p.proto) 0)) = k := by
        intro k hk
        have := sumd_is p ha
        cases k
        · exact this.1 (hk.2 rfl)
        · cases hx : ((nat p.body (atV p.proto) 2 : Int) != segSum (pseudoB p p.body.size ++ withS p.body (atV p.proto) 0))
          · exact absurd (hk.1 (this.2 hx)) (by decide)
          · rfl
      by_cases hv : p.v = 4
      · by_cases hn : nat p.body 6 2 = 0
        · have hN : noS p = true := by rw [noS, hv, hn]; rfl
          have e : udpE p = 0 := by rw [udpE, if_neg h1, if_neg h2', if_pos (.inl hN)]
          rw [e, if_pos rfl, udpG, hN]
          rw [hv] at A ⊢
          exact rps_udp_nosum _ _ _ _ _ _ _ _ _ _ _ w hp _ _ _ rfl rfl rfl (by omega) hb h2 hn A
        · have hN : noS p = false := by
            rw [noS]; have : (nat p.body 6 2 == 0) = false := by simpa using hn
            rw [this, Bool.and_false]
          by_cases h5 : sumdS p p.body = p.body
          · have e : udpE p = 0 := by rw [udpE, if_neg h1, if_neg h2', if_pos (.inr h5)]
            have hx := hX false ⟨fun _ => rfl, fun _ => h5⟩
            rw [e, if_pos rfl, udpG, hN]
            rw [hv] at A A38 A79 ⊢
            exact rps_udp_good_4 _ _ _ _ _ _ _ _ _ _ _ w hp _ _ _ rfl rfl rfl (by omega) hb h2 _ _ _ hV hx A38 A78 A79 hn A
          · have e : udpE p = 82 := by rw [udpE, if_neg h1, if_neg h2', if_neg (by rw [hN]; simpa using h5)]
            have hx := hX true ⟨fun k => absurd k h5, fun k => by cases k⟩
            rw [e, if_neg (by decide)]
            rw [hv] at A A38 A79 ⊢
            exact rps_udp_sum_4 _ _ _ _ _ _ _ _ _ _ _ w hp _ _ _ rfl rfl rfl (by omega) hb h2 _ _ _ hV hx A38 A78 A79 hn A
      · have hvb : (p.v == 4) = false := by simpa using hv
        have hN : noS p = false := by rw [noS, hvb, Bool.false_and]
        by_cases h5 : sumdS p p.body = p.body
        · have e : udpE p = 0 := by rw [udpE, if_neg h1, if_neg h2', if_pos (.inr h5)]
          have hx := hX false ⟨fun _ => rfl, fun _ => h5⟩
          rw [e, if_pos rfl, udpG, hN]
          exact rps_udp_good_n _ _ _ _ _ _ _ _ _ _ _ _ w hp _ _ _ rfl rfl rfl (by omega) hb h2 hvb _ _ _ hV hx A38 A78 A79 A
        · have e : udpE p = 82 := by rw [udpE, if_neg h1, if_neg h2', if_neg (by rw [hN]; simpa using h5)]
          have hx := hX true ⟨fun k => absurd k h5, fun k => by cases k⟩
          rw [e, if_neg (by decide)]
          exact rps_udp_sum_n _ _ _ _ _ _ _ _ _ _ _ _ w hp _ _ _ rfl rfl rfl (by omega) hb h2 hvb _ _ _ hV hx A38 A78 A79 A
    · have e : udpE p = 81 := by rw [udpE, if_neg h1, if_pos h2]
      rw [e, if_neg (by decide)]
      exact rps_udp_form _ _ _ _ _ _ _ _ _ _ _ _ w hp (by omega) hb h2 A
theorem refS_any (p : Pk) (w : World) (hb : p.body.size ≤ 65535) : Calls Try.prog 36 #[.agg #[.int .i64 p.v, .string p.src, .string p.dst, .int .i64 p.proto, .int .i64 p.hops, .int .i64 p.cls, .int .i64 p.id, .int .i64 p.flags, .int .i64 p.off, .int .i64 p.label, .string p.opt, .string p.body]] w (SaysG w (sgL (segPG p)) (segPE p)) := by
  by_cases hc : canB p = true
  · by_cases h6 : p.proto = 6
    · have := refS_tcp p w hc h6 hb
      rw [segPG, segPE, if_pos hc, if_pos h6, if_pos h6]
      exact this
    · have h17 : p.proto = 17 := (canB_iff.1 hc).2.1.resolve_left h6
      have := refS_udp p w hc h17 hb
      rw [segPG, segPE, if_pos hc, if_neg h6, if_neg h6]
      exact this
  · have A := fun W => carries_any p W
    have hcf : canB p = false := by simpa using hc
    rw [hcf] at A
    have hE : segPE p = 81 := by rw [segPE, if_neg hc]
    rw [segPG, hE, if_neg (by decide)]
    exact rps_cannot _ _ _ _ _ _ _ _ _ _ _ _ w A
end Go.Proofs.Ytalkpllmcigjnaa
