/-
  control.change, for every string: one statement; no condition.
-/
import Derived.Test.YtongkfimgohhbaaCm
namespace Go.Proofs.Ytongkfimgohhbaa
open Go.RowKit

set_option maxHeartbeats 1000000 in
theorem change_any (g h : Nat) (K : Cg) (s : ByteArray) (b : Bool) (w : World) (hs : s.size ≤ maxLen) (hc : Cv g h K w) (hb : Blk w h 64 (rdC s b)) (hl : K.f.Few) :
    Calls Try.prog 35 #[.pointer (some ⟨g, 0, none⟩), .pointer (some ⟨h, 0, none⟩)] w (ChP g h K s b w) := by
  have z1 : (tkR s 1).size ≤ maxLen := Nat.le_trans (tkR_size _ _) hs
  have z2 : (c2 s).size ≤ maxLen := Nat.le_trans (tkR_size _ _) z1
  have A1 := fun W hk => number_any h s b 1 W hs (by omega) (by omega) hk
  have A2 := fun W hk => number_any h (tkR s 1) (tkB s 1 b) 1 W z1 (by omega) (by omega) hk
  have hn : cN s < 256 := nm_lt _ 1
  have hne : h ∉ [g] := by have := hc.ne; simp; omega
  by_cases h0 : nm s 1 = 0
  · rw [h0] at A1
    have A3 := fun W hk => number_any h (c2 s) (b2 s b) 1 W z2 (by omega) (by omega) hk
    refine ch0 g h K s _ _ b _ _ _ _ _ _ w hc hb _ A1 A2 A3 ?_
    intro W hcv hk ht
    refine (flag_any g h K (cN s) (nm (c2 s) 1) W hn hcv).mono ?_
    rintro e w' ⟨he, hv, ht'⟩
    refine ⟨_, he, ?_⟩
    unfold ChP chgC
    rw [if_pos h0]
    dsimp only
    exact ⟨he, ht.trans ht'.r, fun _ => ⟨_, Cg.Same.refl _, Pc.of hv (ht'.blk hk hne) (ht.trans ht'.r)⟩⟩
  by_cases h1 : nm s 1 = 1
  · rw [h1] at A1
    refine ch1 g h K s _ _ b _ _ _ w hc hb _ A1 A2 ?_
    intro W hcv hk ht
    by_cases n0 : cN s = 0
    · have := macs0 g h K (c2 s) (b2 s b) W z2 hcv hk
      rw [show (nm (tkR s 1) 1) = 0 from n0]
      refine this.mono ?_
      rintro e w' ⟨U, uc, M, mc, he, hv, hk', ht'⟩
      refine ⟨_, he, ?_⟩
      unfold ChP chgC
      rw [if_neg h0, if_pos h1, if_pos n0]
      dsimp only
      refine ⟨he, ht.trans ht', fun _ => ⟨_, ?_, Pc.of hv hk' (ht.trans ht')⟩⟩
      exact ⟨⟨rfl, rfl, rfl, rfl, rfl, rfl, rfl, rfl, rfl, rfl, rfl⟩, rfl, rfl, rfl, rfl, rfl, rfl, rfl⟩
    by_cases n1 : cN s = 1
    · have := macs1 g h K (c2 s) (b2 s b) W z2 hcv hk
      rw [show (nm (tkR s 1) 1) = 1 from n1]
      refine this.mono ?_
      rintro e w' ⟨he, hv, hk', ht'⟩
      refine ⟨_, he, ?_⟩
      unfold ChP chgC
      rw [if_neg h0, if_pos h1, if_neg n0, if_pos n1]
      dsimp only
      exact ⟨he, ht.trans ht', fun _ => ⟨_, Cg.Same.refl _, Pc.of hv hk' (ht.trans ht')⟩⟩
    · have hb1 : 1 < nm (tkR s 1) 1 := by unfold cN at n0 n1; omega
      refine (macs2 g h _ W hb1).mono ?_
      rintro e w' ⟨he, rfl⟩
      refine ⟨_, he, ?_⟩
      unfold ChP chgC
      rw [if_neg h0, if_pos h1, if_neg n0, if_neg n1]
      dsimp only
      exact ⟨he, ht, fun h => by cases h⟩
  by_cases h2 : nm s 1 = 2
  · rw [h2] at A1
    have A3 := fun W hk => number_any h (c2 s) (b2 s b) 2 W z2 (by omega) (by omega) hk
    refine ch2 g h K s _ _ b _ _ _ _ _ _ w hc hb _ A1 A2 A3 ?_
    intro W hcv hk ht
    have hE : ChP g h K s b w = fun e w' => e = .returned (.bool (decide (cN s ≤ 1) && isV (nm (c2 s) 2) && ascB K.f.vs)) ∧ Tch [g, h] w w' ∧ ((decide (cN s ≤ 1) && isV (nm (c2 s) 2) && ascB K.f.vs) = true → ∃ K', ({ K with f := { K.f with vs := numV K (cN s) (nm (c2 s) 2) } } : Cg).Same K' ∧ Pc g h K' (tkR (c2 s) 2) (tkB (c2 s) 2 (b2 s b)) w w') := by
      unfold ChP chgC
      rw [if_neg h0, if_neg h1, if_pos h2]
    rw [hE]
    clear hE
    by_cases n2 : 1 < cN s
    · refine (vlan_many g _ _ W n2).mono ?_
      rintro e w' ⟨he, rfl⟩
      have : decide (cN s ≤ 1) = false := by simpa using n2
      rw [this]
      exact ⟨_, he, he, ht, fun h => by cases h⟩
    have d1 : decide (cN s ≤ 1) = true := by simpa using n2
    rw [d1, Bool.true_and]
    by_cases hv : isV (nm (c2 s) 2 : Nat) = true ∧ ascB K.f.vs = true
    · rw [hv.1, hv.2]
      have hx : ∀ n X, cN s = n → numV K n (nm (c2 s) 2) = X → Calls Try.prog 54 #[.pointer (some ⟨g, 0, none⟩), .int .i64 (n : Nat), .int .i64 (nm (c2 s) 2 : Nat)] W (VlanP g h K X W) := by
        intro n X e1 e2
        subst e2
        obtain rfl | rfl : n = 0 ∨ n = 1 := by omega
        · exact vlan_add g h K _ W hcv hl hv.1 hv.2
        · exact vlan_del g h K _ W hcv hl hv.1 hv.2
      refine (hx (cN s) _ rfl rfl).mono ?_
      rintro e w' ⟨G, he, hS, hv', ht'⟩
      exact ⟨_, he, he, ht.trans ht'.r, fun _ => ⟨{ K with f := G }, ⟨hS, rfl, rfl, rfl, rfl, rfl, rfl, rfl⟩, Pc.of hv' (ht'.blk hk hne) (ht.trans ht'.r)⟩⟩
    · have hbad : isV (nm (c2 s) 2 : Nat) = false ∨ ascB K.f.vs = false := by
        cases h1 : isV (nm (c2 s) 2 : Nat)
        · exact .inl rfl
        · cases h2 : ascB K.f.vs
          · exact .inr rfl
          · exact absurd ⟨h1, h2⟩ hv
      have hx : ∀ n, cN s = n → Calls Try.prog 54 #[.pointer (some ⟨g, 0, none⟩), .int .i64 (n : Nat), .int .i64 (nm (c2 s) 2 : Nat)] W (fun e w' => e = .returned (.bool false) ∧ Tch [g] W w') := by
        intro n e1
        obtain rfl | rfl : n = 0 ∨ n = 1 := by omega
        · exact vlan_add_bad g h K _ W hcv hl hbad
        · exact vlan_del_bad g h K _ W hcv hl hbad
      have hf : (isV (nm (c2 s) 2 : Nat) && ascB K.f.vs) = false := by
        rcases hbad with h | h <;> rw [h] <;> simp
      rw [hf]
      refine (hx (cN s) rfl).mono ?_
      rintro e w' ⟨he, ht'⟩
      exact ⟨_, he, he, ht.trans ht'.r, fun h => by cases h⟩
  by_cases h4 : nm s 1 = 4
  · rw [h4] at A1
    refine ch4 g h K s _ _ b _ _ _ w hc hb _ A1 A2 ?_
    intro W hcv hk ht
    by_cases n0 : cN s = 0
    · have := pairs0 g h K (c2 s) (b2 s b) W z2 hcv hk
      rw [show (nm (tkR s 1) 1) = 0 from n0]
      refine this.mono ?_
      rintro e w' ⟨he, hv, hk', ht'⟩
      refine ⟨_, he, ?_⟩
      unfold ChP chgC
      rw [if_neg h0, if_neg h1, if_neg h2, if_pos h4, if_pos n0]
      dsimp only
      exact ⟨he, ht.trans ht', fun _ => ⟨_, Cg.Same.refl _, Pc.of hv hk' (ht.trans ht')⟩⟩
    by_cases n1 : cN s = 1
    · have := pairs1 g h K (c2 s) (b2 s b) W z2 hcv hk
      rw [show (nm (tkR s 1) 1) = 1 from n1]
      refine this.mono ?_
      rintro e w' (⟨ha, he, ht'⟩ | ⟨ha, he, A, n, hp⟩)
      · refine ⟨_, he, ?_⟩
        unfold ChP chgC
        rw [if_neg h0, if_neg h1, if_neg h2, if_pos h4, if_neg n0, if_pos n1]
        dsimp only
        simp only [ha, Bool.false_and]
        exact ⟨he, ht.trans ht', fun h => by cases h⟩
      · refine ⟨_, he, ?_⟩
        unfold ChP chgC
        rw [if_neg h0, if_neg h1, if_neg h2, if_pos h4, if_neg n0, if_pos n1]
        dsimp only
        simp only [ha, Bool.true_and]
        refine ⟨he, ht.trans hp.tch, fun _ => ⟨_, ?_, hp.trans ht⟩⟩
        exact ⟨⟨rfl, rfl, rfl, rfl, rfl, rfl, rfl, rfl, rfl, rfl, rfl⟩, rfl, rfl, rfl, rfl, rfl, rfl, rfl⟩
    · have hb1 : 1 < nm (tkR s 1) 1 := by unfold cN at n0 n1; omega
      refine (pairs2 g h _ W hb1).mono ?_
      rintro e w' ⟨he, rfl⟩
      refine ⟨_, he, ?_⟩
      unfold ChP chgC
      rw [if_neg h0, if_neg h1, if_neg h2, if_pos h4, if_neg n0, if_neg n1]
      dsimp only
      exact ⟨he, ht, fun h => by cases h⟩
  · refine chx g h K s _ _ b _ _ _ (nm s 1) (by rw [beq_eq_false_iff_ne]; omega) (by rw [beq_eq_false_iff_ne]; omega) (by rw [beq_eq_false_iff_ne]; omega) (by rw [beq_eq_false_iff_ne]; omega) w hc hb _ A1 A2 ?_
    intro w' ht
    unfold ChP chgC
    rw [if_neg h0, if_neg h1, if_neg h2, if_neg h4]
    dsimp only
    exact ⟨rfl, ht, fun h => by cases h⟩
end Go.Proofs.Ytongkfimgohhbaa
