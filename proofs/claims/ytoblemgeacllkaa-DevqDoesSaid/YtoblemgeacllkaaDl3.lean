/-
  What a script writes to memory: the laws' memory; no condition but the queue's size.
-/
import Derived.Test.YtoblemgeacllkaaDl2
import Derived.Test.YtoblemgeacllkaaWfr
import Derived.Test.YtoblemgeacllkaaDbr
namespace Go.Proofs.Ytoblemgeacllkaa
open Go.RowKit

theorem low_and (n : Int) (j : Nat) (m : Int) (hj : j ≤ 32) (hm : (BitVec.ofInt 64 m).toNat = 2 ^ j - 1) : ∃ X : Nat, X < 2 ^ j ∧ bits .and .i64 n m = (X : Int) := by
  have h : bits .and .i64 n m = IntKind.i64.wrap (((BitVec.ofInt 64 n).toNat % 2 ^ j : Nat) : Int) := by
    show IntKind.i64.wrap (((BitVec.ofInt 64 n &&& BitVec.ofInt 64 m).toNat : Nat) : Int) = _
    rw [BitVec.toNat_and, hm, Nat.and_two_pow_sub_one_eq_mod]
  have hb : (BitVec.ofInt 64 n).toNat % 2 ^ j < 2 ^ j := Nat.mod_lt _ (Nat.two_pow_pos j)
  have hp : 2 ^ j ≤ 2 ^ 32 := Nat.pow_le_pow_right (by omega) hj
  rw [IntWalk.i64_in _ (by omega)] at h
  exact ⟨_, hb, h⟩
theorem and16 (n : Int) : ∃ X : Nat, X < 65536 ∧ bits .and .i64 n 65535 = (X : Int) := low_and n 16 65535 (by decide) (by decide)
/-- a number's flags, and its two bits -/
theorem flags16 (n : Int) : ∃ (a u : Bool) (R : Nat), Rest R ∧ bits .and .i64 n 65535 = ((R + mk a u : Nat) : Int) := by
  obtain ⟨X, hX, e⟩ := and16 n
  obtain ⟨a, u, R, hR, rfl⟩ := split X hX
  exact ⟨a, u, R, hR, e⟩
/-- what is written where, if anything is -/
def MemoP (w : World) (e : Ending) (w' : World) : Prop := ∃ (a : Int) (s : ByteArray) (is : Bool), e = .returned (.tuple #[.int .i64 a, .string s, .bool is]) ∧ s.size ≤ 300 ∧ Below w.heap.size w w'
theorem desB_is (A L I F : Nat) (hI : I ≤ 65535) (hF : F ≤ 65535) (hA : A < 18446744073709551616) (hL : L < 4294967296) (w : World) :
    Calls Try.prog 29 #[.agg #[.int .u64 (A : Int), .int .u32 (L : Int), .int .i64 (I : Int), .int .i64 (F : Int)]] w fun e w' => ∃ S : ByteArray, e = .returned (.tuple #[.string S, .int .i64 0]) ∧ S.size = 16 ∧ Below w.heap.size w w' := by
  have hw : isW (I : Int) (F : Int) := ⟨by omega, by omega⟩
  have e : buE (I : Int) (F : Int) = 0 := by unfold buE; rw [if_pos hw]
  have e2 : buS A L (I : Int) (F : Int) = desB A L I F := by unfold buS; rw [if_pos hw]; rfl
  refine (rbuild_any A L I F hA hL w).mono fun e1 w' ⟨h1, h2⟩ => ⟨desB A L I F, ?_, desB_size A L I F, h2⟩
  rw [h1, e, e2]
set_option maxRecDepth 100000 in
set_option maxHeartbeats 3200000 in
theorem memo_1 (k a : Int) (da dn : Nat) (di df : Int) (s : ByteArray) (n wr eo : Int) (ew : Bool) (ef : Int) (v : Bool) (r z x y : Int) (hz : 1 ≤ z) (hda : da < 18446744073709551616) (hdn : dn < 4294967296) (w : World) (h1 : k = 1) :
    Calls Try.prog 8 #[.agg #[.int .i64 k, .int .i64 a, .int .u64 (da : Int), .int .u32 (dn : Int), .int .i64 di, .int .i64 df, .string s, .int .i64 n, .int .i64 wr, .int .i64 eo, .bool ew, .int .i64 ef, .bool v], .agg #[.int .i64 r, .int .i64 z, .int .i64 x, .int .i64 y]] w (MemoP w) := by
  subst h1
  obtain ⟨I, hI, eI⟩ := and16 di
  obtain ⟨P, hP, eP⟩ := and16 a
  obtain ⟨u1, u2, R, hR, eF⟩ := flags16 df
  obtain ⟨p, ep⟩ : ∃ p, (P : Int).tmod z = p := ⟨_, rfl⟩
  have hz0 : ¬ z = 0 := by omega
  have HM := Lib.hid (fun W => rmark_any R hR u1 u2 v false W)
  have hl := mk_lt R hR v (v == false)
  obtain ⟨F, eG⟩ : ∃ F, R + mk v (v == false) = F := ⟨_, rfl⟩
  rw [eG] at HM hl
  obtain ⟨G, eH⟩ : ∃ G, R + mk u1 u2 = G := ⟨_, rfl⟩
  rw [eH] at HM eF
  have HB := Lib.hid (fun W => desB_is da dn I F (by omega) (by omega) hda hdn W)
  have hb1 := ba (ba (Below.refl w.heap.size w) (.cells #[.int .i64 1, .int .i64 a, .int .u64 (da : Int), .int .u32 (dn : Int), .int .i64 di, .int .i64 df, .string s, .int .i64 n, .int .i64 wr, .int .i64 eo, .bool ew, .int .i64 ef, .bool v] 39)) (.cells #[.int .i64 r, .int .i64 z, .int .i64 x, .int .i64 y] 23)
  clear hR hP hI
  go_enter Try.func8, Try.ntmps8
  go_wp2_with fail
  go_quiet (fail)
  go_wp2_with (first | (go_at_call 28; ((with_reducible refine (HM.out _).mono ?_); rintro e w1 ⟨rfl, rfl⟩)) | (go_at_call 29; ((with_reducible refine (HB.out _).mono ?_); rintro e w2 ⟨S, rfl, hS, hq⟩)))
  go_ret3
  refine ⟨_, S, _, rfl, by omega, b0 (Below.setCell (below_drewN (ba hb1 _) _) ?_ _) hq⟩
  show w.heap.size ≤ w.heap.size + 1 + 1
  omega
set_option maxRecDepth 100000 in
set_option maxHeartbeats 3200000 in
theorem memo_2 (k a : Int) (da dn : Nat) (di df : Int) (s : ByteArray) (n wr eo : Int) (ew : Bool) (ef : Int) (v : Bool) (r z x y : Int) (hz : 1 ≤ z) (hda : da < 18446744073709551616) (hdn : dn < 4294967296) (w : World) (h1 : ¬ k = 1) (h2 : k = 2) :
    Calls Try.prog 8 #[.agg #[.int .i64 k, .int .i64 a, .int .u64 (da : Int), .int .u32 (dn : Int), .int .i64 di, .int .i64 df, .string s, .int .i64 n, .int .i64 wr, .int .i64 eo, .bool ew, .int .i64 ef, .bool v], .agg #[.int .i64 r, .int .i64 z, .int .i64 x, .int .i64 y]] w (MemoP w) := by
  subst h2
  obtain ⟨I, hI, eI⟩ := and16 di
  obtain ⟨P, hP, eP⟩ := and16 a
  obtain ⟨u1, u2, R, hR, eF⟩ := flags16 df
  obtain ⟨p, ep⟩ : ∃ p, (P : Int).tmod z = p := ⟨_, rfl⟩
  have hz0 : ¬ z = 0 := by omega
  have hl := mk_lt R hR u1 u2
  obtain ⟨F, eG⟩ : ∃ F, R + mk u1 u2 = F := ⟨_, rfl⟩
  rw [eG] at eF hl
  have HB := Lib.hid (fun W => desB_is da dn I F (by omega) (by omega) hda hdn W)
  have hb1 := ba (ba (Below.refl w.heap.size w) (.cells #[.int .i64 2, .int .i64 a, .int .u64 (da : Int), .int .u32 (dn : Int), .int .i64 di, .int .i64 df, .string s, .int .i64 n, .int .i64 wr, .int .i64 eo, .bool ew, .int .i64 ef, .bool v] 39)) (.cells #[.int .i64 r, .int .i64 z, .int .i64 x, .int .i64 y] 23)
  clear hR hP hI
  go_enter Try.func8, Try.ntmps8
  go_wp2_with fail
  go_quiet (fail)
  go_wp2_with (first | (go_at_call 29; ((with_reducible refine (HB.out _).mono ?_); rintro e w2 ⟨S, rfl, hS, hq⟩)))
  go_ret3
  exact ⟨_, S, _, rfl, by omega, b0 (below_drewN (ba hb1 _) _) hq⟩
set_option maxRecDepth 100000 in
set_option maxHeartbeats 3200000 in
theorem memo_3 (k a : Int) (da dn : Nat) (di df : Int) (s : ByteArray) (n wr eo : Int) (ew : Bool) (ef : Int) (v : Bool) (r z x y : Int) (hz : 1 ≤ z) (w : World) (h1 : ¬ k = 1) (h2 : ¬ k = 2) (h3 : k = 3) (hs : 300 < s.size) :
    Calls Try.prog 8 #[.agg #[.int .i64 k, .int .i64 a, .int .u64 (da : Int), .int .u32 (dn : Int), .int .i64 di, .int .i64 df, .string s, .int .i64 n, .int .i64 wr, .int .i64 eo, .bool ew, .int .i64 ef, .bool v], .agg #[.int .i64 r, .int .i64 z, .int .i64 x, .int .i64 y]] w (MemoP w) := by
  subst h3
  obtain ⟨I, hI, eI⟩ := and16 di
  obtain ⟨P, hP, eP⟩ := and16 a
  obtain ⟨u1, u2, R, hR, eF⟩ := flags16 df
  obtain ⟨p, ep⟩ : ∃ p, (P : Int).tmod z = p := ⟨_, rfl⟩
  have hz0 : ¬ z = 0 := by omega
  have hb1 := ba (ba (Below.refl w.heap.size w) (.cells #[.int .i64 3, .int .i64 a, .int .u64 (da : Int), .int .u32 (dn : Int), .int .i64 di, .int .i64 df, .string s, .int .i64 n, .int .i64 wr, .int .i64 eo, .bool ew, .int .i64 ef, .bool v] 39)) (.cells #[.int .i64 r, .int .i64 z, .int .i64 x, .int .i64 y] 23)
  clear hR hP hI
  go_enter Try.func8, Try.ntmps8
  go_wp2_with fail
  go_quiet (fail)
  go_wp2_with fail
  go_quiet (fail)
  go_wp2_with fail
  go_ret3
  exact ⟨_, _, _, rfl, by first | omega | (rw [ByteArray.size_extract]; omega), below_drewN (below_drewN (ba hb1 _) _) _⟩
set_option maxRecDepth 100000 in
set_option maxHeartbeats 3200000 in
theorem memo_4 (k a : Int) (da dn : Nat) (di df : Int) (s : ByteArray) (n wr eo : Int) (ew : Bool) (ef : Int) (v : Bool) (r z x y : Int) (hz : 1 ≤ z) (w : World) (h1 : ¬ k = 1) (h2 : ¬ k = 2) (h3 : k = 3) (hs : ¬ 300 < s.size) :
    Calls Try.prog 8 #[.agg #[.int .i64 k, .int .i64 a, .int .u64 (da : Int), .int .u32 (dn : Int), .int .i64 di, .int .i64 df, .string s, .int .i64 n, .int .i64 wr, .int .i64 eo, .bool ew, .int .i64 ef, .bool v], .agg #[.int .i64 r, .int .i64 z, .int .i64 x, .int .i64 y]] w (MemoP w) := by
  subst h3
  obtain ⟨I, hI, eI⟩ := and16 di
  obtain ⟨P, hP, eP⟩ := and16 a
  obtain ⟨u1, u2, R, hR, eF⟩ := flags16 df
  obtain ⟨p, ep⟩ : ∃ p, (P : Int).tmod z = p := ⟨_, rfl⟩
  have hz0 : ¬ z = 0 := by omega
  have hb1 := ba (ba (Below.refl w.heap.size w) (.cells #[.int .i64 3, .int .i64 a, .int .u64 (da : Int), .int .u32 (dn : Int), .int .i64 di, .int .i64 df, .string s, .int .i64 n, .int .i64 wr, .int .i64 eo, .bool ew, .int .i64 ef, .bool v] 39)) (.cells #[.int .i64 r, .int .i64 z, .int .i64 x, .int .i64 y] 23)
  clear hR hP hI
  go_enter Try.func8, Try.ntmps8
  go_wp2_with fail
  go_quiet (fail)
  go_wp2_with fail
  go_quiet (fail)
  go_wp2_with fail
  go_ret3
  exact ⟨_, _, _, rfl, by first | omega | (rw [ByteArray.size_extract]; omega), below_drewN (below_drewN (ba hb1 _) _) _⟩
set_option maxRecDepth 100000 in
set_option maxHeartbeats 3200000 in
theorem memo_0 (k a : Int) (da dn : Nat) (di df : Int) (s : ByteArray) (n wr eo : Int) (ew : Bool) (ef : Int) (v : Bool) (r z x y : Int) (hz : 1 ≤ z) (hda : da < 18446744073709551616) (hdn : dn < 4294967296) (w : World) (h1 : ¬ k = 1) (h2 : ¬ k = 2) (h3 : ¬ k = 3) (h0 : k = 0) :
    Calls Try.prog 8 #[.agg #[.int .i64 k, .int .i64 a, .int .u64 (da : Int), .int .u32 (dn : Int), .int .i64 di, .int .i64 df, .string s, .int .i64 n, .int .i64 wr, .int .i64 eo, .bool ew, .int .i64 ef, .bool v], .agg #[.int .i64 r, .int .i64 z, .int .i64 x, .int .i64 y]] w (MemoP w) := by
  subst h0
  obtain ⟨I, hI, eI⟩ := and16 di
  obtain ⟨P, hP, eP⟩ := and16 a
  obtain ⟨u1, u2, R, hR, eF⟩ := flags16 df
  obtain ⟨p, ep⟩ : ∃ p, (P : Int).tmod z = p := ⟨_, rfl⟩
  have hz0 : ¬ z = 0 := by omega
  have hl := mk_lt R hR u1 u2
  obtain ⟨F, eG⟩ : ∃ F, R + mk u1 u2 = F := ⟨_, rfl⟩
  rw [eG] at eF hl
  have HB := Lib.hid (fun W => desB_is da dn I F (by omega) (by omega) hda hdn W)
  have hb1 := ba (ba (Below.refl w.heap.size w) (.cells #[.int .i64 0, .int .i64 a, .int .u64 (da : Int), .int .u32 (dn : Int), .int .i64 di, .int .i64 df, .string s, .int .i64 n, .int .i64 wr, .int .i64 eo, .bool ew, .int .i64 ef, .bool v] 39)) (.cells #[.int .i64 r, .int .i64 z, .int .i64 x, .int .i64 y] 23)
  clear hR hP hI
  go_enter Try.func8, Try.ntmps8
  go_wp2_with fail
  go_quiet (fail)
  go_wp2_with (first | (go_at_call 29; ((with_reducible refine (HB.out _).mono ?_); rintro e w2 ⟨S, rfl, hS, hq⟩)))
  go_ret3
  exact ⟨_, S, _, rfl, by omega, b0 (below_drewN (ba hb1 _) _) hq⟩
set_option maxRecDepth 100000 in
set_option maxHeartbeats 3200000 in
theorem memo_5 (k a : Int) (da dn : Nat) (di df : Int) (s : ByteArray) (n wr eo : Int) (ew : Bool) (ef : Int) (v : Bool) (r z x y : Int) (hz : 1 ≤ z) (w : World) (h1 : ¬ k = 1) (h2 : ¬ k = 2) (h3 : ¬ k = 3) (h0 : ¬ k = 0) :
    Calls Try.prog 8 #[.agg #[.int .i64 k, .int .i64 a, .int .u64 (da : Int), .int .u32 (dn : Int), .int .i64 di, .int .i64 df, .string s, .int .i64 n, .int .i64 wr, .int .i64 eo, .bool ew, .int .i64 ef, .bool v], .agg #[.int .i64 r, .int .i64 z, .int .i64 x, .int .i64 y]] w (MemoP w) := by
  obtain ⟨I, hI, eI⟩ := and16 di
  obtain ⟨P, hP, eP⟩ := and16 a
  obtain ⟨u1, u2, R, hR, eF⟩ := flags16 df
  obtain ⟨p, ep⟩ : ∃ p, (P : Int).tmod z = p := ⟨_, rfl⟩
  have hz0 : ¬ z = 0 := by omega
  have hb1 := ba (ba (Below.refl w.heap.size w) (.cells #[.int .i64 k, .int .i64 a, .int .u64 (da : Int), .int .u32 (dn : Int), .int .i64 di, .int .i64 df, .string s, .int .i64 n, .int .i64 wr, .int .i64 eo, .bool ew, .int .i64 ef, .bool v] 39)) (.cells #[.int .i64 r, .int .i64 z, .int .i64 x, .int .i64 y] 23)
  clear hR hP hI
  go_enter Try.func8, Try.ntmps8
  go_wp2_with fail
  go_quiet (fail)
  go_wp2_with fail
  go_ret3
  exact ⟨_, _, _, rfl, Nat.zero_le _, below_drewN (ba hb1 _) _⟩
theorem memory_any (o : OpV) (ho : o.Ok) (r z x y : Int) (hz : 1 ≤ z) (w : World) :
    Calls Try.prog 8 #[.agg #[.int .i64 o.k, .int .i64 o.a, .int .u64 (o.da : Int), .int .u32 (o.dn : Int), .int .i64 o.di, .int .i64 o.df, .string o.s, .int .i64 o.n, .int .i64 o.wr, .int .i64 o.eo, .bool o.ew, .int .i64 o.ef, .bool o.v], .agg #[.int .i64 r, .int .i64 z, .int .i64 x, .int .i64 y]] w (MemoP w) := by
  obtain ⟨k, a, da, dn, di, df, s, n, wr, eo, ew, ef, v⟩ := o
  have hda := ho.da
  have hdn := ho.dn
  simp only at hda hdn ⊢
  by_cases h1 : k = 1
  · exact memo_1 k a da dn di df s n wr eo ew ef v r z x y hz hda hdn w h1
  by_cases h2 : k = 2
  · exact memo_2 k a da dn di df s n wr eo ew ef v r z x y hz hda hdn w h1 h2
  by_cases h3 : k = 3
  · by_cases hs : 300 < s.size
    · exact memo_3 k a da dn di df s n wr eo ew ef v r z x y hz w h1 h2 h3 hs
    · exact memo_4 k a da dn di df s n wr eo ew ef v r z x y hz w h1 h2 h3 hs
  by_cases h0 : k = 0
  · exact memo_0 k a da dn di df s n wr eo ew ef v r z x y hz hda hdn w h1 h2 h3 h0
  · exact memo_5 k a da dn di df s n wr eo ew ef v r z x y hz w h1 h2 h3 h0
end Go.Proofs.Ytoblemgeacllkaa
