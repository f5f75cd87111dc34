/-
  For every input the law WordsApart returns true, and its arguments read afterwards as before; no condition beyond the form's own reach.
-/
import Derived.Test.YtlgcnaedaljpiaaFrame
import Derived.Test.YtlgcnaedaljpiaaFixed
namespace Go.Proofs.Ytlgcnaedaljpiaa
open Go.Joins Go.ChangeShapes Go.WideShapes Go.ChangeAt Go.RowKit Go.Deep
open Go.ChangeMaps (open_string)

/-- What Set makes of s, as bytes. -/
theorem setS_ok (s : ByteArray) (a n : Nat) (v : Int) (big : Bool) (hp : putE v n = 0) (h : a + n ≤ s.size) :
    setS s a v n big = s.extract 0 a ++ putS v n big ++ s.extract (a + n) s.size := by
  rw [setS, if_pos ⟨hp, by omega, by omega⟩]; rfl
theorem setE_ok (s : ByteArray) (a n : Nat) (v : Int) (hp : putE v n = 0) (h : a + n ≤ s.size) : setE s a v n = 0 := by
  rw [setE, if_pos hp, if_pos (by omega)]
theorem putS_len (v : Int) (n : Nat) (big : Bool) (hp : putE v n = 0) : (putS v n big).size = n := by
  rcases putE_cases v n with ⟨_, h⟩ | ⟨h, _⟩
  · rw [putS, if_pos h]
    show (enc v.toNat (n : Int).toNat big).toArray.size = n
    rw [List.size_toArray, enc_length]; omega
  · omega
theorem putE_ok (v : Int) (n : Nat) (h1 : 1 ≤ n) (h2 : n ≤ 8) (h : v < 256 ^ n) : putE v n = 0 := by
  rw [putE, if_pos ⟨by omega, by omega, h⟩]
theorem apart_lists (l p q : List UInt8) (hp : p.length = 2) (hq : q.length = 1) (hl : 3 ≤ l.length) :
    ((p ++ l.drop 2).take 2 ++ q ++ (p ++ l.drop 2).drop 3) = p ++ (l.take 2 ++ q ++ l.drop 3).drop 2 := by
  match p, q, l, hp, hq, hl with
  | [p0, p1], [q0], x0 :: x1 :: x2 :: r, _, _, _ => rfl
theorem ext_list (s : ByteArray) (a b : Nat) : (s.extract a b).data.toList = (s.data.toList.drop a).take (b - a) := by
  rw [ByteArray.data_extract, Array.toList_extract, List.extract_eq_take_drop]
theorem ext_end (s : ByteArray) (a : Nat) : (s.extract a s.size).data.toList = s.data.toList.drop a := by
  rw [ext_list, List.take_of_length_le]
  rw [List.length_drop]
  have : s.data.toList.length = s.size := rfl
  omega
/-- Bytes set at 0 and 1, and at 2, whichever comes first. -/
theorem set_apart (s p q : ByteArray) (hp : p.size = 2) (hq : q.size = 1) (hs : 3 ≤ s.size) :
    let A := s.extract 0 0 ++ p ++ s.extract 2 s.size
    let C := s.extract 0 2 ++ q ++ s.extract 3 s.size
    A.extract 0 2 ++ q ++ A.extract 3 A.size = C.extract 0 0 ++ p ++ C.extract 2 C.size ∧ (A.extract 0 2 ++ q ++ A.extract 3 A.size).size = s.size ∧ A.size = s.size ∧ C.size = s.size := by
  intro A C
  have hA : A.size = s.size := by simp [A]; omega
  have hC : C.size = s.size := by simp [C]; omega
  refine ⟨?_, ?_, hA, hC⟩
  · apply ByteArray.ext
    apply Array.toList_inj.1
    have h := apart_lists s.data.toList p.data.toList q.data.toList hp hq hs
    have eA : A.data.toList = p.data.toList ++ s.data.toList.drop 2 := by
      simp only [A, ByteArray.data_append, Array.toList_append, ext_list s 0 0, ext_end, Nat.sub_self, List.take_zero, List.nil_append]
    have eC : C.data.toList = s.data.toList.take 2 ++ q.data.toList ++ s.data.toList.drop 3 := by
      simp only [C, ByteArray.data_append, Array.toList_append, ext_list s 0 2, ext_end, List.drop_zero, Nat.sub_zero]
    rw [← eA, ← eC] at h
    simp only [ByteArray.data_append, Array.toList_append, ext_list A 0 2, ext_list C 0 0, ext_end, Nat.sub_self, List.take_zero, List.nil_append, List.drop_zero, Nat.sub_zero]
    exact h
  · simp [hA]; omega

/-- The four calls of the law, in the names of their answers. -/
theorem four (S : ByteArray) (X Y : Int) (big : Bool) (hX : 0 ≤ X ∧ X < 65536) (hY : 0 ≤ Y ∧ Y < 256) (h3 : 3 ≤ S.size) (h48 : S.size ≤ 281474976710656) :
    ∃ A B C : ByteArray, B.size = S.size ∧
      (∀ w : World, Calls Try.prog 14 #[.string S, .int .i64 0, .int .u64 X, .int .i64 2, .bool big] w fun e w' => e = .returned (.tuple #[.string A, .int .i64 0]) ∧ Below w.heap.size w w') ∧
      (∀ w : World, Calls Try.prog 14 #[.string A, .int .i64 2, .int .u64 Y, .int .i64 1, .bool big] w fun e w' => e = .returned (.tuple #[.string B, .int .i64 0]) ∧ Below w.heap.size w w') ∧
      (∀ w : World, Calls Try.prog 14 #[.string S, .int .i64 2, .int .u64 Y, .int .i64 1, .bool big] w fun e w' => e = .returned (.tuple #[.string C, .int .i64 0]) ∧ Below w.heap.size w w') ∧
      (∀ w : World, Calls Try.prog 14 #[.string C, .int .i64 0, .int .u64 X, .int .i64 2, .bool big] w fun e w' => e = .returned (.tuple #[.string B, .int .i64 0]) ∧ Below w.heap.size w w') := by
  have t2 : (256 : Int) ^ 2 = 65536 := by decide
  have t1 : (256 : Int) ^ 1 = 256 := by decide
  have pX : putE X 2 = 0 := putE_ok X 2 (by decide) (by decide) (by omega)
  have pY : putE Y 1 = 0 := putE_ok Y 1 (by decide) (by decide) (by omega)
  have lX := putS_len X 2 big pX
  have lY := putS_len Y 1 big pY
  obtain ⟨e, hB, hA, hC⟩ := set_apart S (putS X 2 big) (putS Y 1 big) lX lY h3
  have s1 : setS S 0 X 2 big = S.extract 0 0 ++ putS X 2 big ++ S.extract 2 S.size := setS_ok S 0 2 X big pX (by omega)
  have s3 : setS S 2 Y 1 big = S.extract 0 2 ++ putS Y 1 big ++ S.extract 3 S.size := setS_ok S 2 1 Y big pY (by omega)
  rw [← s1] at e hB hA
  rw [← s3] at e hC
  have s2 : setS (setS S 0 X 2 big) 2 Y 1 big = _ := setS_ok (setS S 0 X 2 big) 2 1 Y big pY (by rw [hA]; exact h3)
  have s4 : setS (setS S 2 Y 1 big) 0 X 2 big = _ := setS_ok (setS S 2 Y 1 big) 0 2 X big pX (by rw [hC]; omega)
  have e1 : setE S 0 X 2 = 0 := setE_ok S 0 2 X pX (by omega)
  have e3 : setE S 2 Y 1 = 0 := setE_ok S 2 1 Y pY (by omega)
  have e2 : setE (setS S 0 X 2 big) 2 Y 1 = 0 := setE_ok _ 2 1 Y pY (by rw [hA]; exact h3)
  have e4 : setE (setS S 2 Y 1 big) 0 X 2 = 0 := setE_ok _ 0 2 X pX (by rw [hC]; omega)
  refine ⟨setS S 0 X 2 big, setS (setS S 0 X 2 big) 2 Y 1 big, setS S 2 Y 1 big, by rw [s2]; exact hB, fun w => ?_, fun w => ?_, fun w => ?_, fun w => ?_⟩
  · have h := set_any S 0 X 2 big w h48 hX.1
    rw [e1] at h; exact h
  · have h := set_any (setS S 0 X 2 big) 2 Y 1 big w (by rw [hA]; exact h48) hY.1
    rw [e2] at h; exact h
  · have h := set_any S 2 Y 1 big w h48 hY.1
    rw [e3] at h; exact h
  · have h := set_any (setS S 2 Y 1 big) 0 X 2 big w (by rw [hC]; exact h48) hX.1
    have ee : setS (setS S 2 Y 1 big) 0 X 2 big = setS (setS S 0 X 2 big) 2 Y 1 big := by rw [s4, s2]; exact e.symm
    rw [e4, ee] at h; exact h

theorem zeros16 {g : Nat} {w1 : World} {Z : ByteArray} (h : w1.ownsRow g 5 1 (.slice (some ⟨g, 0, none⟩) 16 16) 16 (madeCells (Value.cells (.int .u8 0)) (16 * 1)).toList) (hZ : (⟨(List.replicate 16 (0 : UInt8)).toArray⟩ : ByteArray) = Z) :
    (convert 36 9 (.slice (some ⟨g, 0, none⟩) 16 16)).run Try.prog w1 = .ok (.string Z) w1 := by
  have t := (Row.zero h).text 16
  rw [hZ, List.length_replicate] at t
  exact t
theorem mask16 (v : Int) (h0 : 0 ≤ v) (h64 : v < 18446744073709551616) : bits .and .u64 v 65535 = v % 65536 :=
  bits_mask .u64 64 (by decide) wraps_u64 16 (by decide) v h0 h64
theorem mask8 (v : Int) (h0 : 0 ≤ v) (h64 : v < 18446744073709551616) : bits .and .u64 v 255 = v % 256 :=
  bits_mask .u64 64 (by decide) wraps_u64 8 (by decide) v h0 h64
theorem bnext {w W W' : World} (h : Below w.heap.size w W) (hb : Below W.heap.size W W') : Below w.heap.size w W' := h.trans (hb.mono h.size)

set_option maxHeartbeats 400000 in
theorem wordsApart_any (s : ByteArray) (v : Int) (big : Bool) (w : World) (hs : s.size ≤ 140737488351232) (h0 : 0 ≤ v) (h64 : v < 18446744073709551616) :
    Calls Try.prog 8 #[.string s, .int .u64 v, .bool big] w fun e w' => e = .returned (.bool true) ∧ Below w.heap.size w w' := by
  obtain ⟨X, hX, eX⟩ : ∃ X : Int, (0 ≤ X ∧ X < 65536) ∧ bits .and .u64 v 65535 = X := ⟨v % 65536, by omega, mask16 v h0 h64⟩
  obtain ⟨Y, hY, eY⟩ : ∃ Y : Int, (0 ≤ Y ∧ Y < 256) ∧ bits .and .u64 v 255 = Y := ⟨v % 256, by omega, mask8 v h0 h64⟩
  clear h0 h64
  obtain ⟨Z, hZ, eZ⟩ : ∃ Z : ByteArray, Z.size = 16 ∧ (⟨(List.replicate 16 (0 : UInt8)).toArray⟩ : ByteArray) = Z := ⟨_, by rfl, rfl⟩
  obtain ⟨S, eS⟩ : ∃ S, s ++ Z = S := ⟨_, rfl⟩
  have hS : S.size = s.size + 16 := by rw [← eS, ByteArray.size_append, hZ]
  obtain ⟨A, B, C, hB, G1, G2, G3, G4⟩ := four S X Y big hX hY (by omega) (by omega)
  have hlen : ¬ 9223372036854775807 < s.size + Z.size := by omega
  have HB := Lib.hid hB
  have g1 := Lib.hid G1
  have g2 := Lib.hid G2
  have g3 := Lib.hid G3
  have g4 := Lib.hid G4
  have HEZ := Lib.hid eZ
  clear hB G1 G2 G3 G4 hS hZ eZ hX hY
  obtain ⟨i0, hi, hz0, hz1, hz2⟩ := info_parts Try.info5
  have HI := Lib.hid hi
  have HZ0 := Lib.hid hz0
  have HZ1 := Lib.hid hz1
  have HZ2 := Lib.hid hz2
  clear hi hz0 hz1 hz2
  go_enter Try.func8, Try.ntmps8
  go_wp2_with (first
    | (at_make; refine wpList_make_full _ rfl (.const (.int .i64 16)) (.const (.int .i64 16)) 36 rfl w.heap.size 5 i0 (.int .u8 0) 1 Try.underlying36 HI.out HZ0.out HZ1.out .i64 .i64 16 16 16 rfl rfl rfl rfl (by rw [HZ2.out]; omega) (by decide) (Nat.le_refl _) ?_; intro w1 hrow hgrow; have hconv := zeros16 hrow HEZ.out; have hb1 : Below w.heap.size w w1 := (Below.refl _ _).grown hgrow (Nat.le_refl _) (by simp); clear hrow hgrow)
    | (go_at_call 14; ((with_reducible refine (g1.out _).mono ?_); rintro e w2 ⟨rfl, hb2⟩; replace hb1 := bnext hb1 hb2; clear hb2))
    | (go_at_call 14; ((with_reducible refine (g2.out _).mono ?_); rintro e w2 ⟨rfl, hb2⟩; replace hb1 := bnext hb1 hb2; clear hb2))
    | (go_at_call 14; ((with_reducible refine (g3.out _).mono ?_); rintro e w2 ⟨rfl, hb2⟩; replace hb1 := bnext hb1 hb2; clear hb2))
    | (go_at_call 14; ((with_reducible refine (g4.out _).mono ?_); rintro e w2 ⟨rfl, hb2⟩; replace hb1 := bnext hb1 hb2; clear hb2; have hBS := HB.out))
    | (go_at_call 13; refine (fixed_any _).mono ?_; rintro e w5 ⟨rfl, hb5⟩; replace hb1 := bnext hb1 hb5; clear hb5))
  go_ret
  exact ⟨rfl, hb1⟩

set_option maxRecDepth 100000 in
theorem wordsApart_lifted (os : Os) (started : os.Started) (H : Type) (enc : TypeId × Value → H) :
    ReturnsInHanded {} Try.checked os 8 .any (Rows.wordsApartSpec.pre6 enc Try.prog Try.f8 Rows.wordsApartRow.domain false) (Rows.wordsApartSpec.post enc Try.prog Try.f8 false true false false) := by
  have e : Try.f8.params.toList = [9, 22, 4] := by rw [Try.params8]
  refine law_of_walk (C := Try.checked) (tb := 4) H enc Try.own started (by kernel_rfl) Try.func8 Try.laidOut rfl rfl Try.underlying4 ?_ ?_
    (ChangeSpec.witness6 (enc := enc) (C := Try.checked) false ⟨#[], #[.string ByteArray.empty, .int .u64 0, .bool false], []⟩ 8 (by kernel_rfl) (by kernel_rfl) (by kernel_rfl) (by kernel_rfl)) ?_
  · rw [e]
    intro t ht
    simp only [List.mem_cons, List.not_mem_nil, or_false] at ht
    rcases ht with rfl | rfl | rfl <;> exact ⟨by kernel_rfl, of_decide_eq_true (by kernel_rfl)⟩
  · intro ds hds
    rw [e] at hds
    match ds, hds with
    | [d0, d1, d2], _ => rfl
  · intro W base args ds p hval0 hA0 hsz0
    have hval : ∀ (j : Nat) t v, Try.f8.params[j]? = some t → args[j]? = some v → Value.okWide Try.prog W .any base t v := hval0
    have hA : DataW.TrodAll enc Try.prog W 0 (fun _ => true) true Try.f8.params.toList args.toList ds p := hA0
    have hsz : (DataW.weightsEach Try.prog Try.f8.params.toList ds).all (· ≤ reachBytes) = true := hsz0
    rw [Try.params8] at hA hval hsz
    obtain ⟨v0, v1, v2, d0, d1, d2, p0, p1, p2, rfl, rfl, rfl, h0, h1, h2⟩ := trodAll_three hA
    obtain ⟨s, rfl, rfl, rfl, _⟩ := open_string Try.underlying9 (hval 0 9 v0 rfl rfl) h0
    obtain ⟨v, rfl, rfl, rfl, wv⟩ := open_int Try.underlying22 (hval 1 22 v1 rfl rfl) h1
    obtain ⟨big, rfl, rfl, rfl⟩ := open_bool Try.underlying4 (hval 2 4 v2 rfl rfl) h2
    have hs := sized_string hsz (j := 0) (t := 9) rfl rfl
    simp only [reachBytes] at hs
    have hv := bounds_u64 wv
    exact wordsApart_any s v big W hs hv.1 (by omega)

theorem wordsApart_holds : Rows.WordsApartSaid :=
  OpenClaim.holds_of_wide 8 Try.f8 rfl rfl rfl rfl rfl rfl rfl ⟨rfl, rfl, rfl, rfl, rfl⟩ rfl rfl rfl rfl rfl (by kernel_rfl) Try.func8 (by kernel_rfl)
    (of_decide_eq_true (by kernel_rfl)) (by unfold Func.isWrapper; first | (rw [if_pos (by decide +kernel)]; kernel_rfl) | (rw [if_neg (by decide +kernel)]; exact ⟨rfl, rfl⟩))
    (fun os started H enc _ => wordsApart_lifted os started H enc)
end Go.Proofs.Ytlgcnaedaljpiaa
