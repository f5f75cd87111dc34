/-
  For every input the law DescBytes returns true, and its arguments read afterwards as before; no condition beyond the form's own reach.
-/
import Derived.Test.YtmipjmoemmgkiaaWba
import Derived.Test.YtmipjmoemmgkiaaWbb
import Derived.Test.YtmipjmoemmgkiaaWbc
namespace Go.Proofs.Ytmipjmoemmgkiaa
open Go.Joins Go.ChangeShapes Go.WideShapes Go.ChangeAt Go.RowKit Go.Deep
open Go.ChangeMaps (open_string)

theorem ext_list (s : ByteArray) (a b : Nat) : (s.extract a b).data.toList = (s.data.toList.drop a).take (b - a) := by
  rw [ByteArray.data_extract, Array.toList_extract, List.extract_eq_take_drop]
theorem of_list {s t : ByteArray} (h : s.data.toList = t.data.toList) : s = t := by
  obtain ⟨a⟩ := s
  obtain ⟨b⟩ := t
  exact congrArg ByteArray.mk (Array.ext' h)
theorem head8 (A L I F : Nat) : (desB A L I F).extract 0 8 = pb A 8 := by
  refine of_list ?_
  rw [ext_list, desB_list, pb_list]
  exact mid [] (digs A 8) _ 0 8 rfl (digs_length _ _)
theorem tail8 (A L I F : Nat) : (desB A L I F).extract 8 16 = pb L 4 ++ pb I 2 ++ pb F 2 := by
  refine of_list ?_
  rw [ext_list, desB_list]
  simp only [ByteArray.data_append, Array.toList_append, pb_list, List.append_assoc]
  have := mid (digs A 8) (digs L 4 ++ (digs I 2 ++ digs F 2)) [] 8 8 (digs_length _ _) (by simp [digs_length])
  rwa [List.append_nil] at this
theorem pb_ne {A B : Nat} (hA : A < 18446744073709551616) (hB : B < 18446744073709551616) (h : A ≠ B) : pb A 8 ≠ pb B 8 := by
  intro e
  apply h
  have e2 : digs A 8 = digs B 8 := congrArg (fun s : ByteArray => s.data.toList) e
  have v := congrArg val e2
  rw [val_digs, val_digs] at v
  omega
theorem byte_at (A L I F k : Nat) (hk : k < 16) : ((desB A L I F)[k]'(by rw [desB_size]; exact hk)) = ((digs A 8 ++ (digs L 4 ++ (digs I 2 ++ digs F 2)))[k]'(by simp [digs_length]; omega)) := by
  have e : (desB A L I F)[k]'(by rw [desB_size]; exact hk) = (desB A L I F).data.toList[k]'(by show k < (desB A L I F).size; rw [desB_size]; exact hk) := rfl
  rw [e]
  simp only [desB_list]
theorem last4 (A L I F : Nat) (hI : I ≤ 65535) (hF : F ≤ 65535) :
    ((desB A L I F)[12]'(by rw [desB_size]; decide)).toNat = I % 256 ∧ ((desB A L I F)[13]'(by rw [desB_size]; decide)).toNat = I / 256 ∧ ((desB A L I F)[14]'(by rw [desB_size]; decide)).toNat = F % 256 ∧ ((desB A L I F)[15]'(by rw [desB_size]; decide)).toNat = F / 256 := by
  rw [byte_at A L I F 12 (by decide), byte_at A L I F 13 (by decide), byte_at A L I F 14 (by decide), byte_at A L I F 15 (by decide)]
  simp only [digs, List.cons_append, List.nil_append, List.getElem_cons_succ, List.getElem_cons_zero, UInt8.toNat_ofNat']
  refine ⟨?_, ?_, ?_, ?_⟩ <;> first | trivial | omega
theorem descBytes_any (A L : Nat) (I F o : Int) (hA : A < 18446744073709551616) (hL : L < 4294967296) (ho : 0 ≤ o ∧ o ≤ 18446744073709551615) (w : World) :
    Calls Try.prog 7 #[.agg #[.int .u64 (A : Int), .int .u32 (L : Int), .int .i64 I, .int .i64 F], .int .u64 o] w fun e w' => e = .returned (.bool true) ∧ Below w.heap.size w w' := by
  obtain ⟨O, rfl⟩ := Int.eq_ofNat_of_zero_le ho.1
  have hO : O < 18446744073709551616 := by omega
  by_cases h : isW I F
  · obtain ⟨i, rfl⟩ := Int.eq_ofNat_of_zero_le h.1.1
    obtain ⟨f, rfl⟩ := Int.eq_ofNat_of_zero_le h.2.1
    have hi : i ≤ 65535 := by have := h.1.2; omega
    have hf : f ≤ 65535 := by have := h.2.2; omega
    obtain ⟨l1, l2, l3, l4⟩ := last4 A L i f hi hf
    by_cases e : A = O
    · subst e
      exact descBytes_same _ _ _ _ _ _ _ w (desB_size A L i f) _ _ _ _ l1 l2 l3 l4 (by omega) (by omega) (by omega) (by omega) (by omega) (by omega) (tail8 A L i f) (head8 A L i f) (build_ok A L i f hA hL hi hf) fixed_any
    · exact descBytes_other _ _ _ _ _ _ _ _ _ _ w (desB_size A L i f) _ _ _ _ l1 l2 l3 l4 (by omega) (by omega) (by omega) (by omega) (by omega) (by omega) (desB_size O L i f) (tail8 A L i f) (tail8 O L i f) (head8 A L i f) (head8 O L i f)
        (str_ne (pb_ne hA hO e)) (by simp; omega) (build_ok A L i f hA hL hi hf) (build_ok O L i f hO hL hi hf) fixed_any
  · have b1 := build_any A L I F hA hL
    have b2 := build_any O L I F hO hL
    rw [buS, buE, if_neg h, if_neg h] at b1 b2
    exact descBytes_bad _ _ _ _ _ w b1 b2 fixed_any

set_option maxRecDepth 100000 in
theorem descBytes_lifted (os : Os) (started : os.Started) (H : Type) (enc : TypeId × Value → H) :
    ReturnsInHanded {} Try.checked os 7 .any (Rows.descBytesSpec.pre6 enc Try.prog Try.f7 Rows.descBytesRow.domain false) (Rows.descBytesSpec.post enc Try.prog Try.f7 false true false false) := by
  have e : Try.f7.params.toList = [25, 22] := by rw [Try.params7]
  refine law_of_walk (C := Try.checked) (tb := 4) H enc Try.own started (by kernel_rfl) Try.func7 Try.laidOut rfl rfl Try.underlying4 ?_ ?_
    (ChangeSpec.witness6 (enc := enc) (C := Try.checked) false ⟨#[], #[.agg #[.int .u64 0, .int .u32 0, .int .i64 0, .int .i64 0], .int .u64 0], []⟩ 8 (by kernel_rfl) (by kernel_rfl) (by kernel_rfl) (by kernel_rfl)) ?_
  · rw [e]
    intro t ht
    simp only [List.mem_cons, List.not_mem_nil, or_false] at ht
    rcases ht with rfl | rfl <;> exact ⟨by kernel_rfl, of_decide_eq_true (by kernel_rfl)⟩
  · intro ds hds
    rw [e] at hds
    match ds, hds with
    | [d0, d1], _ => rfl
  · intro W base args ds p hval0 hA0 hsz0
    have hval : ∀ (j : Nat) t v, Try.f7.params[j]? = some t → args[j]? = some v → Value.okWide Try.prog W .any base t v := hval0
    have hA : DataW.TrodAll enc Try.prog W 0 (fun _ => true) true Try.f7.params.toList args.toList ds p := hA0
    have hsz : (DataW.weightsEach Try.prog Try.f7.params.toList ds).all (· ≤ reachBytes) = true := hsz0
    rw [Try.params7] at hA hval hsz
    obtain ⟨v0, v1, d0, d1, p0, p1, rfl, rfl, rfl, h0, h1⟩ := trodAll_two hA
    obtain ⟨A0, L0, I0, F0, rfl, a0, l0, i0, f0⟩ := open_desc (hval 0 25 v0 rfl rfl) h0
    obtain ⟨x1, rfl, rfl, rfl, k1⟩ := open_int Try.underlying22 (hval 1 22 v1 rfl rfl) h1
    have y1 := bounds_u64 k1
    exact descBytes_any A0 L0 I0 F0 x1 a0 l0 y1 W

theorem descBytes_holds : Rows.DescBytesSaid :=
  OpenClaim.holds_of_wide 7 Try.f7 rfl rfl rfl rfl rfl rfl rfl ⟨rfl, rfl, rfl, rfl, rfl⟩ rfl rfl rfl rfl rfl (by kernel_rfl) Try.func7 (by kernel_rfl)
    (of_decide_eq_true (by kernel_rfl)) (by unfold Func.isWrapper; first | (rw [if_pos (by decide +kernel)]; kernel_rfl) | (rw [if_neg (by decide +kernel)]; exact ⟨rfl, rfl⟩))
    (fun os started H enc _ => descBytes_lifted os started H enc)
end Go.Proofs.Ytmipjmoemmgkiaa
