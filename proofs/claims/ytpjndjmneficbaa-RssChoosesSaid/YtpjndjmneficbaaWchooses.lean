/-
  RssChooses: whatever the rules, the bytes and the queues: Choose answers as the document.
-/
import Derived.Test.YtpjndjmneficbaaWfr
import Derived.Test.YtpjndjmneficbaaRrh
import Derived.Test.YtpjndjmneficbaaRfx
namespace Go.Proofs.Ytpjndjmneficbaa
open Go.Joins Go.ChangeShapes Go.WideShapes Go.ChangeAt Go.RowKit Go.Deep
open Go.ChangeMaps (open_string)

set_option maxRecDepth 100000 in
set_option maxHeartbeats 1600000 in
theorem rssChooses_short (k : Int) (A : Option Addr) (c : Nat) (L : List Int) (x : ByteArray) (d : Int) (n : Nat) (y S : ByteArray) (q v : Int) (hs : S.size ≤ 1600) (w : World)
    (AB : ∀ W, Below w.heap.size w W → Calls Try.prog 10 #[.agg #[.int .i64 k, .slice A L.length c, .string x, .int .i64 d]] W fun e w' => e = .returned (.agg #[.int .i64 k, .slice A n c, .string y, .int .i64 d]) ∧ Below W.heap.size W w')
    (A17 : ∀ W, Below w.heap.size w W → Calls Try.prog 17 #[.agg #[.int .i64 k, .slice A n c, .string y, .int .i64 d], .string S, .int .i64 q] W fun e w' => e = .returned (.int .i64 v) ∧ Below W.heap.size W w')
    (A18 : ∀ W, Below w.heap.size w W → Calls Try.prog 18 #[.agg #[.int .i64 k, .slice A n c, .string y, .int .i64 d], .string S, .int .i64 q] W fun e w' => e = .returned (.int .i64 v) ∧ Below W.heap.size W w') :
    Calls Try.prog 4 #[.agg #[.int .i64 k, .slice A L.length c, .string x, .int .i64 d], .string S, .int .i64 q] w fun e w' => e = .returned (.bool true) ∧ Below w.heap.size w w' := by
  have HB := Lib.hid AB
  have H17 := Lib.hid A17
  have H18 := Lib.hid A18
  clear AB A17 A18
  have es : S.extract 0 S.size = S := cut_own S
  go_enter Try.func4, Try.ntmps4
  go_wp2_with fail
  refine (HB.out _ ((Below.refl _ _).alloc (Nat.le_refl _) _)).mono ?_
  rintro e w1 ⟨rfl, hq⟩
  have h1 := (Held.new w 24 #[.int .i64 k, .slice A L.length c, .string x, .int .i64 d]).next hq
  clear hq
  have z0 := h1.blk.frozen 0
  have z1 := h1.blk.frozen 1
  have z2 := h1.blk.frozen 2
  have z3 := h1.blk.frozen 3
  have c0 := h1.blk.cell 0
  have c1 := h1.blk.cell 1
  have c2 := h1.blk.cell 2
  have c3 := h1.blk.cell 3
  simp only [List.getElem?_toArray, List.getElem?_cons_zero, List.getElem?_cons_succ] at c0 c1 c2 c3
  have h2 := h1.set4 (.int .i64 k) (.slice A n c) (.string y) (.int .i64 d)
  go_wp2_with fail
  generalize ((((w1.setCell ⟨w.heap.size, 0, none⟩ (.int .i64 k)).setCell ⟨w.heap.size, 1, none⟩ (.slice A n c)).setCell ⟨w.heap.size, 2, none⟩ (.string y)).setCell ⟨w.heap.size, 3, none⟩ (.int .i64 d)) = w2 at h2 ⊢
  clear h1 z0 z1 z2 z3 c0 c1 c2 c3
  have q0 := ru_str h2.drew
  go_region_held (fun w' => (w'.cell? ⟨w.heap.size, 0, none⟩ = some (.int .i64 k) ∧ w'.cell? ⟨w.heap.size, 1, none⟩ = some (.slice A n c) ∧ w'.cell? ⟨w.heap.size, 2, none⟩ = some (.string y) ∧ w'.cell? ⟨w.heap.size, 3, none⟩ = some (.int .i64 d)) ∧ Held w 24 #[.int .i64 k, .slice A n c, .string y, .int .i64 d] w')
    (first | exact q0 | assumption | exact ru_on (by assumption) hq)
    (first
      | (go_at_call 16; ((with_reducible refine (fixed_any _).mono ?_); rintro e w' ⟨rfl, hq⟩))
      | (go_at_call 17; ((with_reducible refine (H17.out _ (ru_below (by assumption))).mono ?_); rintro e w' ⟨rfl, hq⟩))
      | (go_at_call 18; ((with_reducible refine (H18.out _ (ru_below (by assumption))).mono ?_); rintro e w' ⟨rfl, hq⟩)))
  all_goals
    rename_i hH
    have hB := hH.2.below
    go_wp2
    go_ret
    exact ⟨rfl, hB⟩
set_option maxRecDepth 100000 in
set_option maxHeartbeats 1600000 in
theorem rssChooses_long (k : Int) (A : Option Addr) (c : Nat) (L : List Int) (x : ByteArray) (d : Int) (n : Nat) (y S : ByteArray) (q v : Int) (s : ByteArray) (es : s.extract 0 1600 = S) (hs : 1600 < s.size) (w : World)
    (AB : ∀ W, Below w.heap.size w W → Calls Try.prog 10 #[.agg #[.int .i64 k, .slice A L.length c, .string x, .int .i64 d]] W fun e w' => e = .returned (.agg #[.int .i64 k, .slice A n c, .string y, .int .i64 d]) ∧ Below W.heap.size W w')
    (A17 : ∀ W, Below w.heap.size w W → Calls Try.prog 17 #[.agg #[.int .i64 k, .slice A n c, .string y, .int .i64 d], .string S, .int .i64 q] W fun e w' => e = .returned (.int .i64 v) ∧ Below W.heap.size W w')
    (A18 : ∀ W, Below w.heap.size w W → Calls Try.prog 18 #[.agg #[.int .i64 k, .slice A n c, .string y, .int .i64 d], .string S, .int .i64 q] W fun e w' => e = .returned (.int .i64 v) ∧ Below W.heap.size W w') :
    Calls Try.prog 4 #[.agg #[.int .i64 k, .slice A L.length c, .string x, .int .i64 d], .string s, .int .i64 q] w fun e w' => e = .returned (.bool true) ∧ Below w.heap.size w w' := by
  have HB := Lib.hid AB
  have H17 := Lib.hid A17
  have H18 := Lib.hid A18
  clear AB A17 A18
  have hs2 : ¬ s.size ≤ 1600 := by omega
  go_enter Try.func4, Try.ntmps4
  go_wp2_with fail
  refine (HB.out _ ((Below.refl _ _).alloc (Nat.le_refl _) _)).mono ?_
  rintro e w1 ⟨rfl, hq⟩
  have h1 := (Held.new w 24 #[.int .i64 k, .slice A L.length c, .string x, .int .i64 d]).next hq
  clear hq
  have z0 := h1.blk.frozen 0
  have z1 := h1.blk.frozen 1
  have z2 := h1.blk.frozen 2
  have z3 := h1.blk.frozen 3
  have c0 := h1.blk.cell 0
  have c1 := h1.blk.cell 1
  have c2 := h1.blk.cell 2
  have c3 := h1.blk.cell 3
  simp only [List.getElem?_toArray, List.getElem?_cons_zero, List.getElem?_cons_succ] at c0 c1 c2 c3
  have h2 := h1.set4 (.int .i64 k) (.slice A n c) (.string y) (.int .i64 d)
  go_wp2_with fail
  generalize ((((w1.setCell ⟨w.heap.size, 0, none⟩ (.int .i64 k)).setCell ⟨w.heap.size, 1, none⟩ (.slice A n c)).setCell ⟨w.heap.size, 2, none⟩ (.string y)).setCell ⟨w.heap.size, 3, none⟩ (.int .i64 d)) = w2 at h2 ⊢
  clear h1 z0 z1 z2 z3 c0 c1 c2 c3
  have q0 := ru_str h2.drew
  go_region_held (fun w' => (w'.cell? ⟨w.heap.size, 0, none⟩ = some (.int .i64 k) ∧ w'.cell? ⟨w.heap.size, 1, none⟩ = some (.slice A n c) ∧ w'.cell? ⟨w.heap.size, 2, none⟩ = some (.string y) ∧ w'.cell? ⟨w.heap.size, 3, none⟩ = some (.int .i64 d)) ∧ Held w 24 #[.int .i64 k, .slice A n c, .string y, .int .i64 d] w')
    (first | exact q0 | assumption | exact ru_on (by assumption) hq)
    (first
      | (go_at_call 16; ((with_reducible refine (fixed_any _).mono ?_); rintro e w' ⟨rfl, hq⟩))
      | (go_at_call 17; ((with_reducible refine (H17.out _ (ru_below (by assumption))).mono ?_); rintro e w' ⟨rfl, hq⟩))
      | (go_at_call 18; ((with_reducible refine (H18.out _ (ru_below (by assumption))).mono ?_); rintro e w' ⟨rfl, hq⟩)))
  all_goals
    rename_i hH
    have hB := hH.2.below
    go_wp2
    go_ret
    exact ⟨rfl, hB⟩
theorem rssChooses_any (k : Int) (A : Option Addr) (c : Nat) (L : List Int) (x : ByteArray) (d : Int) (s : ByteArray) (q : Int) (w : World) (hT : Tin A c L w) (k0 : -9223372036854775808 ≤ k) (k1 : k ≤ 9223372036854775807) :
    Calls Try.prog 4 #[.agg #[.int .i64 k, .slice A L.length c, .string x, .int .i64 d], .string s, .int .i64 q] w fun e w' => e = .returned (.bool true) ∧ Below w.heap.size w w' := by
  have hT1 := fun W (hb : Below w.heap.size w W) => (hT.1.take 300).below hb
  have AB := fun W (hb : Below w.heap.size w W) => bound_any k d A c L x W ⟨hT.1.below hb, hT.2⟩
  have hl : (L.take 300).length ≤ 300 := by rw [List.length_take]; omega
  have C1 := fun (S : ByteArray) W (hb : Below w.heap.size w W) => chs_any k A c (L.take 300) (x.extract 0 60) d S q W (hT1 W hb)
  have C2 := fun (S : ByteArray) W (hb : Below w.heap.size w W) => rchs_any k A c (L.take 300) (x.extract 0 60) d S q W (hT1 W hb) hl k0 k1
  by_cases hs : s.size ≤ 1600
  · exact rssChooses_short k A c L x d _ _ s q _ hs w AB (C1 s) (C2 s)
  · exact rssChooses_long k A c L x d _ _ _ q _ s rfl (by omega) w AB (C1 _) (C2 _)

set_option maxRecDepth 100000 in
theorem rssChooses_lifted (os : Os) (started : os.Started) (H : Type) (enc : TypeId × Value → H) :
    ReturnsInHanded {} Try.checked os 4 .any (Rows.rssChoosesSpec.pre6 enc Try.prog Try.f4 Rows.rssChoosesRow.domain false) (Rows.rssChoosesSpec.post enc Try.prog Try.f4 false true false false) := by
  have e : Try.f4.params.toList = [24, 9, 3] := by rw [Try.params4]
  refine law_of_walk (C := Try.checked) (tb := 4) H enc Try.own started (by kernel_rfl) Try.func4 Try.laidOut rfl rfl Try.underlying4 ?_ ?_
    (ChangeSpec.witness6 (enc := enc) (C := Try.checked) false ⟨#[], #[.agg #[.int .i64 0, .slice none 0 0, .string ByteArray.empty, .int .i64 0], .string ByteArray.empty, .int .i64 0], []⟩ 8 (by kernel_rfl) (by kernel_rfl) (by kernel_rfl) (by kernel_rfl)) ?_
  · rw [e]
    intro t ht
    simp only [List.mem_cons, List.not_mem_nil, or_false] at ht
    rcases ht with rfl | rfl | rfl <;> exact ⟨by kernel_rfl, of_decide_eq_true (by kernel_rfl)⟩
  · intro ds hds
    rw [e] at hds
    match ds, hds with
    | [d0, d1, d2], _ => rfl
  · intro W base args ds p hval0 hA0 hsz0
    have hval : ∀ (j : Nat) t v, Try.f4.params[j]? = some t → args[j]? = some v → Value.okWide Try.prog W .any base t v := hval0
    have hA : DataW.TrodAll enc Try.prog W 0 (fun _ => true) true Try.f4.params.toList args.toList ds p := hA0
    have hsz : (DataW.weightsEach Try.prog Try.f4.params.toList ds).all (· ≤ reachBytes) = true := hsz0
    rw [Try.params4] at hA hval hsz
    obtain ⟨v0, v1, v2, d0, d1, d2, p0, p1, p2, rfl, rfl, rfl, h0, h1, h2⟩ := trodAll_three hA
    obtain ⟨k, A, c, L, x, dv, rfl, hT, hk, hd⟩ := open_rss (hval 0 24 v0 rfl rfl) h0
    obtain ⟨x1, rfl, rfl, rfl, _⟩ := open_string Try.underlying9 (hval 1 9 v1 rfl rfl) h1
    obtain ⟨x2, rfl, rfl, rfl, k2⟩ := open_int Try.underlying3 (hval 2 3 v2 rfl rfl) h2
    have i2 := bounds_i64 k2
    have s1 := sized_string hsz (j := 1) (t := 9) rfl rfl
    simp only [reachBytes] at s1
    exact rssChooses_any k A c L x dv x1 x2 W hT hk.1 hk.2

theorem rssChooses_holds : Rows.RssChoosesSaid :=
  OpenClaim.holds_of_wide 4 Try.f4 rfl rfl rfl rfl rfl rfl rfl ⟨rfl, rfl, rfl, rfl, rfl⟩ rfl rfl rfl rfl rfl (by kernel_rfl) Try.func4 (by kernel_rfl)
    (of_decide_eq_true (by kernel_rfl)) (by unfold Func.isWrapper; first | (rw [if_pos (by decide +kernel)]; kernel_rfl) | (rw [if_neg (by decide +kernel)]; exact ⟨rfl, rfl⟩))
    (fun os started H enc _ => rssChooses_lifted os started H enc)
end Go.Proofs.Ytpjndjmneficbaa
