/-
  For every input the law HashBits returns true, and its arguments read afterwards as before; no condition beyond the form's own reach.
-/
import Derived.Test.YteilbhdenheakaaLaw
import Derived.Test.YteilbhdenheakaaBytes
namespace Go.Proofs.Yteilbhdenheakaa
open Go.Joins Go.ChangeShapes Go.WideShapes Go.ChangeAt Go.RowKit Go.Deep
open Go.ChangeMaps (open_string)


/-- sixteen bytes in which one bit is 1 -/
def oneL (X : Nat) : List UInt8 := (List.replicate 16 0).set (X / 8) (UInt8.ofNat (128 / 2 ^ (X % 8)))
def oneT (X : Nat) : ByteArray := ⟨(oneL X).toArray⟩
theorem oneT_bit : ∀ (X i : Fin 128), bitB (oneT X.val) i.val = decide (i = X) := by decide +kernel
theorem oneT_size (X : Nat) : (oneT X).size = 16 := by
  show (oneL X).toArray.size = 16
  simp [oneL]
theorem hash_one (key : ByteArray) (X : Nat) (hX : X < 128) : hashV key (oneT X) = win key X := by
  unfold hashV
  rw [oneT_size]
  refine hashN_one (fun n => win key n) (bitB (oneT X)) (8 * 16) X (by omega) ?_ ?_
  · have := oneT_bit ⟨X, hX⟩ ⟨X, hX⟩
    simpa using this
  · intro i hi hne
    have := oneT_bit ⟨X, hX⟩ ⟨i, by omega⟩
    rw [this]
    simp [hne]
theorem win_more (key more : ByteArray) (X : Nat) (hX : X < 128) (hk : 20 ≤ key.size) : win (key ++ more) X = win key X := by
  have hb : ∀ j : Nat, j < 20 → byteZ (key ++ more) j = byteZ key j := by
    intro j hj
    rw [byteZ_in key j (by omega), byteZ_in (key ++ more) j (by simp; omega)]
    congr 1
    exact ByteArray.getElem_append_left (by omega)
  unfold win
  have e : (X : Int) / 8 = ((X / 8 : Nat) : Int) := by omega
  have e2 : ∀ i : Nat, ((X / 8 : Nat) : Int) + i = ((X / 8 + i : Nat) : Int) := by intro i; omega
  rw [e]
  simp only [five]
  rw [e2, e2, e2, e2, e2, hb _ (by omega), hb _ (by omega), hb _ (by omega), hb _ (by omega), hb _ (by omega)]
theorem made_bit {w w1 : World} (X : Nat) (hX : X < 128)
    (h : w1.ownsRow w.heap.size 5 1 (.slice (some ⟨w.heap.size, 0, none⟩) 16 16) 16 (madeCells (Value.cells (.int .u8 0)) (16 * 1)).toList) (hg : w.grownBy w1 none) :
    w1.cell? ⟨w.heap.size, X / 8, none⟩ = some (.int .u8 0) ∧ w1.frozen? ⟨w.heap.size, X / 8, none⟩ = false ∧
    (convert 29 9 (.slice (some ⟨w.heap.size, 0, none⟩) 16 16)).run Try.prog (w1.setCell ⟨w.heap.size, X / 8, none⟩ (.int .u8 (128 / 2 ^ (X % 8)))) = .ok (.string (oneT X)) (w1.setCell ⟨w.heap.size, X / 8, none⟩ (.int .u8 (128 / 2 ^ (X % 8)))) ∧
    Below w.heap.size w (w1.setCell ⟨w.heap.size, X / 8, none⟩ (.int .u8 (128 / 2 ^ (X % 8)))) ∧
    (∀ w2, Below (w1.setCell ⟨w.heap.size, X / 8, none⟩ (.int .u8 (128 / 2 ^ (X % 8)))).heap.size (w1.setCell ⟨w.heap.size, X / 8, none⟩ (.int .u8 (128 / 2 ^ (X % 8)))) w2 →
      (convert 29 9 (.slice (some ⟨w.heap.size, 0, none⟩) 16 16)).run Try.prog w2 = .ok (.string (oneT X)) w2) := by
  have hr := Row.zero h
  have hb0 : Below w.heap.size w w1 := (Below.refl _ _).grown hg (Nat.le_refl _) (by simp)
  have hv : byteV (UInt8.ofNat (128 / 2 ^ (X % 8))) = .int .u8 (128 / 2 ^ (X % 8)) := by
    have ht : X % 8 < 8 := by omega
    generalize X % 8 = t at ht
    have : t = 0 ∨ t = 1 ∨ t = 2 ∨ t = 3 ∨ t = 4 ∨ t = 5 ∨ t = 6 ∨ t = 7 := by omega
    rcases this with rfl | rfl | rfl | rfl | rfl | rfl | rfl | rfl <;> rfl
  have hs := hr.set (X / 8) (UInt8.ofNat (128 / 2 ^ (X % 8)))
  have hbs := hr.below hb0 (X / 8) (UInt8.ofNat (128 / 2 ^ (X % 8)))
  rw [hv] at hs hbs
  have hl : (oneL X).length = 16 := by simp [oneL]
  have hlt := hs.lt (by simp)
  have ht := hs.cells.text 16
  have e : ((List.replicate 16 (0 : UInt8)).set (X / 8) (UInt8.ofNat (128 / 2 ^ (X % 8)))).length = 16 := by simp
  rw [e] at ht
  refine ⟨?_, hr.free _, ht, hbs, fun w2 hb2 => ?_⟩
  · rw [hr.cell (X / 8) (by rw [List.length_replicate]; omega), List.getElem_replicate]; rfl
  · have ht2 := (hs.cells.kept hb2 hlt).text 16
    rw [e] at ht2
    exact ht2

set_option maxHeartbeats 1600000 in
theorem hashBits_any (key more : ByteArray) (bit : Int) (w : World) (hk : key.size ≤ 140737488351232) (hm : more.size ≤ 140737488351232) :
    Calls Try.prog 6 #[.string key, .int .i64 bit, .string more] w fun e w' => e = .returned (.bool true) ∧ Below w.heap.size w w' := by
  obtain ⟨X, hX, eX⟩ : ∃ X : Nat, X < 128 ∧ bits .and .i64 bit 127 = (X : Int) := ⟨(bit % 128).toNat, by omega, by rw [i64_and127]; omega⟩
  obtain ⟨i0, hi, hz0, hz1, hz2⟩ := info_parts Try.info5
  have HI := Lib.hid hi
  have HZ0 := Lib.hid hz0
  have HZ1 := Lib.hid hz1
  have HZ2 := Lib.hid hz2
  clear hi hz0 hz1 hz2
  by_cases c0 : key.size < 4 ∨ 52 < key.size
  · skip
    have g7 : ∀ w, Calls Try.prog 7 #[.string key, .string (oneT X)] w fun e w' => e = .returned (.tuple #[.int .u32 0, .int .i64 30]) ∧ Below w.heap.size w w' := fun w => by
      have := hash_any key (oneT X) w
      rwa [hashE, if_pos (by omega)] at this
    have G7 := Lib.hid g7
    clear g7
    go_enter Try.func6, Try.ntmps6
    go_wp2_with (first
      | (at_make; refine wpList_make_full _ rfl _ _ 29 rfl w.heap.size 5 i0 (.int .u8 0) 1 Try.underlying29 HI.out HZ0.out HZ1.out .i64 .i64 16 16 16 rfl rfl rfl rfl (by rw [HZ2.out]; omega) (by unfold maxLen; omega) (Nat.le_refl _) ?_; intro w1 hrow hgrow; have HM := made_bit X hX hrow hgrow; clear hrow hgrow; obtain ⟨hcell, hfree, hcv, hCb, hcells⟩ := HM; have HCb := Lib.hid hCb; have HCe := Lib.hid hcells; clear hCb hcells)
      | (go_at_call 9; refine (fixed_any _).mono ?_; rintro e w9 ⟨rfl, hq⟩; (first | replace hB := bl hB hq | replace hB := bl (bla hB _) hq); clear hq)
      | (go_at_call 10; refine (window_any key (X : Int) _ (by omega) (by omega)).mono ?_; rintro e w1 ⟨rfl, rfl⟩)
      | (go_at_call 7; ((with_reducible refine (G7.out _).mono ?_); rintro e w2 ⟨rfl, hq⟩; have hcv2 := HCe.out _ hq; have hB := bl HCb.out hq; clear hq hcv hcell hfree)))
    all_goals (go_ret; exact ⟨rfl, hB⟩)
  · obtain ⟨c1, c2⟩ : 4 ≤ key.size ∧ key.size ≤ 52 := by omega
    clear c0
    by_cases c3 : 20 ≤ key.size ∧ key.size + more.size ≤ 52
    · obtain ⟨c4, c5⟩ := c3
      have g7 : ∀ w, Calls Try.prog 7 #[.string key, .string (oneT X)] w fun e w' => e = .returned (.tuple #[.int .u32 (win key X), .int .i64 0]) ∧ Below w.heap.size w w' := fun w => by
        have := hash_any key (oneT X) w
        rwa [hashE, if_neg (by omega), hash_one key X hX] at this
      have g8 : ∀ w, Calls Try.prog 7 #[.string (key ++ more), .string (oneT X)] w fun e w' => e = .returned (.tuple #[.int .u32 (win key X), .int .i64 0]) ∧ Below w.heap.size w w' := fun w => by
        have hz : (key ++ more).size = key.size + more.size := by simp
        have := hash_any (key ++ more) (oneT X) w
        rwa [hashE, if_neg (by omega), hash_one _ X hX, win_more key more X hX (by omega)] at this
      have G8 := Lib.hid g8
      have hnb : ¬ 9223372036854775807 < key.size + more.size := by omega
      clear g8
      have G7 := Lib.hid g7
      clear g7
      go_enter Try.func6, Try.ntmps6
      go_wp2_with (first
        | (at_make; refine wpList_make_full _ rfl _ _ 29 rfl w.heap.size 5 i0 (.int .u8 0) 1 Try.underlying29 HI.out HZ0.out HZ1.out .i64 .i64 16 16 16 rfl rfl rfl rfl (by rw [HZ2.out]; omega) (by unfold maxLen; omega) (Nat.le_refl _) ?_; intro w1 hrow hgrow; have HM := made_bit X hX hrow hgrow; clear hrow hgrow; obtain ⟨hcell, hfree, hcv, hCb, hcells⟩ := HM; have HCb := Lib.hid hCb; have HCe := Lib.hid hcells; clear hCb hcells)
        | (go_at_call 9; refine (fixed_any _).mono ?_; rintro e w9 ⟨rfl, hq⟩; (first | replace hB := bl hB hq | replace hB := bl (bla hB _) hq); clear hq)
        | (go_at_call 10; refine (window_any key (X : Int) _ (by omega) (by omega)).mono ?_; rintro e w1 ⟨rfl, rfl⟩)
        | (go_at_call 7; ((with_reducible refine (G7.out _).mono ?_); rintro e w2 ⟨rfl, hq⟩; have hcv2 := HCe.out _ hq; have hB := bl HCb.out hq; clear hq hcv hcell hfree))
        | (go_at_call 7; ((with_reducible refine (G8.out _).mono ?_); rintro e w2 ⟨rfl, hq⟩; replace hB := bl hB hq; clear hq hcv2)))
      all_goals (go_ret; exact ⟨rfl, hB⟩)
    · skip
      have g7 : ∀ w, Calls Try.prog 7 #[.string key, .string (oneT X)] w fun e w' => e = .returned (.tuple #[.int .u32 (win key X), .int .i64 0]) ∧ Below w.heap.size w w' := fun w => by
        have := hash_any key (oneT X) w
        rwa [hashE, if_neg (by omega), hash_one key X hX] at this
      have G7 := Lib.hid g7
      clear g7
      go_enter Try.func6, Try.ntmps6
      go_wp2_with (first
        | (at_make; refine wpList_make_full _ rfl _ _ 29 rfl w.heap.size 5 i0 (.int .u8 0) 1 Try.underlying29 HI.out HZ0.out HZ1.out .i64 .i64 16 16 16 rfl rfl rfl rfl (by rw [HZ2.out]; omega) (by unfold maxLen; omega) (Nat.le_refl _) ?_; intro w1 hrow hgrow; have HM := made_bit X hX hrow hgrow; clear hrow hgrow; obtain ⟨hcell, hfree, hcv, hCb, hcells⟩ := HM; have HCb := Lib.hid hCb; have HCe := Lib.hid hcells; clear hCb hcells)
        | (go_at_call 9; refine (fixed_any _).mono ?_; rintro e w9 ⟨rfl, hq⟩; (first | replace hB := bl hB hq | replace hB := bl (bla hB _) hq); clear hq)
        | (go_at_call 10; refine (window_any key (X : Int) _ (by omega) (by omega)).mono ?_; rintro e w1 ⟨rfl, rfl⟩)
        | (go_at_call 7; ((with_reducible refine (G7.out _).mono ?_); rintro e w2 ⟨rfl, hq⟩; have hcv2 := HCe.out _ hq; have hB := bl HCb.out hq; clear hq hcv hcell hfree)))
      all_goals (go_ret; exact ⟨rfl, hB⟩)

set_option maxRecDepth 100000 in
theorem hashBits_lifted (os : Os) (started : os.Started) (H : Type) (enc : TypeId × Value → H) :
    ReturnsInHanded {} Try.checked os 6 .any (Rows.hashBitsSpec.pre6 enc Try.prog Try.f6 Rows.hashBitsRow.domain false) (Rows.hashBitsSpec.post enc Try.prog Try.f6 false true false false) := by
  have e : Try.f6.params.toList = [9, 3, 9] := by rw [Try.params6]
  refine law_of_walk (C := Try.checked) (tb := 4) H enc Try.own started (by kernel_rfl) Try.func6 Try.laidOut rfl rfl Try.underlying4 ?_ ?_
    (ChangeSpec.witness6 (enc := enc) (C := Try.checked) false ⟨#[], #[.string ByteArray.empty, .int .i64 0, .string ByteArray.empty], []⟩ 8 (by kernel_rfl) (by kernel_rfl) (by kernel_rfl) (by kernel_rfl)) ?_
  · rw [e]
    intro t ht
    simp only [List.mem_cons, List.not_mem_nil, or_false] at ht
    rcases ht with rfl | rfl | rfl <;> exact ⟨by kernel_rfl, of_decide_eq_true (by kernel_rfl)⟩
  · intro ds hds
    rw [e] at hds
    match ds, hds with
    | [d0, d1, d2], _ => rfl
  · intro W base args ds p hval0 hA0 hsz0
    have hval : ∀ (j : Nat) t v, Try.f6.params[j]? = some t → args[j]? = some v → Value.okWide Try.prog W .any base t v := hval0
    have hA : DataW.TrodAll enc Try.prog W 0 (fun _ => true) true Try.f6.params.toList args.toList ds p := hA0
    have hsz : (DataW.weightsEach Try.prog Try.f6.params.toList ds).all (· ≤ reachBytes) = true := hsz0
    rw [Try.params6] at hA hval hsz
    obtain ⟨v0, v1, v2, d0, d1, d2, p0, p1, p2, rfl, rfl, rfl, h0, h1, h2⟩ := trodAll_three hA
    obtain ⟨x0, rfl, rfl, rfl, _⟩ := open_string Try.underlying9 (hval 0 9 v0 rfl rfl) h0
    obtain ⟨x1, rfl, rfl, rfl, k1⟩ := open_int Try.underlying3 (hval 1 3 v1 rfl rfl) h1
    have b1 := bounds_i64 k1
    obtain ⟨x2, rfl, rfl, rfl, _⟩ := open_string Try.underlying9 (hval 2 9 v2 rfl rfl) h2
    have s0 := sized_string hsz (j := 0) (t := 9) rfl rfl
    have s2 := sized_string hsz (j := 2) (t := 9) rfl rfl
    simp only [reachBytes] at s0 s2
    exact hashBits_any x0 x2 x1 W s0 s2

theorem hashBits_holds : Rows.HashBitsSaid :=
  OpenClaim.holds_of_wide 6 Try.f6 rfl rfl rfl rfl rfl rfl rfl ⟨rfl, rfl, rfl, rfl, rfl⟩ rfl rfl rfl rfl rfl (by kernel_rfl) Try.func6 (by kernel_rfl)
    (of_decide_eq_true (by kernel_rfl)) (by unfold Func.isWrapper; first | (rw [if_pos (by decide +kernel)]; kernel_rfl) | (rw [if_neg (by decide +kernel)]; exact ⟨rfl, rfl⟩))
    (fun os started H enc _ => hashBits_lifted os started H enc)
end Go.Proofs.Yteilbhdenheakaa
