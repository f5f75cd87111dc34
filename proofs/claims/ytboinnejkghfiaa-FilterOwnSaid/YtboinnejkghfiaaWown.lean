/-
  FilterOwn: a filter with an address of its own and nothing else admits frames to it and to all, and none to others.
-/
import Derived.Test.YtboinnejkghfiaaFx
namespace Go.Proofs.Ytboinnejkghfiaa
open Go.Joins Go.ChangeShapes Go.WideShapes Go.ChangeAt Go.RowKit Go.Deep
open Go.ChangeMaps (open_string)

def ownF (mac : ByteArray) : Fl := ⟨mac, false, false, false, false, false, false, none, [], 0, none, [], 0, false, none, [], 0⟩
theorem lst_append (a b : ByteArray) : (a ++ b).data.toList = a.data.toList ++ b.data.toList := by simp
theorem byte_at (S : ByteArray) (l r : List UInt8) (x : UInt8) (n : Nat) (h : S.data.toList = l ++ x :: r) (hl : l.length = n) (hn : n < S.size) : S[n] = x := by
  have e : S[n] = S.data.toList[n]'(by simpa using hn) := rfl
  rw [e]
  subst hl
  simp [h]
theorem cut_head (S : ByteArray) (l r : List UInt8) (a : ByteArray) (h : S.data.toList = l ++ r) (ha : a.data.toList = l) (n : Nat) (hl : l.length = n) : S.extract 0 n = a := by
  apply ByteArray.ext
  apply Array.toList_inj.1
  rw [ByteArray.data_extract, Array.toList_extract, h, ha]
  subst hl
  simp
theorem own_parse (a b y : ByteArray) (ha : a.size = 6) (hb : b.size = 6) (hy : y.size ≤ 1400) : parseE (fram a b ++ y) = 0 ∧ (parseF (fram a b ++ y)).d = a ∧ (parseF (fram a b ++ y)).v = -1 := by
  have la : a.data.toList.length = 6 := ha
  have lb : b.data.toList.length = 6 := hb
  have hl : (fram a b ++ y).data.toList = a.data.toList ++ b.data.toList ++ [8, 0] ++ y.data.toList := by
    rw [fram, lst_append, lst_append, lst_append]
  have hs : (fram a b ++ y).size = 14 + y.size := by
    have := congrArg List.length hl
    have e1 : (fram a b ++ y).data.toList.length = (fram a b ++ y).size := rfl
    have e2 : y.data.toList.length = y.size := rfl
    rw [e1, List.length_append, List.length_append, List.length_append, la, lb, e2] at this
    simpa using this
  generalize fram a b ++ y = S at *
  have h12 : S[12]'(by omega) = 8 := byte_at S (a.data.toList ++ b.data.toList) (0 :: y.data.toList) 8 12 (by rw [hl]; simp) (by rw [List.length_append, la, lb]) _
  have h13 : S[12 + 1]'(by omega) = 0 := byte_at S (a.data.toList ++ b.data.toList ++ [8]) y.data.toList 0 13 (by rw [hl]; simp) (by rw [List.length_append, List.length_append, la, lb]; rfl) (by omega)
  have hn : num S 12 = 2048 := by rw [num_is S 12 (by omega), h12, h13]; rfl
  have hF := readF_plain (s := S) (by omega) (by rw [hn]; decide)
  have hE : readE S = 0 := by rw [readE, if_neg (by rw [hn]; omega)]
  have hc : S.extract 0 6 = a := cut_head S a.data.toList (b.data.toList ++ [8, 0] ++ y.data.toList) a (by rw [hl]; simp) rfl 6 la
  have hB : frameB (readF S) = true := by
    rw [hF, frameB, decide_eq_true_eq]
    refine ⟨cut_size (by omega), cut_size (by omega), rfl, ?_⟩
    show kindB (num S 12) = true
    rw [hn]; rfl
  have hp := parse_in (s := S) (by omega) hE hB
  refine ⟨hp.1, ?_, ?_⟩
  · rw [hp.2, hF]; exact hc
  · rw [hp.2, hF]
theorem own_adm (mac d b y : ByteArray) (hd : d.size = 6) (hb : b.size = 6) (hy : y.size ≤ 1400) : adB (ownF mac) (fram d b ++ y) = adD (ownF mac) d := by
  obtain ⟨h1, h2, h3⟩ := own_parse d b y hd hb hy
  rw [adB, if_pos h1, h2, h3]
  rfl
theorem kind_six {a : ByteArray} (h : kindV a = 1) : a.size = 6 ∧ a ≠ ⟨#[255, 255, 255, 255, 255, 255]⟩ := by
  unfold kindV at h
  split at h
  · cases h
  · split at h
    · cases h
    · exact ⟨by omega, by assumption⟩
theorem own_mac {mac : ByteArray} (h : kindV mac = 1) : adD (ownF mac) mac = true := by
  rw [adD, if_neg (by rw [h]; decide), if_neg (by rw [h]; decide), if_pos h]
  simp [ownF]
theorem own_all (mac : ByteArray) : adD (ownF mac) ⟨#[255, 255, 255, 255, 255, 255]⟩ = true := by
  rw [adD, if_pos (by decide +kernel)]
  rfl
theorem own_not {mac d : ByteArray} (h1 : d ≠ mac) (h2 : d ≠ ⟨#[255, 255, 255, 255, 255, 255]⟩) : adD (ownF mac) d = false := by
  have h3 : kindV d ≠ 3 := by
    unfold kindV
    split
    · decide
    · split <;> decide
  unfold adD
  rw [if_neg h3]
  split
  · rfl
  · split
    · show (false || (true && (decide (d = mac) || false))) = false
      rw [decide_eq_false h1]; rfl
    · rfl
set_option maxRecDepth 100000 in
set_option maxHeartbeats 4000000 in
theorem own_walk_a (mac body y p1 p2 p3 : ByteArray) (w : World) (hy : body.extract 0 (min body.size 1400) = y) (hys : y.size ≤ 1400) (ho : (mac : ByteArray).size = 6) (q1 : p1.size ≤ 14) (q2 : p2.size ≤ 14) (q3 : p3.size ≤ 14) 
    (A0 : ∀ W, Calls Try.prog 11 #[.agg #[.string mac, .bool false, .bool false, .bool false, .bool false, .bool false, .bool false, .slice none 0 0, .slice none 0 0, .bool false, .slice none 0 0]] W fun e w' => e = .returned (.int .i64 0) ∧ Below W.heap.size W w')
    (F1 : ∀ W : World, Calls Try.prog 20 #[.string mac, .string mac] W fun e w' => e = .returned (.string p1) ∧ W = w')
    (F2 : ∀ W : World, Calls Try.prog 20 #[.string ⟨#[255, 255, 255, 255, 255, 255]⟩, .string mac] W fun e w' => e = .returned (.string p2) ∧ W = w')
    (F3 : ∀ W : World, Calls Try.prog 20 #[.string mac, .string mac] W fun e w' => e = .returned (.string p3) ∧ W = w')
    (A1 : ∀ W, Vs w [(w.heap.size, ownF mac)] W → Calls Try.prog 13 #[.agg #[.string mac, .bool false, .bool false, .bool false, .bool false, .bool false, .bool false, .slice none 0 0, .slice none 0 0, .bool false, .slice none 0 0], .string (p1 ++ y)] W fun e w' => e = .returned (.bool true) ∧ Below W.heap.size W w')
    (A2 : ∀ W, Vs w [(w.heap.size, ownF mac)] W → Calls Try.prog 13 #[.agg #[.string mac, .bool false, .bool false, .bool false, .bool false, .bool false, .bool false, .slice none 0 0, .slice none 0 0, .bool false, .slice none 0 0], .string (p2 ++ y)] W fun e w' => e = .returned (.bool true) ∧ Below W.heap.size W w')
    (A3 : ∀ W, Vs w [(w.heap.size, ownF mac)] W → Calls Try.prog 13 #[.agg #[.string mac, .bool false, .bool false, .bool false, .bool false, .bool false, .bool false, .slice none 0 0, .slice none 0 0, .bool false, .slice none 0 0], .string (p3 ++ y)] W fun e w' => e = .returned (.bool true) ∧ Below W.heap.size W w') :
    Calls Try.prog 8 #[.string mac, .string mac, .string body] w fun e w' => e = .returned (.bool true) ∧ Below w.heap.size w w' := by
  have H0 := Lib.hid A0
  have R1 := Lib.hid F1
  have R2 := Lib.hid F2
  have R3 := Lib.hid F3
  have D1 := Lib.hid A1
  have D2 := Lib.hid A2
  have D3 := Lib.hid A3
  clear A0 A1 A2 A3 F1 F2 F3
  have b1 : (0 : Int) ≤ min (body.size : Int) 1400 := by omega
  have b2 : min (body.size : Int) 1400 ≤ body.size := by omega
  have b3 : (min (body.size : Int) 1400).toNat = min body.size 1400 := by omega
  have b4 : min body.size 1400 ≤ body.size := by omega
  have s1 : p1.size + y.size ≤ 100000 := by omega
  have s2 : p2.size + y.size ≤ 100000 := by omega
  have s3 : p3.size + y.size ≤ 100000 := by omega
  have hz : ((mac : ByteArray).size : Int) = 6 := by omega
  have hv0 : Vs w [(w.heap.size, ownF mac)] (w.alloc (.cells #[.string mac, .bool false, .bool false, .bool false, .bool false, .bool false, .bool false, .slice none 0 0, .slice none 0 0, .bool false, .slice none 0 0] 25)) := by
    have h0 : Vs w [] w := ⟨b0 w, by simp, by simp⟩
    exact h0.new (nil_at rfl rfl rfl _ _) (nil_few rfl rfl rfl) (by simp)
  have HV0 := Lib.hid hv0
  clear hv0 hys q1 q2 q3
  go_enter Try.func8, Try.ntmps8
  go_wp2_with fail
  refine (H0.out _).mono ?_
  rintro e w1 ⟨rfl, hq⟩
  have hv := HV0.out.next hq
  clear hq HV0
  go_wp2_with fail
  refine region_class (Vs w [(w.heap.size, ownF mac)]) (by kernel_rfl) (by kernel_rfl) hv.drew ?_
  repeat (first
      | go_big_quiet_skip
      | (go_big_quiet_want; go_big_quiet_op; first
        | go_big_quiet_on
        | (refine ⟨_, fun _ _ => rfl, ?_⟩; go_big_quiet_on)
        | (apply Exists.intro; refine ⟨?_, ?_⟩; · (intro wq hC; first | (go_at_call 10; (with_reducible refine (fixed_any _).mono ?_); exact fun e w' h => ⟨h.1, hC.next h.2⟩) | (go_at_call 20; (with_reducible refine (R1.out _).mono ?_); exact fun e w' h => ⟨h.1, h.2 ▸ hC⟩) | (go_at_call 20; (with_reducible refine (R2.out _).mono ?_); exact fun e w' h => ⟨h.1, h.2 ▸ hC⟩) | (go_at_call 20; (with_reducible refine (R3.out _).mono ?_); exact fun e w' h => ⟨h.1, h.2 ▸ hC⟩) | (go_at_call 13; (with_reducible refine (D1.out _ hC).mono ?_); exact fun e w' h => ⟨h.1, hC.next h.2⟩) | (go_at_call 13; (with_reducible refine (D2.out _ hC).mono ?_); exact fun e w' h => ⟨h.1, hC.next h.2⟩) | (go_at_call 13; (with_reducible refine (D3.out _ hC).mono ?_); exact fun e w' h => ⟨h.1, hC.next h.2⟩))
           go_big_quiet_on)
        | (refine ⟨.agg #[.string mac, .bool false, .bool false, .bool false, .bool false, .bool false, .bool false, .slice none 0 0, .slice none 0 0, .bool false, .slice none 0 0], fun wq hC => ?_, ?_⟩; · (have k := hC.get (show (w.heap.size, ownF mac) ∈ _ by simp); have c0 := k.cell 0; have c1 := k.cell 1; have c2 := k.cell 2; have c3 := k.cell 3; have c4 := k.cell 4; have c5 := k.cell 5; have c6 := k.cell 6; have c7 := k.cell 7; have c8 := k.cell 8; have c9 := k.cell 9; have c10 := k.cell 10; simp only [Fl.cells, ownF, List.length_nil, List.getElem?_toArray, List.getElem?_cons_zero, List.getElem?_cons_succ] at c0 c1 c2 c3 c4 c5 c6 c7 c8 c9 c10; simp [c0, c1, c2, c3, c4, c5, c6, c7, c8, c9, c10]; done)
           go_big_quiet_on)))
  refine wpQuiet_nil ?_
  intro w9 hM
  go_wp2
  go_ret
  exact ⟨by first | rfl | simp, hM.below⟩
set_option maxRecDepth 100000 in
set_option maxHeartbeats 4000000 in
theorem own_walk_b (mac body y p1 p2 p3 : ByteArray) (w : World) (hy : body.extract 0 (min body.size 1400) = y) (hys : y.size ≤ 1400) (ho : (⟨#[255, 255, 255, 255, 255, 255]⟩ : ByteArray).size = 6) (q1 : p1.size ≤ 14) (q2 : p2.size ≤ 14) (q3 : p3.size ≤ 14) (hne : (([255, 255, 255, 255, 255, 255] : List UInt8) == mac.toList) = false)
    (A0 : ∀ W, Calls Try.prog 11 #[.agg #[.string mac, .bool false, .bool false, .bool false, .bool false, .bool false, .bool false, .slice none 0 0, .slice none 0 0, .bool false, .slice none 0 0]] W fun e w' => e = .returned (.int .i64 0) ∧ Below W.heap.size W w')
    (F1 : ∀ W : World, Calls Try.prog 20 #[.string mac, .string ⟨#[255, 255, 255, 255, 255, 255]⟩] W fun e w' => e = .returned (.string p1) ∧ W = w')
    (F2 : ∀ W : World, Calls Try.prog 20 #[.string ⟨#[255, 255, 255, 255, 255, 255]⟩, .string ⟨#[255, 255, 255, 255, 255, 255]⟩] W fun e w' => e = .returned (.string p2) ∧ W = w')
    (F3 : ∀ W : World, Calls Try.prog 20 #[.string ⟨#[255, 255, 255, 255, 255, 255]⟩, .string mac] W fun e w' => e = .returned (.string p3) ∧ W = w')
    (A1 : ∀ W, Vs w [(w.heap.size, ownF mac)] W → Calls Try.prog 13 #[.agg #[.string mac, .bool false, .bool false, .bool false, .bool false, .bool false, .bool false, .slice none 0 0, .slice none 0 0, .bool false, .slice none 0 0], .string (p1 ++ y)] W fun e w' => e = .returned (.bool true) ∧ Below W.heap.size W w')
    (A2 : ∀ W, Vs w [(w.heap.size, ownF mac)] W → Calls Try.prog 13 #[.agg #[.string mac, .bool false, .bool false, .bool false, .bool false, .bool false, .bool false, .slice none 0 0, .slice none 0 0, .bool false, .slice none 0 0], .string (p2 ++ y)] W fun e w' => e = .returned (.bool true) ∧ Below W.heap.size W w')
    (A3 : ∀ W, Vs w [(w.heap.size, ownF mac)] W → Calls Try.prog 13 #[.agg #[.string mac, .bool false, .bool false, .bool false, .bool false, .bool false, .bool false, .slice none 0 0, .slice none 0 0, .bool false, .slice none 0 0], .string (p3 ++ y)] W fun e w' => e = .returned (.bool true) ∧ Below W.heap.size W w') :
    Calls Try.prog 8 #[.string mac, .string ⟨#[255, 255, 255, 255, 255, 255]⟩, .string body] w fun e w' => e = .returned (.bool true) ∧ Below w.heap.size w w' := by
  have H0 := Lib.hid A0
  have R1 := Lib.hid F1
  have R2 := Lib.hid F2
  have R3 := Lib.hid F3
  have D1 := Lib.hid A1
  have D2 := Lib.hid A2
  have D3 := Lib.hid A3
  clear A0 A1 A2 A3 F1 F2 F3
  have b1 : (0 : Int) ≤ min (body.size : Int) 1400 := by omega
  have b2 : min (body.size : Int) 1400 ≤ body.size := by omega
  have b3 : (min (body.size : Int) 1400).toNat = min body.size 1400 := by omega
  have b4 : min body.size 1400 ≤ body.size := by omega
  have s1 : p1.size + y.size ≤ 100000 := by omega
  have s2 : p2.size + y.size ≤ 100000 := by omega
  have s3 : p3.size + y.size ≤ 100000 := by omega
  have hz : ((⟨#[255, 255, 255, 255, 255, 255]⟩ : ByteArray).size : Int) = 6 := by omega
  have hv0 : Vs w [(w.heap.size, ownF mac)] (w.alloc (.cells #[.string mac, .bool false, .bool false, .bool false, .bool false, .bool false, .bool false, .slice none 0 0, .slice none 0 0, .bool false, .slice none 0 0] 25)) := by
    have h0 : Vs w [] w := ⟨b0 w, by simp, by simp⟩
    exact h0.new (nil_at rfl rfl rfl _ _) (nil_few rfl rfl rfl) (by simp)
  have HV0 := Lib.hid hv0
  clear hv0 hys q1 q2 q3
  go_enter Try.func8, Try.ntmps8
  go_wp2_with fail
  refine (H0.out _).mono ?_
  rintro e w1 ⟨rfl, hq⟩
  have hv := HV0.out.next hq
  clear hq HV0
  go_wp2_with fail
  refine region_class (Vs w [(w.heap.size, ownF mac)]) (by kernel_rfl) (by kernel_rfl) hv.drew ?_
  repeat (first
      | go_big_quiet_skip
      | (go_big_quiet_want; go_big_quiet_op; first
        | go_big_quiet_on
        | (refine ⟨_, fun _ _ => rfl, ?_⟩; go_big_quiet_on)
        | (apply Exists.intro; refine ⟨?_, ?_⟩; · (intro wq hC; first | (go_at_call 10; (with_reducible refine (fixed_any _).mono ?_); exact fun e w' h => ⟨h.1, hC.next h.2⟩) | (go_at_call 20; (with_reducible refine (R1.out _).mono ?_); exact fun e w' h => ⟨h.1, h.2 ▸ hC⟩) | (go_at_call 20; (with_reducible refine (R2.out _).mono ?_); exact fun e w' h => ⟨h.1, h.2 ▸ hC⟩) | (go_at_call 20; (with_reducible refine (R3.out _).mono ?_); exact fun e w' h => ⟨h.1, h.2 ▸ hC⟩) | (go_at_call 13; (with_reducible refine (D1.out _ hC).mono ?_); exact fun e w' h => ⟨h.1, hC.next h.2⟩) | (go_at_call 13; (with_reducible refine (D2.out _ hC).mono ?_); exact fun e w' h => ⟨h.1, hC.next h.2⟩) | (go_at_call 13; (with_reducible refine (D3.out _ hC).mono ?_); exact fun e w' h => ⟨h.1, hC.next h.2⟩))
           go_big_quiet_on)
        | (refine ⟨.agg #[.string mac, .bool false, .bool false, .bool false, .bool false, .bool false, .bool false, .slice none 0 0, .slice none 0 0, .bool false, .slice none 0 0], fun wq hC => ?_, ?_⟩; · (have k := hC.get (show (w.heap.size, ownF mac) ∈ _ by simp); have c0 := k.cell 0; have c1 := k.cell 1; have c2 := k.cell 2; have c3 := k.cell 3; have c4 := k.cell 4; have c5 := k.cell 5; have c6 := k.cell 6; have c7 := k.cell 7; have c8 := k.cell 8; have c9 := k.cell 9; have c10 := k.cell 10; simp only [Fl.cells, ownF, List.length_nil, List.getElem?_toArray, List.getElem?_cons_zero, List.getElem?_cons_succ] at c0 c1 c2 c3 c4 c5 c6 c7 c8 c9 c10; simp [c0, c1, c2, c3, c4, c5, c6, c7, c8, c9, c10]; done)
           go_big_quiet_on)))
  refine wpQuiet_nil ?_
  intro w9 hM
  go_wp2
  go_ret
  exact ⟨by first | rfl | simp, hM.below⟩
set_option maxRecDepth 100000 in
set_option maxHeartbeats 4000000 in
theorem own_walk_c (mac other body y p1 p2 p3 : ByteArray) (w : World) (hy : body.extract 0 (min body.size 1400) = y) (hys : y.size ≤ 1400) (ho : (other : ByteArray).size = 6) (q1 : p1.size ≤ 14) (q2 : p2.size ≤ 14) (q3 : p3.size ≤ 14) (hne : (other.toList == mac.toList) = false) (hna : (other.toList == ([255, 255, 255, 255, 255, 255] : List UInt8)) = false)
    (A0 : ∀ W, Calls Try.prog 11 #[.agg #[.string mac, .bool false, .bool false, .bool false, .bool false, .bool false, .bool false, .slice none 0 0, .slice none 0 0, .bool false, .slice none 0 0]] W fun e w' => e = .returned (.int .i64 0) ∧ Below W.heap.size W w')
    (F1 : ∀ W : World, Calls Try.prog 20 #[.string mac, .string other] W fun e w' => e = .returned (.string p1) ∧ W = w')
    (F2 : ∀ W : World, Calls Try.prog 20 #[.string ⟨#[255, 255, 255, 255, 255, 255]⟩, .string other] W fun e w' => e = .returned (.string p2) ∧ W = w')
    (F3 : ∀ W : World, Calls Try.prog 20 #[.string other, .string mac] W fun e w' => e = .returned (.string p3) ∧ W = w')
    (A1 : ∀ W, Vs w [(w.heap.size, ownF mac)] W → Calls Try.prog 13 #[.agg #[.string mac, .bool false, .bool false, .bool false, .bool false, .bool false, .bool false, .slice none 0 0, .slice none 0 0, .bool false, .slice none 0 0], .string (p1 ++ y)] W fun e w' => e = .returned (.bool true) ∧ Below W.heap.size W w')
    (A2 : ∀ W, Vs w [(w.heap.size, ownF mac)] W → Calls Try.prog 13 #[.agg #[.string mac, .bool false, .bool false, .bool false, .bool false, .bool false, .bool false, .slice none 0 0, .slice none 0 0, .bool false, .slice none 0 0], .string (p2 ++ y)] W fun e w' => e = .returned (.bool true) ∧ Below W.heap.size W w')
    (A3 : ∀ W, Vs w [(w.heap.size, ownF mac)] W → Calls Try.prog 13 #[.agg #[.string mac, .bool false, .bool false, .bool false, .bool false, .bool false, .bool false, .slice none 0 0, .slice none 0 0, .bool false, .slice none 0 0], .string (p3 ++ y)] W fun e w' => e = .returned (.bool false) ∧ Below W.heap.size W w') :
    Calls Try.prog 8 #[.string mac, .string other, .string body] w fun e w' => e = .returned (.bool true) ∧ Below w.heap.size w w' := by
  have H0 := Lib.hid A0
  have R1 := Lib.hid F1
  have R2 := Lib.hid F2
  have R3 := Lib.hid F3
  have D1 := Lib.hid A1
  have D2 := Lib.hid A2
  have D3 := Lib.hid A3
  clear A0 A1 A2 A3 F1 F2 F3
  have b1 : (0 : Int) ≤ min (body.size : Int) 1400 := by omega
  have b2 : min (body.size : Int) 1400 ≤ body.size := by omega
  have b3 : (min (body.size : Int) 1400).toNat = min body.size 1400 := by omega
  have b4 : min body.size 1400 ≤ body.size := by omega
  have s1 : p1.size + y.size ≤ 100000 := by omega
  have s2 : p2.size + y.size ≤ 100000 := by omega
  have s3 : p3.size + y.size ≤ 100000 := by omega
  have hz : ((other : ByteArray).size : Int) = 6 := by omega
  have hv0 : Vs w [(w.heap.size, ownF mac)] (w.alloc (.cells #[.string mac, .bool false, .bool false, .bool false, .bool false, .bool false, .bool false, .slice none 0 0, .slice none 0 0, .bool false, .slice none 0 0] 25)) := by
    have h0 : Vs w [] w := ⟨b0 w, by simp, by simp⟩
    exact h0.new (nil_at rfl rfl rfl _ _) (nil_few rfl rfl rfl) (by simp)
  have HV0 := Lib.hid hv0
  clear hv0 hys q1 q2 q3
  go_enter Try.func8, Try.ntmps8
  go_wp2_with fail
  refine (H0.out _).mono ?_
  rintro e w1 ⟨rfl, hq⟩
  have hv := HV0.out.next hq
  clear hq HV0
  go_wp2_with fail
  refine region_class (Vs w [(w.heap.size, ownF mac)]) (by kernel_rfl) (by kernel_rfl) hv.drew ?_
  repeat (first
      | go_big_quiet_skip
      | (go_big_quiet_want; go_big_quiet_op; first
        | go_big_quiet_on
        | (refine ⟨_, fun _ _ => rfl, ?_⟩; go_big_quiet_on)
        | (apply Exists.intro; refine ⟨?_, ?_⟩; · (intro wq hC; first | (go_at_call 10; (with_reducible refine (fixed_any _).mono ?_); exact fun e w' h => ⟨h.1, hC.next h.2⟩) | (go_at_call 20; (with_reducible refine (R1.out _).mono ?_); exact fun e w' h => ⟨h.1, h.2 ▸ hC⟩) | (go_at_call 20; (with_reducible refine (R2.out _).mono ?_); exact fun e w' h => ⟨h.1, h.2 ▸ hC⟩) | (go_at_call 20; (with_reducible refine (R3.out _).mono ?_); exact fun e w' h => ⟨h.1, h.2 ▸ hC⟩) | (go_at_call 13; (with_reducible refine (D1.out _ hC).mono ?_); exact fun e w' h => ⟨h.1, hC.next h.2⟩) | (go_at_call 13; (with_reducible refine (D2.out _ hC).mono ?_); exact fun e w' h => ⟨h.1, hC.next h.2⟩) | (go_at_call 13; (with_reducible refine (D3.out _ hC).mono ?_); exact fun e w' h => ⟨h.1, hC.next h.2⟩))
           go_big_quiet_on)
        | (refine ⟨.agg #[.string mac, .bool false, .bool false, .bool false, .bool false, .bool false, .bool false, .slice none 0 0, .slice none 0 0, .bool false, .slice none 0 0], fun wq hC => ?_, ?_⟩; · (have k := hC.get (show (w.heap.size, ownF mac) ∈ _ by simp); have c0 := k.cell 0; have c1 := k.cell 1; have c2 := k.cell 2; have c3 := k.cell 3; have c4 := k.cell 4; have c5 := k.cell 5; have c6 := k.cell 6; have c7 := k.cell 7; have c8 := k.cell 8; have c9 := k.cell 9; have c10 := k.cell 10; simp only [Fl.cells, ownF, List.length_nil, List.getElem?_toArray, List.getElem?_cons_zero, List.getElem?_cons_succ] at c0 c1 c2 c3 c4 c5 c6 c7 c8 c9 c10; simp [c0, c1, c2, c3, c4, c5, c6, c7, c8, c9, c10]; done)
           go_big_quiet_on)))
  refine wpQuiet_nil ?_
  intro w9 hM
  go_wp2
  go_ret
  exact ⟨by first | rfl | simp, hM.below⟩
theorem filterOwn_any (mac other body : ByteArray) (w : World) :
    Calls Try.prog 8 #[.string mac, .string other, .string body] w fun e w' => e = .returned (.bool true) ∧ Below w.heap.size w w' := by
  have A0 : ∀ W, Calls Try.prog 11 #[.agg #[.string mac, .bool false, .bool false, .bool false, .bool false, .bool false, .bool false, .slice none 0 0, .slice none 0 0, .bool false, .slice none 0 0]] W fun e w' => e = .returned (.int .i64 (chkV (ownF mac))) ∧ Below W.heap.size W w' := fun W => check_any (ownF mac) 0 W (nil_at rfl rfl rfl _ _) (Nat.zero_le _) (nil_few rfl rfl rfl)
  have hv0 : Vs w [(w.heap.size, ownF mac)] (w.alloc (.cells #[.string mac, .bool false, .bool false, .bool false, .bool false, .bool false, .bool false, .slice none 0 0, .slice none 0 0, .bool false, .slice none 0 0] 25)) := by
    have h0 : Vs w [] w := ⟨b0 w, by simp, by simp⟩
    exact h0.new (nil_at rfl rfl rfl _ _) (nil_few rfl rfl rfl) (by simp)
  by_cases hk : kindV mac = 1
  · have hc : chkV (ownF mac) = 0 := by
      rw [chkV, filB, show (kindV (ownF mac).mac == 1) = true by show (kindV mac == 1) = true; rw [hk]; rfl]
      rfl
    rw [hc] at A0
    by_cases ho : other.size = 6
    · obtain ⟨m6, mne⟩ := kind_six hk
      have hfs : ∀ a b : ByteArray, a.size = 6 → b.size = 6 → (fram a b).size ≤ 14 := fun a b ha hb => by
        rw [fram, ByteArray.size_append, ByteArray.size_append, ha, hb]; decide
      have hys : (body.extract 0 (min body.size 1400)).size ≤ 1400 := by rw [ByteArray.size_extract]; omega
      have hD : ∀ d b : ByteArray, d.size = 6 → b.size = 6 → ∀ W, Vs w [(w.heap.size, ownF mac)] W → Calls Try.prog 13 #[(ownF mac).val, .string (fram d b ++ body.extract 0 (min body.size 1400))] W fun e w' => e = .returned (.bool (adD (ownF mac) d)) ∧ Below W.heap.size W w' := fun d b hd hb W h => by
        have := adm_any (ownF mac) (fram d b ++ body.extract 0 (min body.size 1400)) W.heap.size W (h.at (show (w.heap.size, ownF mac) ∈ _ by simp)) (Nat.le_refl _) (nil_few rfl rfl rfl)
        rw [own_adm mac d b _ hd hb hys] at this
        exact this
      have hall : (⟨#[255, 255, 255, 255, 255, 255]⟩ : ByteArray).size = 6 := rfl
      by_cases e1 : other = mac
      · subst e1
        have D1 := hD other other ho ho
        rw [own_mac hk] at D1
        have D2 := hD ⟨#[255, 255, 255, 255, 255, 255]⟩ other hall ho
        rw [own_all] at D2
        exact own_walk_a other body _ (fram other other) (fram ⟨#[255, 255, 255, 255, 255, 255]⟩ other) (fram other other) w rfl hys ho (hfs _ _ ho ho) (hfs _ _ hall ho) (hfs _ _ ho ho) A0 (fun W => framed_any _ _ W (by omega)) (fun W => framed_any _ _ W (by omega)) (fun W => framed_any _ _ W (by omega)) D1 D2 D1
      · by_cases e2 : other = ⟨#[255, 255, 255, 255, 255, 255]⟩
        · subst e2
          have D1 := hD mac ⟨#[255, 255, 255, 255, 255, 255]⟩ m6 hall
          rw [own_mac hk] at D1
          have D2 := hD ⟨#[255, 255, 255, 255, 255, 255]⟩ ⟨#[255, 255, 255, 255, 255, 255]⟩ hall hall
          have D3 := hD ⟨#[255, 255, 255, 255, 255, 255]⟩ mac hall m6
          rw [own_all] at D2 D3
          exact own_walk_b mac body _ (fram mac ⟨#[255, 255, 255, 255, 255, 255]⟩) (fram ⟨#[255, 255, 255, 255, 255, 255]⟩ ⟨#[255, 255, 255, 255, 255, 255]⟩) (fram ⟨#[255, 255, 255, 255, 255, 255]⟩ mac) w rfl hys hall (hfs _ _ m6 hall) (hfs _ _ hall hall) (hfs _ _ hall m6) (by have h := str_ne e1; rw [ByteArray.toList_eq ⟨#[255, 255, 255, 255, 255, 255]⟩] at h; exact h) A0 (fun W => framed_any _ _ W (by omega)) (fun W => framed_any _ _ W (by omega)) (fun W => framed_any _ _ W (by omega)) D1 D2 D3
        · have D1 := hD mac other m6 ho
          rw [own_mac hk] at D1
          have D2 := hD ⟨#[255, 255, 255, 255, 255, 255]⟩ other hall ho
          rw [own_all] at D2
          have D3 := hD other mac ho m6
          rw [own_not e1 e2] at D3
          exact own_walk_c mac other body _ (fram mac other) (fram ⟨#[255, 255, 255, 255, 255, 255]⟩ other) (fram other mac) w rfl hys ho (hfs _ _ m6 ho) (hfs _ _ hall ho) (hfs _ _ ho m6) (str_ne e1) (by have h := str_ne e2; rw [ByteArray.toList_eq ⟨#[255, 255, 255, 255, 255, 255]⟩] at h; exact h) A0 (fun W => framed_any _ _ W (by omega)) (fun W => framed_any _ _ W (by omega)) (fun W => framed_any _ _ W (by omega)) D1 D2 D3
    · have H0 := Lib.hid A0
      have HV := Lib.hid hv0
      have hz : ((other.size : Int) != 6) = true := by
        have : (other.size : Int) ≠ 6 := by omega
        simpa using this
      clear A0 hv0 hk hc ho
      go_enter Try.func8, Try.ntmps8
      go_wp2_with (first | (go_at_call 11; ((with_reducible refine (H0.out _).mono ?_); rintro e w1 ⟨rfl, hq⟩; have hv1 := Lib.hid (HV.out.next hq); clear hq)) | (go_at_call 10; ((with_reducible refine (fixed_any _).mono ?_); rintro e w2 ⟨rfl, hq⟩; have hv2 := Lib.hid (hv1.out.next hq); clear hq)))
      go_ret
      exact ⟨rfl, hv2.out.below⟩
  · have hc : chkV (ownF mac) = 160 := by
      have : (kindV mac == 1) = false := by simpa using hk
      rw [chkV, filB, show (kindV (ownF mac).mac == 1) = false from this]
      rfl
    rw [hc] at A0
    have H0 := Lib.hid A0
    have HV := Lib.hid hv0
    clear A0 hv0 hk hc
    go_enter Try.func8, Try.ntmps8
    go_wp2_with (first | (go_at_call 11; ((with_reducible refine (H0.out _).mono ?_); rintro e w1 ⟨rfl, hq⟩; have hv1 := Lib.hid (HV.out.next hq); clear hq)) | (go_at_call 10; ((with_reducible refine (fixed_any _).mono ?_); rintro e w2 ⟨rfl, hq⟩; have hv2 := Lib.hid (hv1.out.next hq); clear hq)))
    go_ret
    exact ⟨rfl, hv2.out.below⟩

set_option maxRecDepth 100000 in
theorem filterOwn_lifted (os : Os) (started : os.Started) (H : Type) (enc : TypeId × Value → H) :
    ReturnsInHanded {} Try.checked os 8 .any (Rows.filterOwnSpec.pre6 enc Try.prog Try.f8 Rows.filterOwnRow.domain false) (Rows.filterOwnSpec.post enc Try.prog Try.f8 false true false false) := by
  have e : Try.f8.params.toList = [9, 9, 9] := by rw [Try.params8]
  refine law_of_walk (C := Try.checked) (tb := 4) H enc Try.own started (by kernel_rfl) Try.func8 Try.laidOut rfl rfl Try.underlying4 ?_ ?_
    (ChangeSpec.witness6 (enc := enc) (C := Try.checked) false ⟨#[], #[.string ByteArray.empty, .string ByteArray.empty, .string ByteArray.empty], []⟩ 8 (by kernel_rfl) (by kernel_rfl) (by kernel_rfl) (by kernel_rfl)) ?_
  · rw [e]
    intro t ht
    simp only [List.mem_cons, List.not_mem_nil, or_false] at ht
    rcases ht with rfl | rfl | rfl <;> exact ⟨by kernel_rfl, of_decide_eq_true (by kernel_rfl)⟩
  · intro ds hds
    rw [e] at hds
    match ds, hds with
    | [d0, d1, d2], _ => rfl
  · intro W base args ds p hval0 hA0 hsz0
    have hval : ∀ (j : Nat) t v, Try.f8.params[j]? = some t → args[j]? = some v → Value.okWide Try.prog W .any base t v := hval0
    have hA : DataW.TrodAll enc Try.prog W 0 (fun _ => true) true Try.f8.params.toList args.toList ds p := hA0
    have hsz : (DataW.weightsEach Try.prog Try.f8.params.toList ds).all (· ≤ reachBytes) = true := hsz0
    rw [Try.params8] at hA hval hsz
    obtain ⟨v0, v1, v2, d0, d1, d2, p0, p1, p2, rfl, rfl, rfl, h0, h1, h2⟩ := trodAll_three hA
    obtain ⟨x0, rfl, rfl, rfl, _⟩ := open_string Try.underlying9 (hval 0 9 v0 rfl rfl) h0
    obtain ⟨x1, rfl, rfl, rfl, _⟩ := open_string Try.underlying9 (hval 1 9 v1 rfl rfl) h1
    obtain ⟨x2, rfl, rfl, rfl, _⟩ := open_string Try.underlying9 (hval 2 9 v2 rfl rfl) h2
    have s0 := sized_string hsz (j := 0) (t := 9) rfl rfl
    simp only [reachBytes] at s0
    have s1 := sized_string hsz (j := 1) (t := 9) rfl rfl
    simp only [reachBytes] at s1
    have s2 := sized_string hsz (j := 2) (t := 9) rfl rfl
    simp only [reachBytes] at s2
    exact filterOwn_any x0 x1 x2 W

theorem filterOwn_holds : Rows.FilterOwnSaid :=
  OpenClaim.holds_of_wide 8 Try.f8 rfl rfl rfl rfl rfl rfl rfl ⟨rfl, rfl, rfl, rfl, rfl⟩ rfl rfl rfl rfl rfl (by kernel_rfl) Try.func8 (by kernel_rfl)
    (of_decide_eq_true (by kernel_rfl)) (by unfold Func.isWrapper; first | (rw [if_pos (by decide +kernel)]; kernel_rfl) | (rw [if_neg (by decide +kernel)]; exact ⟨rfl, rfl⟩))
    (fun os started H enc _ => filterOwn_lifted os started H enc)
end Go.Proofs.Ytboinnejkghfiaa
