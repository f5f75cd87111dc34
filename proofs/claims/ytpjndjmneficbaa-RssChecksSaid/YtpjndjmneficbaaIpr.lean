/-
  What ip's reader and its closure do, where there are bytes enough and where there are not; what summed answers; a packet under way; no condition but the language's own length.
-/
import Derived.Test.YtpjndjmneficbaaIpm
import Derived.Test.YtpjndjmneficbaaCsum
namespace Go.Proofs.Ytpjndjmneficbaa
open Go.RowKit

theorem reader_any (s : ByteArray) (w : World) :
    Calls Try.prog 49 #[.string s] w fun e w' => e = .returned (.func (.func 65) #[] #[.pointer (some ⟨w.heap.size, 0, none⟩)]) ∧ w' = w.alloc (.cells #[.string s] 9) := by
  go_enter Try.func49, Try.ntmps49
  go_wp2
  go_ret
  exact ⟨rfl, rfl⟩
def shortI : Value := .iface 71 (.agg #[])
theorem str_ne {a b : ByteArray} (h : a ≠ b) : (a.toList == b.toList) = false := by
  rw [beq_eq_false_iff_ne, ByteArray.toList_eq, ByteArray.toList_eq]
  intro e
  exact h (by cases a; cases b; congr 1; exact Array.toList_inj.1 e)
theorem next_ok (g : Nat) (s : ByteArray) (n : Nat) (w : World) (hn : n ≤ s.size) (hc : w.cell? ⟨g, 0, none⟩ = some (.string s)) (hf : w.frozen? ⟨g, 0, none⟩ = false) :
    Calls Try.prog 65 #[.int .i64 n, .pointer (some ⟨g, 0, none⟩)] w fun e w' => e = .returned (.string (s.extract 0 n)) ∧ w' = w.setCell ⟨g, 0, none⟩ (.string (s.extract n s.size)) := by
  go_enter Try.func65, Try.ntmps65
  go_wp2
  go_ret
  exact ⟨rfl, rfl⟩
theorem next_short (g : Nat) (s : ByteArray) (n : Nat) (w : World) (hn : s.size < n) (hc : w.cell? ⟨g, 0, none⟩ = some (.string s)) :
    Calls Try.prog 65 #[.int .i64 n, .pointer (some ⟨g, 0, none⟩)] w fun e w' => e = .panicked [{ v := shortI, recovered := false }] ∧ w = w' := by
  go_enter Try.func65, Try.ntmps65
  go_wp2
  exact ⟨rfl, rfl, rfl⟩

/-- A header with nought in the checksum's place, and with its checksum. -/
def blank (h : ByteArray) : ByteArray := h.extract 0 10 ++ bs 0 2 ++ h.extract 12 h.size
def sumd (h : ByteArray) : ByteArray := (blank h).extract 0 10 ++ bs (65535 - onS 0 (blank h)) 2 ++ (blank h).extract 12 (blank h).size
theorem blank_size (h : ByteArray) (h1 : 12 ≤ h.size) : (blank h).size = h.size := by
  unfold blank
  simp only [ByteArray.size_append, ByteArray.size_extract, bs_size]; omega
theorem sumd_size (h : ByteArray) (h1 : 12 ≤ h.size) : (sumd h).size = h.size := by
  have := blank_size h h1
  unfold sumd
  simp only [ByteArray.size_append, ByteArray.size_extract, bs_size]; omega
theorem set2 (s : ByteArray) (v : Int) (w : World) (hs : s.size ≤ 281474976710656) (h12 : 12 ≤ s.size) (h0 : 0 ≤ v) (h1 : v ≤ 65535) :
    Calls Try.prog 77 #[.string s, .int .i64 10, .int .u64 v, .int .i64 2, .bool true] w fun e w' => e = .returned (.tuple #[.string (s.extract 0 10 ++ bs v 2 ++ s.extract 12 s.size), .int .i64 0]) ∧ Below w.heap.size w w' := by
  have hp : 1 ≤ (2 : Int) ∧ (2 : Int) ≤ 8 ∧ v < 256 ^ (2 : Int).toNat := ⟨by omega, by omega, by show v < 65536; omega⟩
  have e1 : putE v 2 = 0 := by rw [putE, if_pos hp]
  have e2 : putS v 2 true = bs v 2 := by rw [putS, if_pos hp]; rfl
  have := set_ok s 10 v 2 true w hs h0 (by omega) (by omega) e1 (by omega)
  rw [show ((2 : Nat) : Int) = 2 from rfl, e2] at this
  exact this
theorem summed_any (h : ByteArray) (w : World) (h12 : 12 ≤ h.size) (hs : h.size ≤ 281474976710656) :
    Calls Try.prog 67 #[.string h] w fun e w' => e = .returned (.string (sumd h)) ∧ Below w.heap.size w w' := by
  have hz := blank_size h h12
  have hr := onS_range (blank h) 0 (by omega) (by omega)
  have A1 := fun W => set2 h 0 W hs h12 (by omega) (by omega)
  have A2 := fun W => sum_any (blank h) W (by unfold maxLen; omega)
  have A3 := fun W => set2 (blank h) (65535 - onS 0 (blank h)) W (by omega) (by omega) (by omega) (by omega)
  change ∀ W, Calls Try.prog 77 _ W fun e w' => e = .returned (.tuple #[.string (blank h), .int .i64 0]) ∧ _ at A1
  change ∀ W, Calls Try.prog 77 _ W fun e w' => e = .returned (.tuple #[.string (sumd h), .int .i64 0]) ∧ _ at A3
  generalize blank h = X at *
  generalize sumd h = Y at *
  obtain ⟨V, hV⟩ : ∃ V : Int, 65535 - onS 0 X = V := ⟨_, rfl⟩
  rw [hV] at A2 A3
  have hV0 : 0 ≤ V := by omega
  have hV1 : V ≤ 65535 := by omega
  have H1 := Lib.hid A1
  have H2 := Lib.hid A2
  have H3 := Lib.hid A3
  clear A1 A2 A3 hV hr
  go_enter Try.func67, Try.ntmps67
  go_wp2_with fail
  refine (H1.out _).mono ?_
  rintro e w1 ⟨rfl, hB⟩
  go_wp2_with fail
  refine (H2.out _).mono ?_
  rintro e w2 ⟨rfl, hq⟩
  replace hB := hB.trans (hq.mono hB.size)
  clear hq
  go_wp2_with fail
  refine (H3.out _).mono ?_
  rintro e w3 ⟨rfl, hq⟩
  replace hB := hB.trans (hq.mono hB.size)
  clear hq
  go_wp2_with fail
  go_ret
  exact ⟨rfl, hB⟩

def pkL (v : Int) (src dst : ByteArray) (proto hops cls id flags off label : Int) (opt body : ByteArray) : Array Value := #[.int .i64 v, .string src, .string dst, .int .i64 proto, .int .i64 hops, .int .i64 cls, .int .i64 id, .int .i64 flags, .int .i64 off, .int .i64 label, .string opt, .string body]
def pkZ : Array Value := pkL 0 ⟨#[]⟩ ⟨#[]⟩ 0 0 0 0 0 0 0 ⟨#[]⟩ ⟨#[]⟩
/-- a packet under way: the result, the reader's box, the packet. -/
structure PS (w0 : World) (v : Int) (src dst : ByteArray) (proto hops cls id flags off label : Int) (opt body : ByteArray) (u : ByteArray) (w : World) : Prop where
  res : Blk w w0.heap.size 56 pkZ
  box : Blk w (w0.heap.size + 1) 9 #[.string u]
  pb : Blk w (w0.heap.size + 1 + 1) 56 (pkL v src dst proto hops cls id flags off label opt body)
  below : Below w0.heap.size w0 w
section
variable {w0 w w' : World} {v : Int} {src dst : ByteArray} {proto hops cls id flags off label : Int} {opt body : ByteArray} {u : ByteArray}
theorem PS.size (h : PS w0 v src dst proto hops cls id flags off label opt body u w) : w0.heap.size + 1 + 1 < w.heap.size := h.pb.lt
theorem PS.next (h : PS w0 v src dst proto hops cls id flags off label opt body u w) (u' : ByteArray) : PS w0 v src dst proto hops cls id flags off label opt body u' (w.setCell ⟨w0.heap.size + 1, 0, none⟩ (.string u')) :=
  ⟨h.res.other (by omega) _ _, h.box.put 0 _, h.pb.other (by omega) _ _, h.below.setCell (by show _ ≤ w0.heap.size + 1; omega) _⟩
theorem PS.on (h : PS w0 v src dst proto hops cls id flags off label opt body u w) (hb : Below w.heap.size w w') : PS w0 v src dst proto hops cls id flags off label opt body u w' :=
  ⟨h.res.same (hb.block _ h.res.lt), h.box.same (hb.block _ h.box.lt), h.pb.same (hb.block _ h.pb.lt), h.below.trans (hb.mono (by have := h.size; omega))⟩
theorem PS.put (h : PS w0 v src dst proto hops cls id flags off label opt body u w) (i : Nat) (x : Value) {v' : Int} {src' dst' : ByteArray} {proto' hops' cls' id' flags' off' label' : Int} {opt' body' : ByteArray} (e : (pkL v src dst proto hops cls id flags off label opt body).setIfInBounds i x = pkL v' src' dst' proto' hops' cls' id' flags' off' label' opt' body') : PS w0 v' src' dst' proto' hops' cls' id' flags' off' label' opt' body' u (w.setCell ⟨w0.heap.size + 1 + 1, i, none⟩ x) :=
  ⟨h.res.other (by omega) _ _, h.box.other (by omega) _ _, e ▸ h.pb.put i x, h.below.setCell (by show _ ≤ w0.heap.size + 1 + 1; omega) _⟩
theorem PS.putR (h : PS w0 v src dst proto hops cls id flags off label opt body u w) (i : Nat) (x : Value) (e : pkZ.setIfInBounds i x = pkZ) : PS w0 v src dst proto hops cls id flags off label opt body u (w.setCell ⟨w0.heap.size, i, none⟩ x) :=
  ⟨e ▸ h.res.put i x, h.box.other (by omega) _ _, h.pb.other (by omega) _ _, h.below.setCell (Nat.le_refl _) _⟩
theorem PS.cells (h : PS w0 v src dst proto hops cls id flags off label opt body u w) : (w.cell? ⟨w0.heap.size, 0, none⟩ = some (.int .i64 0) ∧ w.cell? ⟨w0.heap.size, 1, none⟩ = some (.string ⟨#[]⟩) ∧ w.cell? ⟨w0.heap.size, 2, none⟩ = some (.string ⟨#[]⟩) ∧ w.cell? ⟨w0.heap.size, 3, none⟩ = some (.int .i64 0) ∧ w.cell? ⟨w0.heap.size, 4, none⟩ = some (.int .i64 0) ∧ w.cell? ⟨w0.heap.size, 5, none⟩ = some (.int .i64 0) ∧ w.cell? ⟨w0.heap.size, 6, none⟩ = some (.int .i64 0) ∧ w.cell? ⟨w0.heap.size, 7, none⟩ = some (.int .i64 0) ∧ w.cell? ⟨w0.heap.size, 8, none⟩ = some (.int .i64 0) ∧ w.cell? ⟨w0.heap.size, 9, none⟩ = some (.int .i64 0) ∧ w.cell? ⟨w0.heap.size, 10, none⟩ = some (.string ⟨#[]⟩) ∧ w.cell? ⟨w0.heap.size, 11, none⟩ = some (.string ⟨#[]⟩)) ∧ (w.cell? ⟨w0.heap.size + 1 + 1, 0, none⟩ = some (.int .i64 v) ∧ w.cell? ⟨w0.heap.size + 1 + 1, 1, none⟩ = some (.string src) ∧ w.cell? ⟨w0.heap.size + 1 + 1, 2, none⟩ = some (.string dst) ∧ w.cell? ⟨w0.heap.size + 1 + 1, 3, none⟩ = some (.int .i64 proto) ∧ w.cell? ⟨w0.heap.size + 1 + 1, 4, none⟩ = some (.int .i64 hops) ∧ w.cell? ⟨w0.heap.size + 1 + 1, 5, none⟩ = some (.int .i64 cls) ∧ w.cell? ⟨w0.heap.size + 1 + 1, 6, none⟩ = some (.int .i64 id) ∧ w.cell? ⟨w0.heap.size + 1 + 1, 7, none⟩ = some (.int .i64 flags) ∧ w.cell? ⟨w0.heap.size + 1 + 1, 8, none⟩ = some (.int .i64 off) ∧ w.cell? ⟨w0.heap.size + 1 + 1, 9, none⟩ = some (.int .i64 label) ∧ w.cell? ⟨w0.heap.size + 1 + 1, 10, none⟩ = some (.string opt) ∧ w.cell? ⟨w0.heap.size + 1 + 1, 11, none⟩ = some (.string body)) ∧
    w.cell? ⟨w0.heap.size + 1, 0, none⟩ = some (.string u) ∧ (∀ i, w.frozen? ⟨w0.heap.size, i, none⟩ = false) ∧ (∀ i, w.frozen? ⟨w0.heap.size + 1 + 1, i, none⟩ = false) ∧ w.frozen? ⟨w0.heap.size + 1, 0, none⟩ = false :=
  ⟨⟨h.res.cell 0, h.res.cell 1, h.res.cell 2, h.res.cell 3, h.res.cell 4, h.res.cell 5, h.res.cell 6, h.res.cell 7, h.res.cell 8, h.res.cell 9, h.res.cell 10, h.res.cell 11⟩, ⟨h.pb.cell 0, h.pb.cell 1, h.pb.cell 2, h.pb.cell 3, h.pb.cell 4, h.pb.cell 5, h.pb.cell 6, h.pb.cell 7, h.pb.cell 8, h.pb.cell 9, h.pb.cell 10, h.pb.cell 11⟩, h.box.cell 0, h.res.frozen, h.pb.frozen, h.box.frozen 0⟩
end
section
variable {w0 w : World} {v : Int} {src dst : ByteArray} {proto hops cls id flags off label : Int} {opt body : ByteArray} {s : ByteArray} {a : Nat}
theorem next_ps (h : PS w0 v src dst proto hops cls id flags off label opt body (tail s a) w) (k : Int) (n c : Nat) (hk : k = n) (hc : c = a + n) (hn : c ≤ s.size) :
    Calls Try.prog 65 #[.int .i64 k, .pointer (some ⟨w0.heap.size + 1, 0, none⟩)] w fun e w' => e = .returned (.string (s.extract a c)) ∧ PS w0 v src dst proto hops cls id flags off label opt body (tail s c) w' := by
  subst hc hk
  refine (next_ok _ (tail s a) n w (by rw [tail_size]; omega) (h.box.cell 0) (h.box.frozen 0)).mono fun _ _ ⟨he, hw⟩ => ⟨?_, ?_⟩
  · rw [he, tail_take s a n hn]
  · subst hw; rw [tail_tail]; exact h.next _
theorem next_ps_short (h : PS w0 v src dst proto hops cls id flags off label opt body (tail s a) w) (k : Int) (n : Nat) (hk : k = n) (ha : a ≤ s.size) (hn : s.size < a + n) :
    Calls Try.prog 65 #[.int .i64 k, .pointer (some ⟨w0.heap.size + 1, 0, none⟩)] w fun e w' => e = .panicked [{ v := shortI, recovered := false }] ∧ Below w0.heap.size w0 w' := by
  subst hk
  exact (next_short _ (tail s a) n w (by rw [tail_size]; omega) (h.box.cell 0)).mono fun _ _ ⟨he, hw⟩ => ⟨he, hw ▸ h.below⟩
theorem get_ps (h : PS w0 v src dst proto hops cls id flags off label opt body (tail s a) w) (b c n : Nat) (hc : c = b + n) (hn : c ≤ s.size) (h1 : 1 ≤ n) (h2 : n ≤ 4) :
    Calls Try.prog 66 #[.string (s.extract b c)] w fun e w' => e = .returned (.int .i64 (nat s b n)) ∧ PS w0 v src dst proto hops cls id flags off label opt body (tail s a) w' := by
  subst hc
  have hz : (s.extract b (b + n)).size = n := by simp [ByteArray.size_extract]; omega
  refine (get4_any (s.extract b (b + n)) n w hz h1 h2).mono fun _ _ ⟨he, hw⟩ => ⟨?_, h.on hw⟩
  rw [he, nat_cut s b 0 n n (by omega)]
  rfl
end
theorem PS.new (w : World) (s : ByteArray) (v : Int) : PS w v ⟨#[]⟩ ⟨#[]⟩ 0 0 0 0 0 0 0 ⟨#[]⟩ ⟨#[]⟩ (tail s 0) (((w.alloc (.cells pkZ 56)).alloc (.cells #[.string s] 9)).alloc (.cells (pkL v ⟨#[]⟩ ⟨#[]⟩ 0 0 0 0 0 0 0 ⟨#[]⟩ ⟨#[]⟩) 56)) := by
  rw [tail_zero]
  refine ⟨((Blk.new w 56 _).alloc _).alloc _, ?_, ?_, (((Below.refl _ _).alloc (Nat.le_refl _) _).alloc (by simp) _).alloc (by simp; omega) _⟩
  · have := (Blk.new (w.alloc (.cells pkZ 56)) 9 #[.string s]).alloc (.cells (pkL v ⟨#[]⟩ ⟨#[]⟩ 0 0 0 0 0 0 0 ⟨#[]⟩ ⟨#[]⟩) 56)
    simpa using this
  · have := Blk.new ((w.alloc (.cells pkZ 56)).alloc (.cells #[.string s] 9)) 56 (pkL v ⟨#[]⟩ ⟨#[]⟩ 0 0 0 0 0 0 0 ⟨#[]⟩ ⟨#[]⟩)
    simpa using this
theorem Blk.put' {w : World} {g : Nat} {t : TypeId} {cs cs' : Array Value} (h : Blk w g t cs) (i : Nat) (u : Value) (e : cs.setIfInBounds i u = cs') : Blk (w.setCell ⟨g, i, none⟩ u) g t cs' := e ▸ h.put i u
theorem PS.ret {w0 w : World} {v : Int} {src dst : ByteArray} {proto hops cls id flags off label : Int} {opt body : ByteArray} {u : ByteArray} (h : PS w0 v src dst proto hops cls id flags off label opt body u w) (a0 : Int) (a1 a2 : ByteArray) (a3 a4 a5 a6 a7 a8 a9 : Int) (a10 a11 : ByteArray) :
    Blk ((((((((((((w.setCell ⟨w0.heap.size, 0, none⟩ (.int .i64 a0)).setCell ⟨w0.heap.size, 1, none⟩ (.string a1)).setCell ⟨w0.heap.size, 2, none⟩ (.string a2)).setCell ⟨w0.heap.size, 3, none⟩ (.int .i64 a3)).setCell ⟨w0.heap.size, 4, none⟩ (.int .i64 a4)).setCell ⟨w0.heap.size, 5, none⟩ (.int .i64 a5)).setCell ⟨w0.heap.size, 6, none⟩ (.int .i64 a6)).setCell ⟨w0.heap.size, 7, none⟩ (.int .i64 a7)).setCell ⟨w0.heap.size, 8, none⟩ (.int .i64 a8)).setCell ⟨w0.heap.size, 9, none⟩ (.int .i64 a9)).setCell ⟨w0.heap.size, 10, none⟩ (.string a10)).setCell ⟨w0.heap.size, 11, none⟩ (.string a11)) w0.heap.size 56 (pkL a0 a1 a2 a3 a4 a5 a6 a7 a8 a9 a10 a11) ∧ Below w0.heap.size w0 ((((((((((((w.setCell ⟨w0.heap.size, 0, none⟩ (.int .i64 a0)).setCell ⟨w0.heap.size, 1, none⟩ (.string a1)).setCell ⟨w0.heap.size, 2, none⟩ (.string a2)).setCell ⟨w0.heap.size, 3, none⟩ (.int .i64 a3)).setCell ⟨w0.heap.size, 4, none⟩ (.int .i64 a4)).setCell ⟨w0.heap.size, 5, none⟩ (.int .i64 a5)).setCell ⟨w0.heap.size, 6, none⟩ (.int .i64 a6)).setCell ⟨w0.heap.size, 7, none⟩ (.int .i64 a7)).setCell ⟨w0.heap.size, 8, none⟩ (.int .i64 a8)).setCell ⟨w0.heap.size, 9, none⟩ (.int .i64 a9)).setCell ⟨w0.heap.size, 10, none⟩ (.string a10)).setCell ⟨w0.heap.size, 11, none⟩ (.string a11)) :=
  ⟨((((((((((((h.res.put' 0 (.int .i64 a0) (cs' := pkL a0 ⟨#[]⟩ ⟨#[]⟩ 0 0 0 0 0 0 0 ⟨#[]⟩ ⟨#[]⟩) rfl).put' 1 (.string a1) (cs' := pkL a0 a1 ⟨#[]⟩ 0 0 0 0 0 0 0 ⟨#[]⟩ ⟨#[]⟩) rfl).put' 2 (.string a2) (cs' := pkL a0 a1 a2 0 0 0 0 0 0 0 ⟨#[]⟩ ⟨#[]⟩) rfl).put' 3 (.int .i64 a3) (cs' := pkL a0 a1 a2 a3 0 0 0 0 0 0 ⟨#[]⟩ ⟨#[]⟩) rfl).put' 4 (.int .i64 a4) (cs' := pkL a0 a1 a2 a3 a4 0 0 0 0 0 ⟨#[]⟩ ⟨#[]⟩) rfl).put' 5 (.int .i64 a5) (cs' := pkL a0 a1 a2 a3 a4 a5 0 0 0 0 ⟨#[]⟩ ⟨#[]⟩) rfl).put' 6 (.int .i64 a6) (cs' := pkL a0 a1 a2 a3 a4 a5 a6 0 0 0 ⟨#[]⟩ ⟨#[]⟩) rfl).put' 7 (.int .i64 a7) (cs' := pkL a0 a1 a2 a3 a4 a5 a6 a7 0 0 ⟨#[]⟩ ⟨#[]⟩) rfl).put' 8 (.int .i64 a8) (cs' := pkL a0 a1 a2 a3 a4 a5 a6 a7 a8 0 ⟨#[]⟩ ⟨#[]⟩) rfl).put' 9 (.int .i64 a9) (cs' := pkL a0 a1 a2 a3 a4 a5 a6 a7 a8 a9 ⟨#[]⟩ ⟨#[]⟩) rfl).put' 10 (.string a10) (cs' := pkL a0 a1 a2 a3 a4 a5 a6 a7 a8 a9 a10 ⟨#[]⟩) rfl).put' 11 (.string a11) (cs' := pkL a0 a1 a2 a3 a4 a5 a6 a7 a8 a9 a10 a11) rfl), ((((((((((((h.below.setCell (Nat.le_refl _) _).setCell (Nat.le_refl _) _).setCell (Nat.le_refl _) _).setCell (Nat.le_refl _) _).setCell (Nat.le_refl _) _).setCell (Nat.le_refl _) _).setCell (Nat.le_refl _) _).setCell (Nat.le_refl _) _).setCell (Nat.le_refl _) _).setCell (Nat.le_refl _) _).setCell (Nat.le_refl _) _).setCell (Nat.le_refl _) _)⟩
end Go.Proofs.Ytpjndjmneficbaa
