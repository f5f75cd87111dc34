/-
  The mathematics of commands' bytes: what is taken from what was put together; what each command makes of settings; no condition.
-/
import Derived.Test.YtongkfimgohhbaaCd
namespace Go.Proofs.Ytongkfimgohhbaa

/-- a text of these bytes -/
def bs (l : List UInt8) : ByteArray := ⟨l.toArray⟩
theorem bs_list (l : List UInt8) : (bs l).data.toList = l := rfl
theorem bs_size (l : List UInt8) : (bs l).size = l.length := rfl
theorem bs_of (s : ByteArray) : bs s.data.toList = s := rfl
theorem bs_app (l r : List UInt8) : bs l ++ bs r = bs (l ++ r) := by
  apply ByteArray.ext
  show (bs l ++ bs r).data = (l ++ r).toArray
  rw [ByteArray.data_append]
  simp [bs]
theorem cutl_bs (l r : List UInt8) : cutl (bs (l ++ r)) 0 l.length = l := by
  simp [cutl, bs]
theorem ext_bs (l r : List UInt8) : (bs (l ++ r)).extract 0 l.length = bs l := by
  apply ByteArray.ext
  rw [ByteArray.data_extract]
  simp [bs]
theorem ext_bs2 (l r : List UInt8) : (bs (l ++ r)).extract l.length (bs (l ++ r)).size = bs r := by
  apply ByteArray.ext
  rw [ByteArray.data_extract, bs_size]
  apply Array.toList_inj.1
  rw [Array.toList_extract]
  simp [bs, List.extract]
theorem take_S (l r : List UInt8) (n : Nat) (h : l.length = n) : tkS (bs (l ++ r)) n = bs l := by
  subst h
  unfold tkS
  rw [if_neg (by rw [bs_size, List.length_append]; omega), ext_bs]
theorem take_R (l r : List UInt8) (n : Nat) (h : l.length = n) : tkR (bs (l ++ r)) n = bs r := by
  subst h
  unfold tkR
  rw [if_neg (by rw [bs_size, List.length_append]; omega), ext_bs2]
theorem take_B (l r : List UInt8) (n : Nat) (b : Bool) (h : l.length = n) : tkB (bs (l ++ r)) n b = b := by
  subst h
  unfold tkB
  rw [if_neg (by rw [bs_size, List.length_append]; omega)]
theorem take_n (l r : List UInt8) (n : Nat) (h : l.length = n) : nm (bs (l ++ r)) n = val l := by
  subst h
  unfold nm
  rw [if_neg (by rw [bs_size, List.length_append]; omega), cutl_bs]
theorem val_low (v : Int) (n : Nat) : val (lowL v n) = (v % 256 ^ n).toNat := by
  unfold lowL
  rw [val_digs]
  have hp : (0 : Int) < 256 ^ n := Int.pow_pos (by decide)
  have h1 := Int.emod_nonneg v (show (256 : Int) ^ n ≠ 0 by omega)
  have h2 := Int.emod_lt_of_pos v hp
  have hc : ((256 ^ n : Nat) : Int) = 256 ^ n := by simp
  exact Nat.mod_eq_of_lt (by omega)
theorem cmd_bs (c n : Int) (xs : List ByteArray) : cmdS c n xs = bs (lowL c 1 ++ (lowL n 1 ++ catL xs)) := by
  unfold cmdS
  show bs (lowL c 1) ++ bs (lowL n 1) ++ bs (catL xs) = _
  rw [bs_app, bs_app, List.append_assoc]
theorem cmd_c (c n : Int) (xs : List ByteArray) : nm (cmdS c n xs) 1 = (c % 256).toNat := by
  rw [cmd_bs, take_n _ _ 1 (lowL_length _ _), val_low]; simp
theorem cmd_n (c n : Int) (xs : List ByteArray) : cN (cmdS c n xs) = (n % 256).toNat := by
  unfold cN
  rw [cmd_bs, take_R _ _ 1 (lowL_length _ _), take_n _ _ 1 (lowL_length _ _), val_low]; simp
theorem cmd_2 (c n : Int) (xs : List ByteArray) : c2 (cmdS c n xs) = catS xs := by
  unfold c2
  rw [cmd_bs, take_R _ _ 1 (lowL_length _ _), take_R _ _ 1 (lowL_length _ _)]; rfl
theorem cmd_b (c n : Int) (xs : List ByteArray) (b : Bool) : b2 (cmdS c n xs) b = b := by
  unfold b2
  rw [cmd_bs, take_R _ _ 1 (lowL_length _ _), take_B _ _ 1 _ (lowL_length _ _), take_B _ _ 1 _ (lowL_length _ _)]
/-! What a command makes of settings, by its class -/
theorem app_flag {K : Cg} {s : ByteArray} (h : nm s 1 = 0) : appC K s = none ∨ ∃ n b, appC K s = some { K with f := K.f.flag n b } := by
  unfold appC
  split
  · right
    refine ⟨cN s, (nm (c2 s) 1 == 1), ?_⟩
    unfold chgC
    rw [if_pos h]
  · exact .inl rfl
theorem app_vlan {K : Cg} {s : ByteArray} (h : nm s 1 = 2) : appC K s = none ∨ ∃ X, appC K s = some { K with f := { K.f with vs := X } } := by
  unfold appC
  split
  · right
    refine ⟨numV K (cN s) (nm (c2 s) 2), ?_⟩
    unfold chgC
    rw [if_neg (by omega), if_neg (by omega), if_pos h]
  · exact .inl rfl
theorem res_none {K : Cg} {s : ByteArray} (h : appC K s = none) : resC K s = K ∧ ackC K s = 1 := by
  unfold resC ackC
  rw [h]
  exact ⟨rfl, rfl⟩
theorem res_some {K X : Cg} {s : ByteArray} (h : appC K s = some X) : resC K s = X ∧ ackC K s = 0 := by
  unfold resC ackC
  rw [h]
  exact ⟨rfl, rfl⟩
theorem ack_two (K : Cg) (s : ByteArray) : ackC K s = 0 ∨ (ackC K s = 1 ∧ resC K s = K) := by
  cases h : appC K s with
  | none => exact .inr ⟨(res_none h).2, (res_none h).1⟩
  | some X => exact .inl (res_some h).2
/-- but for its flags it is the same -/
theorem flag_same (K : Cg) (s : ByteArray) (h : nm s 1 = 0) : ({ resC K s with f := { (resC K s).f with pr := K.f.pr, am := K.f.am, au := K.f.au, nm := K.f.nm, nu := K.f.nu, na := K.f.na } } : Cg) = K := by
  rcases app_flag (K := K) h with hA | ⟨n, b, hA⟩
  · rw [(res_none hA).1]
  · rw [(res_some hA).1]
    unfold Fl.flag
    split <;> rfl
theorem vlan_same (K : Cg) (s : ByteArray) (h : nm s 1 = 2) : ({ resC K s with f := { (resC K s).f with vs := K.f.vs } } : Cg) = K := by
  rcases app_vlan (K := K) h with hA | ⟨X, hA⟩
  · rw [(res_none hA).1]
  · rw [(res_some hA).1]
end Go.Proofs.Ytongkfimgohhbaa
