/- What the document says of Uint, Cmp, Add, Sub, Mul, DivMod, as plain functions on lists of digits. No Go in sight. -/
import Derived.Test.YtbkkalmdjcpgoaaDoorDig
namespace Go.Proofs.YtbkkalmdjcpgoaaDoor.Dig

/-- the digits are right: as a Bool -/
def rightB (ds : List Nat) : Bool := decide (ds.length ≤ 256) && (decide (ds.length = 0) || decide (ds.getD (ds.length - 1) 0 ≠ 0))
theorem right_norm {ds : List Nat} (h : rightB ds = true) : ds.length ≤ 256 ∧ Norm ds := by
  simpa [rightB, Norm] using h
theorem right_of {ds : List Nat} (h : ds.length ≤ 256) (n : Norm ds) : rightB ds = true := by
  simpa [rightB, Norm] using And.intro h n

/-- digits, if they are not too many -/
def fitD (n : Nat) : List Nat × Int := if (digs n).length ≤ 256 then (digs n, 0) else ([], 3)
def addD (xs ys : List Nat) : List Nat × Int := if rightB xs = true ∧ rightB ys = true then fitD (num xs + num ys) else ([], 2)
def mulD (xs ys : List Nat) : List Nat × Int := if rightB xs = true ∧ rightB ys = true then fitD (num xs * num ys) else ([], 2)
def subD (xs ys : List Nat) : List Nat × Int := if (rightB xs = true ∧ rightB ys = true) ∧ num ys ≤ num xs then (digs (num xs - num ys), 0) else ([], 2)
def cmpD (xs ys : List Nat) : Int × Int := if rightB xs = true ∧ rightB ys = true then (if num xs < num ys then (-1, 0) else if num ys < num xs then (1, 0) else (0, 0)) else (0, 2)
def uintD (xs : List Nat) : Nat × Int := if rightB xs = true then (if 2 < xs.length then (0, 4) else (num xs, 0)) else (0, 2)
def divQ (xs ys : List Nat) : List Nat := if (rightB xs = true ∧ rightB ys = true) ∧ ys.length ≠ 0 then digs (num xs / num ys) else []
def divR (xs ys : List Nat) : List Nat := if (rightB xs = true ∧ rightB ys = true) ∧ ys.length ≠ 0 then digs (num xs % num ys) else []
def divE (xs ys : List Nat) : Int := if (rightB xs = true ∧ rightB ys = true) ∧ ys.length ≠ 0 then 0 else 2

theorem fitD_dig (n : Nat) : IsDig (fitD n).1 := by
  unfold fitD; split
  · exact isDig_digs n
  · exact isDig_nil
theorem fitD_len (n : Nat) : (fitD n).1.length ≤ 256 := by
  unfold fitD; split
  · assumption
  · simp
theorem addD_len (xs ys : List Nat) : (addD xs ys).1.length ≤ 256 := by
  unfold addD; split
  · exact fitD_len _
  · simp
theorem mulD_len (xs ys : List Nat) : (mulD xs ys).1.length ≤ 256 := by
  unfold mulD; split
  · exact fitD_len _
  · simp
theorem digs_len_mono {a b : Nat} (h : a ≤ b) : (digs a).length ≤ (digs b).length := by
  apply digs_len_le
  have := num_lt (isDig_digs b)
  rw [num_digs] at this
  omega
theorem digs_len_num {xs : List Nat} (h : IsDig xs) : (digs (num xs)).length ≤ xs.length := digs_len_le (num_lt h)
theorem subD_len {xs ys : List Nat} (h : IsDig xs) : (subD xs ys).1.length ≤ xs.length := by
  unfold subD; split
  · exact Nat.le_trans (digs_len_mono (Nat.sub_le _ _)) (digs_len_num h)
  · simp
theorem num_pos {ys : List Nat} (h : Norm ys) (hl : ys.length ≠ 0) : 0 < num ys := by
  rcases h with h | h
  · exact absurd h hl
  · rw [num_at (j := ys.length - 1) (by omega)]
    have : 4294967296 ^ (ys.length - 1) * 1 ≤ 4294967296 ^ (ys.length - 1) * (ys.getD (ys.length - 1) 0 + 4294967296 * num (ys.drop (ys.length - 1 + 1))) := Nat.mul_le_mul_left _ (by omega)
    have := Nat.pow_pos (n := ys.length - 1) (show 0 < 4294967296 by omega)
    omega
theorem norm_len_le {xs ys : List Nat} (hx : IsDig xs) (ny : Norm ys) (h : num ys ≤ num xs) : ys.length ≤ xs.length := by
  rcases Nat.lt_or_ge xs.length ys.length with hl | hl
  · have := len_less hx ny hl; omega
  · exact hl
theorem divQ_len {xs ys : List Nat} (h : IsDig xs) : (divQ xs ys).length ≤ xs.length := by
  unfold divQ; split
  · exact Nat.le_trans (digs_len_mono (Nat.div_le_self _ _)) (digs_len_num h)
  · simp
theorem divR_len {xs ys : List Nat} (h : IsDig xs) : (divR xs ys).length ≤ xs.length := by
  unfold divR; split
  · exact Nat.le_trans (digs_len_mono (Nat.mod_le _ _)) (digs_len_num h)
  · simp
end Go.Proofs.YtbkkalmdjcpgoaaDoor.Dig
namespace Go.Proofs.YtbkkalmdjcpgoaaDoor.Ref02
open Go.Proofs.YtbkkalmdjcpgoaaDoor.Dig
/-- right digits' number has no more digits than they -/
theorem prod_len {xs ys : List Nat} (hx : IsDig xs) (hy : IsDig ys) : (digs (num xs * num ys)).length ≤ xs.length + ys.length := by
  apply digs_len_le
  rw [Nat.pow_add]
  have h1 := num_lt hx
  have h2 := num_lt hy
  rcases Nat.eq_zero_or_pos (num ys) with h | h
  · rw [h, Nat.mul_zero]; exact Nat.mul_pos (Nat.pow_pos (by omega)) (Nat.pow_pos (by omega))
  · exact Nat.lt_of_lt_of_le (Nat.mul_lt_mul_of_pos_right h1 h) (Nat.mul_le_mul_left _ (Nat.le_of_lt h2))
end Go.Proofs.YtbkkalmdjcpgoaaDoor.Ref02
namespace Go.Proofs.YtbkkalmdjcpgoaaDoor.Ref02
open Go.Proofs.YtbkkalmdjcpgoaaDoor.Dig
/-- the number of the digits from place k on -/
theorem num_drop {ds : List Nat} {j : Nat} (h : j < ds.length) : num (ds.drop j) = ds.getD j 0 + 4294967296 * num (ds.drop (j + 1)) := by
  rw [drop_one h, num]
theorem num_short {ds : List Nat} (hd : IsDig ds) (h : ds.length ≤ 2) (j : Nat) : num (ds.drop j) < 18446744073709551616 ∧ (1 ≤ j → num (ds.drop j) < 4294967296) := by
  have h1 := num_lt (fun d hx => hd d (List.mem_of_mem_drop hx) : IsDig (ds.drop j))
  rw [List.length_drop] at h1
  refine ⟨Nat.lt_of_lt_of_le h1 (Nat.le_trans (Nat.pow_le_pow_right (j := 2) (by omega) (by omega)) (by decide)), fun hj => Nat.lt_of_lt_of_le h1 (Nat.le_trans (Nat.pow_le_pow_right (j := 1) (by omega) (by omega)) (by decide))⟩
end Go.Proofs.YtbkkalmdjcpgoaaDoor.Ref02
