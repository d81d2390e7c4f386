/- Decimal digits and numbers, back and forth. No Go in sight. -/
import Derived.Test.YtbkkalmdjcpgoaaDoorDec
import Derived.Test.YtbkkalmdjcpgoaaDoorNatSpec
namespace Go.Proofs.YtbkkalmdjcpgoaaDoor.Dig

theorem undec_decs (n : Nat) : undec (decs n) = n := by
  induction n using Nat.strongRecOn with
  | _ n ih =>
    by_cases h : n = 0
    · subst h; rfl
    · rw [decs_pos h, undec_snoc, ih (n / 10) (by omega)]
      have e : (UInt8.ofNat (48 + n % 10)).toNat = 48 + n % 10 := by
        rw [UInt8.toNat_ofNat']; omega
      rw [e]; omega
theorem allDec_decs (n : Nat) : allDec (decs n) = true := by
  induction n using Nat.strongRecOn with
  | _ n ih =>
    by_cases h : n = 0
    · subst h; rfl
    · rw [decs_pos h, allDec_snoc, ih (n / 10) (by omega)]
      have e : (UInt8.ofNat (48 + n % 10)).toNat = 48 + n % 10 := by
        rw [UInt8.toNat_ofNat']; omega
      rw [e]; simp; omega
theorem decs_ne {n : Nat} (h : n ≠ 0) : (decs n).length ≠ 0 := by
  rw [decs_pos h]; simp
theorem head_decs {n : Nat} (h : n ≠ 0) : ((decs n).getD 0 0).toNat ≠ 48 := by
  induction n using Nat.strongRecOn with
  | _ n ih =>
    by_cases h2 : n / 10 = 0
    · rw [decs_pos h, h2, decs_zero]
      have e : (UInt8.ofNat (48 + n % 10)).toNat = 48 + n % 10 := by
        rw [UInt8.toNat_ofNat']; omega
      simp only [List.nil_append, List.getD, List.getElem?_cons_zero, Option.getD_some]
      rw [e]; omega
    · rw [decs_pos h]
      have h3 := ih (n / 10) (by omega) h2
      have h4 := decs_ne h2
      have e : (decs (n / 10) ++ [UInt8.ofNat (48 + n % 10)]).getD 0 0 = (decs (n / 10)).getD 0 0 := by
        simp only [List.getD]
        rw [List.getElem?_append_left (by omega)]
      rw [e]; exact h3
theorem snoc_of {bs : List UInt8} (h : bs.length ≠ 0) : ∃ pre b, bs = pre ++ [b] := by
  obtain ⟨n, hn⟩ : ∃ n, bs.length = n + 1 := ⟨bs.length - 1, by omega⟩
  exact ⟨bs.take n, bs[n]'(by omega), by rw [← List.take_succ_eq_append_getElem (by omega), List.take_of_length_le (by omega)]⟩
theorem decs_undec {bs : List UInt8} (ha : allDec bs = true) (hh : bs.length = 0 ∨ (bs.getD 0 0).toNat ≠ 48) : decs (undec bs) = bs := by
  obtain ⟨n, hn⟩ : ∃ n, n = bs.length := ⟨_, rfl⟩
  induction n generalizing bs with
  | zero =>
    have : bs = [] := List.eq_nil_of_length_eq_zero hn.symm
    subst this; rfl
  | succ n ih =>
    obtain ⟨pre, b, rfl⟩ := snoc_of (by omega : bs.length ≠ 0)
    have hl : pre.length = n := by simp at hn; omega
    rw [allDec_snoc] at ha
    have hb : 48 ≤ b.toNat ∧ b.toNat ≤ 57 := by simp at ha; exact ha.2
    have hp : allDec pre = true := by simp at ha; exact ha.1
    have hh2 : pre.length = 0 ∨ (pre.getD 0 0).toNat ≠ 48 := by
      by_cases h0 : pre.length = 0
      · exact .inl h0
      · right
        rcases hh with hh | hh
        · simp at hh
        · simp only [List.getD] at hh ⊢
          rwa [List.getElem?_append_left (by omega)] at hh
    have h1 := ih hp hh2 hl.symm
    rw [undec_snoc]
    have hne : 10 * undec pre + (b.toNat - 48) ≠ 0 := by
      intro h0
      have hu : undec pre = 0 := by omega
      rw [hu, decs_zero] at h1
      subst h1
      rcases hh with hh | hh
      · simp at hh
      · simp at hh; omega
    rw [decs_pos hne, show (10 * undec pre + (b.toNat - 48)) / 10 = undec pre by omega, h1, show 48 + (10 * undec pre + (b.toNat - 48)) % 10 = b.toNat by omega]
    simp
end Go.Proofs.YtbkkalmdjcpgoaaDoor.Dig
