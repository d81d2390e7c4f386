/- What the small calls of the document's own answers for layer 2 give back: a digit, whether digits are right, the same, less. -/
import Derived.Test.YtbkkalmdjcpgoaaDoorRow
import Derived.Test.YtbkkalmdjcpgoaaDoorNatSpec
namespace Go.Proofs.YtbkkalmdjcpgoaaDoor.Ref02
open Go.RowKit
set_option linter.unusedVariables false
open Go.Proofs.YtbkkalmdjcpgoaaDoor.Dig

theorem digit_any (v : Value) (ds : List Nat) (i : Nat) (w : World) (h : Row w v ds) (hl : ds.length ≤ 1000000) :
    Calls Tryd.prog 67 #[v, .int .i64 (i : Int)] w fun e w' => e = .returned (.int .u64 ((ds.getD i 0 : Nat) : Int)) ∧ w = w' := by
  obtain ⟨hd, A, c, rfl, hc, -⟩ := h
  have hb := getD_lt hd i
  obtain ⟨d, hdd⟩ : ∃ d, d = ds.getD i 0 := ⟨_, rfl⟩
  rw [← hdd] at hb ⊢
  by_cases hi : i < ds.length
  · obtain ⟨b, o, rfl, hcc⟩ := hc (by omega)
    have hcell := hcc i hi
    rw [← hdd] at hcell
    clear hc hcc hdd hd
    go_enter Tryd.func67, Tryd.ntmps67
    go_wp2
    go_ret
    exact ⟨rfl, rfl⟩
  · have h0 : d = 0 := by rw [hdd]; simp [List.getD, Nat.le_of_not_lt hi]
    subst h0
    clear hc hdd hd
    go_enter Tryd.func67, Tryd.ntmps67
    go_wp2
    go_ret
    exact ⟨rfl, rfl⟩

set_option maxRecDepth 100000 in
theorem right_any (v : Value) (ds : List Nat) (w : World) (h : Row w v ds) (hl : ds.length ≤ 1000000) :
    Calls Tryd.prog 70 #[v] w fun e w' => e = .returned (.bool (rightB ds)) ∧ w = w' := by
  obtain ⟨hd, A, c, rfl, hc, -⟩ := h
  by_cases h1 : 256 < ds.length
  · have e : rightB ds = false := by simp [rightB]; omega
    rw [e]
    clear hc e
    go_enter Tryd.func70, Tryd.ntmps70
    go_wp2
    go_ret
    exact ⟨rfl, rfl⟩
  · by_cases h2 : ds.length = 0
    · have e : rightB ds = true := by simp [rightB, h2]
      rw [e]
      clear hc e
      have z : ((ds.length : Int) == 0) = true := by simp [h2]
      go_enter Tryd.func70, Tryd.ntmps70
      go_wp2
      go_ret
      exact ⟨rfl, rfl⟩
    · obtain ⟨b, o, rfl, hcc⟩ := hc (by omega)
      have hcell := hcc (ds.length - 1) (by omega)
      have e : rightB ds = ((ds.getD (ds.length - 1) 0 : Int) != 0) := by
        simp only [rightB]
        rw [decide_eq_true (by omega : ds.length ≤ 256), decide_eq_false h2]
        simp only [Bool.true_and, Bool.false_or]
        rw [Bool.eq_iff_iff]; simp
      obtain ⟨d, hdd⟩ : ∃ d, d = ds.getD (ds.length - 1) 0 := ⟨_, rfl⟩
      rw [e, ← hdd]
      rw [← hdd] at hcell
      obtain ⟨n, hn⟩ : ∃ n, ds.length = n + 1 := ⟨ds.length - 1, by omega⟩
      rw [hn] at h1 ⊢
      rw [hn, Nat.add_sub_cancel] at hcell
      have z : ((n : Int) + 1 == 0) = false := by simp; omega
      have h1' : (n : Int) + 1 ≤ 256 := by omega
      clear hc hcc hdd hd e h2 hn hl h1
      go_enter Tryd.func70, Tryd.ntmps70
      go_wp2
      go_ret
      exact ⟨rfl, rfl⟩
end Go.Proofs.YtbkkalmdjcpgoaaDoor.Ref02
