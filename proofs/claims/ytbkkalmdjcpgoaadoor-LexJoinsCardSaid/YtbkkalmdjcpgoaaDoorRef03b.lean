/- What the document's own Of, Neg, fit, Sum, Times, Add, Mul of layer 3 give back. -/
import Derived.Test.YtbkkalmdjcpgoaaDoorRef03r
import Derived.Test.YtbkkalmdjcpgoaaDoorRef02e
import Derived.Test.YtbkkalmdjcpgoaaDoorRef02h
namespace Go.Proofs.YtbkkalmdjcpgoaaDoor.Ref03
open Go.RowKit
set_option linter.unusedVariables false
open Go.Proofs.YtbkkalmdjcpgoaaDoor.Dig

theorem of_any (n : Int) (w : World) (hn : -9223372036854775808 ≤ n ∧ n ≤ 9223372036854775807) :
    Calls Tryd.prog 38 #[.int .i64 n] w (RetS (ngB n) (mag n) w) := by
  have HN := Lib.hid hn
  obtain ⟨h1, h2⟩ := hn
  by_cases h : n < 0
  · obtain ⟨u, hu⟩ : ∃ u : Nat, (u : Int) = -(n + 1) := ⟨(-(n + 1)).toNat, by omega⟩
    have hu2 : u < 18446744073709551616 := by omega
    have e1 : num (digs u) + num [1] = n.natAbs := by rw [num_digs, num_one]; omega
    have hl : (digs u).length ≤ 10 := Nat.le_trans (digs_len_le (k := 2) (by omega)) (by omega)
    have HL := Lib.hid hl
    have HU := Lib.hid hu2
    have E1 := Lib.hid e1
    have es := sign_mag n true (fun _ => by simp [ngB, h])
    have ES := Lib.hid es
    have hlm : (mag n).length ≤ 10 := Nat.le_trans (digs_len_le (k := 2) (by omega)) (by omega)
    have HLM := Lib.hid hlm
    have R1 := Lib.hid (show ∀ W : World, Row (W.alloc (.cells #[.int .u32 1] 81)) (.slice (some ⟨W.heap.size, 0, none⟩) 1 1) [1] from fun W => row_one W 81 1 (by omega))
    have hneg : -(n + 1) = (u : Int) := hu.symm
    clear hl e1 es hlm hu hu2
    go_enter Tryd.func38, Tryd.ntmps38
    go_wp2_with (first
      | (go_at_call 55; (with_reducible refine (Ref02.of_any u _ HU.out).mono ?_); rintro e w1 ⟨v1, rfl, hr1, hs1⟩)
      | (go_at_call 51; (with_reducible refine ((Ref02.plus_any v1 (.slice (some ⟨w1.heap.size, 0, none⟩) 1 1) (digs u) [1] _ (hr1.since (since_alloc _ _)) (R1.out w1) (by have := HL.out; omega) (by simp)).mono fun _ _ h => RetRow.sl h).mono ?_); rw [E1.out]; rintro e w2 ⟨A2, c2, rfl, hr2, hs2⟩)
      | (go_at_call 50; (with_reducible refine (made_any (.slice A2 (digs n.natAbs).length c2) true (mag n) _ hr2 (by have := HLM.out; omega)).mono ?_); rw [ES.out]; rintro e w3 ⟨rfl, hs3⟩; have hr2 := hr2.since hs3; have hK := ((hs1.alloc _).trans hs2).trans hs3; obtain ⟨c0, c1, f0, f1⟩ := keep2 hK))
    refine bodyPost_ret (v := sv (ngB n) (.slice A2 (digs n.natAbs).length c2)) ?_ rfl ?_
    · simp [results, Tryd.results38, go_sem, c0, c1]
    · exact ⟨_, _, rfl, row_set2 ‹Row w3 _ _› hK _ _, since_set2 hK _ _⟩
  · obtain ⟨u, rfl⟩ : ∃ u : Nat, n = (u : Int) := ⟨n.toNat, by omega⟩
    have HU := Lib.hid (show u < 18446744073709551616 by omega)
    have hl : (digs u).length ≤ 10 := Nat.le_trans (digs_len_le (k := 2) (by omega)) (by omega)
    have HL := Lib.hid hl
    have es : signB false (digs u) = ngB (u : Int) := by simp [signB, ngB]
    have ES := Lib.hid es
    have e2 : mag (u : Int) = digs u := rfl
    rw [e2]
    clear hl es e2
    go_enter Tryd.func38, Tryd.ntmps38
    go_wp2_with (first
      | (go_at_call 55; (with_reducible refine ((Ref02.of_any u _ HU.out).mono fun _ _ h => RetRow.sl h).mono ?_); rintro e w1 ⟨A2, c2, rfl, hr1, hs1⟩)
      | (go_at_call 50; (with_reducible refine (made_any (.slice A2 (digs u).length c2) false (digs u) _ hr1 (by have := HL.out; omega)).mono ?_); rw [ES.out]; rintro e w3 ⟨rfl, hs3⟩; have hr1 := hr1.since hs3; have hK := hs1.trans hs3; obtain ⟨c0, c1, f0, f1⟩ := keep2 hK))
    refine bodyPost_ret (v := sv (ngB (u : Int)) (.slice A2 (digs u).length c2)) ?_ rfl ?_
    · simp [results, Tryd.results38, go_sem, c0, c1]
    · exact ⟨_, _, rfl, row_set2 ‹Row w3 _ _› hK _ _, since_set2 hK _ _⟩
end Go.Proofs.YtbkkalmdjcpgoaaDoor.Ref03
