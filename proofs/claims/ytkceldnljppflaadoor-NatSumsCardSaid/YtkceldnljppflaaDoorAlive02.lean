/- The witness call of layer 2's statements gives true; what goes into the statements' calls reads as digits. -/
import Derived.Test.YtkceldnljppflaaDoorNat02
import Derived.Test.YtkceldnljppflaaDoorRowNew
namespace Go.Proofs.YtkceldnljppflaaDoor.Law02
open Go.RowKit
set_option linter.unusedVariables false
open Go.Proofs.YtkceldnljppflaaDoor.Dig
open Go.Proofs.YtkceldnljppflaaDoor.Ref02 (textD parseD)

theorem parseD_len (bs : List UInt8) : (parseD bs).1.length ≤ 256 := by
  unfold Ref02.parseD; split
  · simp
  · split
    · simp
    · split
      · simp
      · exact fitD_len _
theorem textD_len {xs : List Nat} (h : IsDig xs) : (textD xs).1.length ≤ 10 * xs.length + 1 := by
  unfold Ref02.textD; split
  · unfold text; split
    · simp
    · have := decs_num_len h; simp; omega
  · simp
theorem add_wit (va vb : Value) (W : World) (ha : Row W va [4294967295]) (hb : Row W vb [1]) : Calls Tryd.prog 22 #[va, vb] W (RetRowErr [0, 1] 0 W) := by
  have h := Nat02.add_any va vb _ _ W ha hb (by simp) (by simp)
  have e : addD [4294967295] [1] = ([0, 1], 0) := by
    have e1 : num [4294967295] + num [1] = num [0, 1] := rfl
    have e2 : digs (num [0, 1]) = [0, 1] := digs_num (by intro d hd; simp at hd; omega) (by right; decide)
    unfold addD
    rw [if_pos (by decide), e1, fitD, e2]; rfl
  rw [e] at h
  exact h
theorem text_wit (va : Value) (W : World) (ha : Row W va [0, 1]) : Calls Tryd.prog 30 #[va] W fun e w' => e = .returned (.tuple #[.string ⟨#[52, 50, 57, 52, 57, 54, 55, 50, 57, 54]⟩, .int .i64 0]) ∧ Since W w' := by
  have h := Nat02.text_any va _ W ha (by simp)
  have e : textD [0, 1] = ([52, 50, 57, 52, 57, 54, 55, 50, 57, 54], 0) := by
    have e1 : num [0, 1] = 4294967296 := rfl
    unfold Ref02.textD
    rw [if_pos (by decide), e1, text, if_neg (by decide)]
    simp [decs_pos, decs_zero]
  rw [e] at h
  exact h
theorem div_wit (va vb : Value) (W : World) (ha : Row W va [7]) (hb : Row W vb [2]) : Calls Tryd.prog 28 #[va, vb] W fun e w' => ∃ v1 v2, e = .returned (.tuple #[v1, v2, .int .i64 0]) ∧ Row w' v1 [3] ∧ Row w' v2 [1] ∧ Since W w' := by
  have h := Nat02.divmod_any va vb _ _ W ha hb (by simp) (by simp)
  have e1 : divQ [7] [2] = [3] := by
    unfold divQ
    rw [if_pos (by decide), show num [7] / num [2] = num [3] from rfl]
    exact digs_num (by intro d hd; simp at hd; omega) (by right; decide)
  have e2 : divR [7] [2] = [1] := by
    unfold divR
    rw [if_pos (by decide), show num [7] % num [2] = num [1] from rfl]
    exact digs_num (by intro d hd; simp at hd; omega) (by right; decide)
  have e3 : divE [7] [2] = 0 := by
    unfold divE
    rw [if_pos (by decide)]
  rw [e1, e2, e3] at h
  exact h
theorem same_wit (va vb : Value) (ds : List Nat) (W : World) (ha : Row W va ds) (hb : Row W vb ds) (hl : ds.length ≤ 1000) : Calls Tryd.prog 19 #[va, vb] W fun e w' => e = .returned (.bool true) ∧ Since W w' := by
  have h := Ref02.same_any va vb ds ds W ha hb (by omega) (by omega)
  have e : sameB ds ds = true := by simp [sameB]
  rw [e] at h
  exact h
theorem right_yes (va : Value) (W : World) (ha : Row W va [0, 1]) : Calls Tryd.prog 17 #[va] W fun e w' => e = .returned (.bool true) ∧ Since W w' :=
  Nat02.right_any va [0, 1] W ha (by simp)
theorem right_no (va : Value) (W : World) (ha : Row W va [1, 0]) : Calls Tryd.prog 17 #[va] W fun e w' => e = .returned (.bool false) ∧ Since W w' :=
  Nat02.right_any va [1, 0] W ha (by simp)

set_option maxRecDepth 100000 in
set_option maxHeartbeats 1000000 in
theorem alive (w : World) : Calls Tryd.prog 11 #[] w fun e w' => e = .returned (.bool true) ∧ Since w w' := by
  have P1 := Lib.hid (show ∀ W : World, Row ((W.alloc (.cells #[.int .u32 4294967295] 55)).alloc (.cells #[.int .u32 1] 55)) (.slice (some ⟨W.heap.size, 0, none⟩) 1 1) [4294967295] ∧ Row ((W.alloc (.cells #[.int .u32 4294967295] 55)).alloc (.cells #[.int .u32 1] 55)) (.slice (some ⟨W.heap.size + 1, 0, none⟩) 1 1) [1] from fun W => pair_new W 55 4294967295 1 (by omega) (by omega))
  have P2 := Lib.hid (show ∀ W : World, Row ((W.alloc (.cells #[.int .u32 7] 55)).alloc (.cells #[.int .u32 2] 55)) (.slice (some ⟨W.heap.size, 0, none⟩) 1 1) [7] ∧ Row ((W.alloc (.cells #[.int .u32 7] 55)).alloc (.cells #[.int .u32 2] 55)) (.slice (some ⟨W.heap.size + 1, 0, none⟩) 1 1) [2] from fun W => pair_new W 55 7 2 (by omega) (by omega))
  have A1 := Lib.hid (show ∀ W : World, Row (W.alloc (.cells #[.int .u32 0, .int .u32 1] 55)) (.slice (some ⟨W.heap.size, 0, none⟩) 2 2) [0, 1] from fun W => row_two W 55 0 1 (by omega) (by omega))
  have A2 := Lib.hid (show ∀ W : World, Row (W.alloc (.cells #[.int .u32 1, .int .u32 0] 55)) (.slice (some ⟨W.heap.size, 0, none⟩) 2 2) [1, 0] from fun W => row_two W 55 1 0 (by omega) (by omega))
  have A3 := Lib.hid (show ∀ W : World, Row (W.alloc (.cells #[.int .u32 3] 55)) (.slice (some ⟨W.heap.size, 0, none⟩) 1 1) [3] from fun W => row_one W 55 3 (by omega))
  have A4 := Lib.hid (show ∀ W : World, Row (W.alloc (.cells #[.int .u32 1] 55)) (.slice (some ⟨W.heap.size, 0, none⟩) 1 1) [1] from fun W => row_one W 55 1 (by omega))
  have hS := Since.refl w
  go_enter Tryd.func11, Tryd.ntmps11
  go_wp2_with (first
    | (go_at_call 22; (with_reducible refine (add_wit (.slice (some ⟨w.heap.size, 0, none⟩) 1 1) (.slice (some ⟨w.heap.size + 1, 0, none⟩) 1 1) _ (P1.out w).1 (P1.out w).2).mono ?_); rintro e w1 ⟨v1, rfl, hr1, hs1⟩; have hS := ((hS.alloc _).alloc _).trans hs1)
    | (go_at_call 30; (with_reducible refine (text_wit (.slice (some ⟨w1.heap.size, 0, none⟩) 2 2) _ (A1.out w1)).mono ?_); rintro e w2 ⟨rfl, hs2⟩; have hr1 := hr1.since ((since_alloc _ _).trans hs2); have hS := (hS.alloc _).trans hs2)
    | (go_at_call 28; (with_reducible refine (div_wit (.slice (some ⟨w2.heap.size, 0, none⟩) 1 1) (.slice (some ⟨w2.heap.size + 1, 0, none⟩) 1 1) _ (P2.out w2).1 (P2.out w2).2).mono ?_); rintro e w3 ⟨v2, v3, rfl, hr2, hr3, hs3⟩; have hr1 := hr1.since (((since_alloc _ _).trans (since_alloc _ _)).trans hs3); have hS := ((hS.alloc _).alloc _).trans hs3)
    | (go_at_call 19; (with_reducible refine (same_wit v1 (.slice (some ⟨w3.heap.size, 0, none⟩) 2 2) [0, 1] _ (hr1.since (since_alloc _ _)) (A1.out w3) (by simp)).mono ?_); rintro e w4 ⟨rfl, hs4⟩; have hr1 := hr1.since ((since_alloc _ _).trans hs4); have hr2 := hr2.since ((since_alloc _ _).trans hs4); have hr3 := hr3.since ((since_alloc _ _).trans hs4); have hS := (hS.alloc _).trans hs4)
    | (go_at_call 19; (with_reducible refine (same_wit v2 (.slice (some ⟨w4.heap.size, 0, none⟩) 1 1) [3] _ (hr2.since (since_alloc _ _)) (A3.out w4) (by simp)).mono ?_); rintro e w5 ⟨rfl, hs5⟩; have hr1 := hr1.since ((since_alloc _ _).trans hs5); have hr3 := hr3.since ((since_alloc _ _).trans hs5); have hS := (hS.alloc _).trans hs5)
    | (go_at_call 19; (with_reducible refine (same_wit v3 (.slice (some ⟨w5.heap.size, 0, none⟩) 1 1) [1] _ (hr3.since (since_alloc _ _)) (A4.out w5) (by simp)).mono ?_); rintro e w6 ⟨rfl, hs6⟩; have hr1 := hr1.since ((since_alloc _ _).trans hs6); have hS := (hS.alloc _).trans hs6)
    | (go_at_call 17; (with_reducible refine (right_yes v1 _ hr1).mono ?_); rintro e w7 ⟨rfl, hs7⟩; have hS := hS.trans hs7)
    | (go_at_call 17; (with_reducible refine (right_no (.slice (some ⟨w7.heap.size, 0, none⟩) 2 2) _ (A2.out w7)).mono ?_); rintro e w8 ⟨rfl, hs8⟩; have hS := (hS.alloc _).trans hs8))
  go_ret
  exact ⟨rfl, hS⟩

theorem few_yes (a0 a1 : Option Addr) (n0 c0 n1 c1 : Nat) (w : World) (h0 : n0 ≤ 40) (h1 : n1 ≤ 40) :
    Calls Tryd.prog 12 #[.slice a0 n0 c0, .slice a1 n1 c1] w fun e w' => e = .returned (.bool true) ∧ w = w' := by
  go_enter Tryd.func12, Tryd.ntmps12
  go_wp2
  go_ret
  exact ⟨ret_bool (by simp; omega), rfl⟩
theorem few_no (a0 a1 : Option Addr) (n0 c0 n1 c1 : Nat) (w : World) (h : 40 < n0 ∨ 40 < n1) :
    Calls Tryd.prog 12 #[.slice a0 n0 c0, .slice a1 n1 c1] w fun e w' => e = .returned (.bool false) ∧ w = w' := by
  by_cases h0 : 40 < n0
  · clear h
    go_enter Tryd.func12, Tryd.ntmps12
    go_wp2
    go_ret
    exact ⟨rfl, rfl⟩
  · have h1 : 40 < n1 := by omega
    clear h
    go_enter Tryd.func12, Tryd.ntmps12
    go_wp2
    go_ret
    exact ⟨ret_bool (by simp; omega), rfl⟩
end Go.Proofs.YtkceldnljppflaaDoor.Law02
