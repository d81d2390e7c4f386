/- What afterSign and newToken of the landed lex give back. -/
import Derived.Test.YtioicmmebmhdgaaGreatDoorVc
import Derived.Test.YtioicmmebmhdgaaGreatDoorShelf
import Derived.Test.YtioicmmebmhdgaaGreatDoorVa
import Derived.Deep.DeepCutAuto
namespace Go.Proofs.YtioicmmebmhdgaaGreatDoor.Lex
open Go.RowKit
set_option linter.unusedVariables false
set_option linter.unusedSimpArgs false
open Go.Proofs.YtioicmmebmhdgaaGreatDoor.Dig Go.Proofs.YtioicmmebmhdgaaGreatDoor.Lx Go.Proofs.YtioicmmebmhdgaaGreatDoor.Tk

/-- the ten short signs -/
abbrev shorts : List UInt8 := [58, 123, 125, 91, 93, 40, 41, 44, 59, 61]
theorem index_pos : ∀ (l : List UInt8) (c : UInt8), (0 ≤ Lib.indexByte l c ↔ l.any (· == c) = true) ∧ -1 ≤ Lib.indexByte l c
  | [], c => by simp [Lib.indexByte]
  | b :: l, c => by
    have ⟨h1, h2⟩ := index_pos l c
    rw [List.any_cons]
    by_cases h : (b == c) = true
    · have e : Lib.indexByte (b :: l) c = 0 := by rw [Lib.indexByte, if_pos h]
      rw [e, h]; simp
    · have h' : (b == c) = false := by simpa using h
      rw [h', Bool.false_or, ← h1]
      by_cases h3 : (Lib.indexByte l c == -1) = true
      · have e : Lib.indexByte (b :: l) c = -1 := by rw [Lib.indexByte, if_neg h, if_pos h3]
        rw [beq_iff_eq] at h3
        rw [e, h3]; simp
      · have e : Lib.indexByte (b :: l) c = Lib.indexByte l c + 1 := by rw [Lib.indexByte, if_neg h, if_neg h3]
        rw [beq_iff_eq] at h3
        rw [e]; omega
theorem short_sign (c : UInt8) : shorts.any (· == c) = signB c := by
  rw [Bool.eq_iff_iff]
  simp only [List.any_cons, List.any_nil, Bool.or_false, Bool.or_eq_true, beq_iff_eq, signB, decide_eq_true_eq]
  have e : ∀ n : UInt8, n = c ↔ c.toNat = n.toNat := fun n => ⟨fun h => by rw [h], fun h => (UInt8.toNat_inj.1 h).symm⟩
  simp only [e]
  exact Iff.rfl
/-- is a byte a short sign: the landed code's question -/
theorem index_any (c : UInt8) (w : World) :
    Calls Tryz.prog 83 #[.string ⟨#[58, 123, 125, 91, 93, 40, 41, 44, 59, 61]⟩, .int .u8 (c.toNat : Int)] w fun e w' => ∃ i : Int, e = .returned (.int .i64 i) ∧ decide (0 ≤ i) = signB c ∧ -1 ≤ i ∧ w = w' := by
  refine (Sh.strings_IndexByte ⟨#[58, 123, 125, 91, 93, 40, 41, 44, 59, 61]⟩ (c.toNat : Int) w).mono ?_
  rintro e w' ⟨rfl, rfl⟩
  have hc : (c.toNat : Int).toNat.toUInt8 = c := by simp
  rw [hc]
  have h := index_pos shorts c
  exact ⟨_, rfl, by rw [Bool.eq_iff_iff, decide_eq_true_iff, ← short_sign]; exact h.1, h.2, rfl⟩
theorem prefix_any (s : ByteArray) (a b : UInt8) (p : ByteArray) (hp : p.data.toList = [a, b]) (w : World) {r : Bool} (hr : [a, b].isPrefixOf (L s) = r) :
    Calls Tryz.prog 82 #[.string s, .string p] w fun e w' => e = .returned (.bool r) ∧ w = w' := by
  refine (Sh.strings_HasPrefix s p w).mono ?_
  rintro e w' ⟨rfl, rfl⟩
  refine ⟨?_, rfl⟩
  rw [← hr, hp]; rfl
theorem two_pre {s : ByteArray} {k : Nat} (h : k < s.size) (a b : UInt8) : [a, b].isPrefixOf ((L s).drop k) = (a == s[k] && decide (∃ g : k + 1 < s.size, b = s[k + 1])) := by
  rw [L_drop s k h]
  by_cases g : k + 1 < s.size
  · rw [L_drop s (k + 1) g]
    rw [Bool.eq_iff_iff]
    simp [List.isPrefixOf, g]
  · rw [L_end s (k + 1) (by omega)]
    rw [Bool.eq_iff_iff]
    simp [List.isPrefixOf, g]
/-- do two of a byte stand at a place -/
def twoB (a : UInt8) (s : ByteArray) (k : Nat) : Bool := [a, a].isPrefixOf ((L s).drop k)
theorem two_word {s : ByteArray} {k : Nat} (h : k < s.size) (ht : twoB 58 s k = true ∨ twoB 46 s k = true) : word ((L s).drop k) = (3, 2) := by
  unfold twoB at ht
  rw [two_pre h, two_pre h] at ht
  simp only [Bool.and_eq_true, beq_iff_eq, decide_eq_true_eq] at ht
  rcases ht with ⟨h1, g, h2⟩ | ⟨h1, g, h2⟩
  · exact word_two g (.inl (by rw [← h1]; rfl)) (by rw [← h1, ← h2])
  · exact word_two g (.inr (by rw [← h1]; rfl)) (by rw [← h1, ← h2])
theorem two_not {s : ByteArray} {k : Nat} (h : k < s.size) {a : UInt8} (ht : twoB a s k = false) (h1 : s[k].toNat = a.toNat) (g : k + 1 < s.size) : s[k + 1].toNat ≠ a.toNat := by
  intro h2
  unfold twoB at ht
  rw [two_pre h] at ht
  have e1 : a = s[k] := (UInt8.toNat_inj.1 h1).symm
  have e2 : a = s[k + 1] := (UInt8.toNat_inj.1 h2).symm
  have : (a == s[k] && decide (∃ g : k + 1 < s.size, a = s[k + 1])) = true := by
    rw [Bool.and_eq_true, beq_iff_eq, decide_eq_true_eq]; exact ⟨e1, g, e2⟩
  rw [this] at ht; cases ht
theorem sign_upto {s : ByteArray} {k : Nat} (h : k < s.size) (h1 : twoB 58 s k = false) (h2 : twoB 46 s k = false) : upto 3 s k = if signB s[k] = true then k + 1 else k := by
  by_cases hs : signB s[k] = true
  · rw [if_pos hs]
    unfold upto
    rw [word_one h hs (fun e g => two_not h h1 e g), if_pos rfl]
  · rw [if_neg hs]
    unfold upto
    rw [if_neg]
    intro hw
    rw [L_drop s k h] at hw
    simp only [word] at hw
    by_cases a1 : letterB s[k] = true
    · rw [if_pos a1] at hw; simp at hw
    rw [if_neg a1] at hw
    by_cases a2 : digB s[k] = true
    · rw [if_pos a2] at hw; simp at hw
    rw [if_neg a2] at hw
    split at hw
    · simp at hw
    split at hw
    · rename_i a4
      obtain ⟨a5, a6⟩ := a4
      by_cases g : k + 1 < s.size
      · have a7 := (head_at g).1 a6
        rcases a5 with a5 | a5
        · exact two_not h h1 a5 g (by rw [a7]; exact a5)
        · exact two_not h h2 a5 g (by rw [a7]; exact a5)
      · rw [L_end s _ (by omega)] at a6; simp at a6
    · simp at hw
theorem rest_at {s : ByteArray} {k : Nat} (h : k < s.size) : (s.extract k s.size).size = s.size - k ∧ L (s.extract k s.size) = (L s).drop k := by
  refine ⟨by rw [ByteArray.size_extract]; omega, ?_⟩
  rw [L_extract _ _ _ (by omega), List.take_of_length_le (by rw [List.length_drop, L_len]; exact Nat.le_refl _)]
theorem rest_first {s : ByteArray} {k : Nat} (h : k < s.size) (g : 0 < (s.extract k s.size).size) : (s.extract k s.size)[0] = s[k] :=
  ByteArray.getElem_extract (start := k) (stop := s.size) (b := s) (i := 0) g
theorem rest_all {s : ByteArray} {k : Nat} (h : k < s.size) : ∃ T : ByteArray, Hid (T = s.extract k s.size) ∧ ∃ g : 0 < T.size, L T = (L s).drop k ∧ T[0] = s[k] := by
  obtain ⟨r1, r2⟩ := rest_at h
  exact ⟨_, rfl, by omega, r2, rest_first h (by omega)⟩
set_option maxHeartbeats 1000000 in
theorem afterSign_any (s : ByteArray) (k : Nat) (w : World) (hk : k < s.size) (hs : s.size ≤ 100000) :
    Calls Tryz.prog 50 #[.string s, .int .i64 (k : Int)] w fun e w' => e = .returned (.int .i64 ((upto 3 s k : Nat) : Int)) ∧ w = w' := by
  obtain ⟨T, HT, gT, r2, r3⟩ := rest_all hk
  have hne : T.toList.isEmpty = false := by
    rw [ByteArray.toList_eq, List.isEmpty_eq_false_iff]
    intro h; have hz : T.data.toList.length = T.size := Array.length_toList; rw [h] at hz; simp at hz; omega
  have hne2 : ¬ T.toList = [] := by intro h; rw [h] at hne; simp at hne
  have HP1 := Lib.hid (fun (W : World) => prefix_any T 58 58 ⟨#[58, 58]⟩ rfl W (r := twoB 58 s k) (by rw [r2]; rfl))
  have HP2 := Lib.hid (fun (W : World) => prefix_any T 46 46 ⟨#[46, 46]⟩ rfl W (r := twoB 46 s k) (by rw [r2]; rfl))
  have HI := Lib.hid (fun (W : World) => index_any T[0] W)
  rw [r3] at HI
  clear r2
  by_cases h1 : twoB 58 s k = true
  · have HU := Lib.hid (show upto 3 s k = k + 2 by unfold upto; rw [two_word hk (.inl h1), if_pos rfl])
    rw [h1] at HP1
    clear h1
    go_enter Tryz.func50, Tryz.ntmps50
    go_upto_region 2 with fail
    rw [← HT.out]
    go_wp2_with (go_at_call 82; (with_reducible refine (HP1.out _).mono ?_); rintro e w1 ⟨rfl, rfl⟩)
    go_ret
    exact ⟨ret_int (congrArg (fun n : Nat => (n : Int)) HU.out.symm), rfl⟩
  have h1' : twoB 58 s k = false := by simpa using h1
  by_cases h2 : twoB 46 s k = true
  · have HU := Lib.hid (show upto 3 s k = k + 2 by unfold upto; rw [two_word hk (.inr h2), if_pos rfl])
    rw [h1'] at HP1
    rw [h2] at HP2
    clear h1 h1' h2
    go_enter Tryz.func50, Tryz.ntmps50
    go_upto_region 2 with fail
    rw [← HT.out]
    go_wp2_with (first
      | (go_at_call 82; (with_reducible refine (HP1.out _).mono ?_); rintro e w1 ⟨rfl, rfl⟩)
      | (go_at_call 82; (with_reducible refine (HP2.out _).mono ?_); rintro e w1 ⟨rfl, rfl⟩))
    go_ret
    exact ⟨ret_int (congrArg (fun n : Nat => (n : Int)) HU.out.symm), rfl⟩
  have h2' : twoB 46 s k = false := by simpa using h2
  have HU := Lib.hid (sign_upto hk h1' h2')
  rw [h1'] at HP1
  rw [h2'] at HP2
  clear h1 h1' h2 h2'
  by_cases h3 : signB s[k] = true
  · have HU2 := Lib.hid (HU.out.trans (if_pos h3))
    rw [h3] at HI
    clear h3
    go_enter Tryz.func50, Tryz.ntmps50
    go_upto_region 2 with fail
    rw [← HT.out]
    go_wp2_with (first
      | (go_at_call 82; (with_reducible refine (HP1.out _).mono ?_); rintro e w1 ⟨rfl, rfl⟩)
      | (go_at_call 82; (with_reducible refine (HP2.out _).mono ?_); rintro e w1 ⟨rfl, rfl⟩)
      | (go_at_call 83; (try rw [r3]); (with_reducible refine (HI.out _).mono ?_); rintro e w1 ⟨i, rfl, hi1, hi2, rfl⟩))
    go_ret
    exact ⟨ret_int (congrArg (fun n : Nat => (n : Int)) HU2.out.symm), rfl⟩
  · have HU2 := Lib.hid (HU.out.trans (if_neg h3))
    rw [show signB s[k] = false by simpa using h3] at HI
    clear h3
    go_enter Tryz.func50, Tryz.ntmps50
    go_upto_region 2 with fail
    rw [← HT.out]
    go_wp2_with (first
      | (go_at_call 82; (with_reducible refine (HP1.out _).mono ?_); rintro e w1 ⟨rfl, rfl⟩)
      | (go_at_call 82; (with_reducible refine (HP2.out _).mono ?_); rintro e w1 ⟨rfl, rfl⟩)
      | (go_at_call 83; (try rw [r3]); (with_reducible refine (HI.out _).mono ?_); rintro e w1 ⟨i, rfl, hi1, hi2, rfl⟩))
    go_ret
    exact ⟨ret_int (congrArg (fun n : Nat => (n : Int)) HU2.out.symm), rfl⟩
theorem clone_any (s : ByteArray) (w : World) (hs : s.size ≤ 100000) :
    Calls Tryz.prog 81 #[.string s] w fun e w' => e = .returned (.string s) ∧ Since w w' := by
  have HC := Lib.hid (fun (W : World) => Sh.stringslite_Clone s W (by omega))
  go_enter Tryz.func81, Tryz.ntmps81
  go_wp2_with (go_at_call 112; (with_reducible refine (HC.out _).mono ?_); rintro e w1 ⟨rfl, hx⟩)
  go_ret
  exact ⟨rfl, hx⟩
theorem keep4 {w W : World} {z0 z1 z2 z3 : Value} {t : TypeId} (h : Since (w.alloc (.cells #[z0, z1, z2, z3] t)) W) : Bx W w.heap.size #[z0, z1, z2, z3] t := Bx.new h rfl
theorem newToken_any (kd v a : Int) (s : ByteArray) (w : World) (hs : s.size ≤ 100000) :
    Calls Tryz.prog 49 #[.int .i64 kd, .string s, .int .i64 v, .int .i64 a] w fun e w' => e = .returned (.agg #[.int .i64 kd, .string s, .int .i64 v, .int .i64 a]) ∧ Since w w' := by
  have HC := Lib.hid (fun (W : World) => clone_any s W hs)
  go_enter Tryz.func49, Tryz.ntmps49
  go_wp2_with (go_at_call 81; (with_reducible refine (HC.out _).mono ?_); rintro e w1 ⟨rfl, hx⟩; have gb := keep4 hx; obtain ⟨q0, q1, q2, q3⟩ := gb.four; obtain ⟨f0, f1, f2, f3⟩ := gb.four')
  refine bodyPost_ret (v := .agg #[.int .i64 kd, .string s, .int .i64 v, .int .i64 a]) ?_ rfl ?_
  · simp [results, Tryz.results49, go_sem, q0, q1, q2, q3]
  · exact ⟨rfl, since_put4 ((since_alloc _ _).trans hx) (Nat.le_refl _) _ _ _ _⟩
end Go.Proofs.YtioicmmebmhdgaaGreatDoor.Lex
