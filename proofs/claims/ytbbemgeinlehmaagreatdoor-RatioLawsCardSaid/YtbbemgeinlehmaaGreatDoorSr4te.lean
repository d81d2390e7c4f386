/- What Text of package ratio gives back. -/
import Derived.Test.YtbbemgeinlehmaaGreatDoorTa
import Derived.Test.YtbbemgeinlehmaaGreatDoorSt
import Derived.Deep.DeepCutAuto
namespace Go.Proofs.YtbbemgeinlehmaaGreatDoor.Sr04
open Go.RowKit
set_option linter.unusedVariables false
open Go.Proofs.YtbbemgeinlehmaaGreatDoor.Dig Go.Proofs.YtbbemgeinlehmaaGreatDoor.R4 Go.Proofs.YtbbemgeinlehmaaGreatDoor.Fr
open Go.Proofs.YtbbemgeinlehmaaGreatDoor.Ref03 (sv srightB gcdZ divZ negZ mulZ addZ cmpZ textZ sval ngB mag RetZ RetQR RetS)
set_option linter.unusedSimpArgs false
open Go.Proofs.YtbbemgeinlehmaaGreatDoor.Ref04

theorem bytes_join (a b : List UInt8) : (⟨a.toArray⟩ : ByteArray) ++ ⟨#[47]⟩ ++ ⟨b.toArray⟩ = ⟨(a ++ 47 :: b).toArray⟩ := by
  apply ByteArray.ext
  rw [ByteArray.data_append, ByteArray.data_append]
  simp
theorem textZ_len {na : Bool} {xs : List Nat} (dx : IsDig xs) (lx : xs.length ≤ 1000) : (textZ na xs).1.length ≤ 20001 := by
  have h1 := decs_num_len dx
  have h2 : (text (num xs)).length ≤ 20000 := by
    unfold text; split
    · simp
    · omega
  unfold textZ
  split
  · split
    · simp; omega
    · show (text (num xs)).length ≤ 20001; omega
  · simp
theorem text_at (A0 : Option Addr) (c0 : Nat) (na : Bool) (xs : List Nat) (w : World) (hx : Row w (.slice A0 xs.length c0) xs) (lx : xs.length ≤ 1000) {l : List UInt8} (h : textZ na xs = (l, 0)) :
    Calls Tryz.prog 56 #[sv na (.slice A0 xs.length c0)] w fun e w' => e = .returned (.tuple #[.string ⟨l.toArray⟩, .int .i64 0]) ∧ Since w w' := by
  have k := Sg03.text_any A0 c0 na xs w hx lx
  rw [h] at k
  exact k
set_option maxRecDepth 100000 in
set_option maxHeartbeats 4000000 in
theorem text_any (A0 A1 : Option Addr) (c0 c1 : Nat) (na nb : Bool) (xs ys : List Nat) (w : World) (hx : Row w (.slice A0 xs.length c0) xs) (hy : Row w (.slice A1 ys.length c1) ys) (lx : xs.length ≤ 1000) (ly : ys.length ≤ 1000) :
    Calls Tryz.prog 28 #[.agg #[.bool na, .slice A0 xs.length c0, .bool nb, .slice A1 ys.length c1]] w fun e w' => e = .returned (.tuple #[.string ⟨(textR ((na, xs), (nb, ys))).1.toArray⟩, .int .i64 (textR ((na, xs), (nb, ys))).2]) ∧ Since w w' := by
  have H := Lib.hid (And.intro hx hy)
  have LL := Lib.hid (And.intro lx ly)
  obtain ⟨W0, hW0⟩ : ∃ W0, W0 = w.alloc (.cells #[.bool na, .slice A0 xs.length c0, .bool nb, .slice A1 ys.length c1] 31) := ⟨_, rfl⟩
  have HW := Lib.hid hW0
  have hS0 : Since w W0 := by rw [hW0]; exact (Since.refl w).alloc _
  have hbx : Hid (∀ W : World, Since W0 W → Bx W (w.heap.size) #[.bool na, .slice A0 xs.length c0, .bool nb, .slice A1 ys.length c1] 31) := fun W h => Bx.new (hW0 ▸ h) (by simp)
  clear hW0
  have hK := Since.refl W0
  clear hx hy lx ly
  by_cases rr : rrB ((na, xs), (nb, ys)) = true
  rotate_left
  · have FN := Lib.hid (show textR ((na, xs), (nb, ys)) = ([], 2) from if_neg rr)
    have RR := Lib.hid (show rrB ((na, xs), (nb, ys)) = false by simpa using rr)
    clear rr
    go_enter Tryz.func28, Tryz.ntmps28
    go_wp2_with fail
    rw [← HW.out]
    obtain B0 := hbx.out _ hK; obtain ⟨k0a, k0b, k0c, k0d⟩ := B0.four
    go_wp2_with (first
      | (go_at_call 35; (with_reducible refine (right_any A0 A1 c0 c1 na nb xs ys _ (H.out.1.since (hS0.trans hK)) (H.out.2.since (hS0.trans hK)) (by have := LL.out; omega) (by have := LL.out; omega)).mono ?_); rw [RR.out]; rintro e w1 ⟨rfl, h⟩; have hK := hK.trans h; obtain B0 := hbx.out _ hK; obtain ⟨k0a, k0b, k0c, k0d⟩ := B0.four))
    refine bodyPost_ret (v := .tuple #[.string ⟨#[]⟩, .int .i64 2]) ?_ rfl ?_
    · simp [results, Tryz.results28, go_sem]
    · rw [FN.out]; exact ⟨by simp, hS0.trans hK⟩
  have NB : nb = false := (well_parts (rr_parts rr).1).2.2.2.2.1
  have RR := Lib.hid rr
  have T1 := Lib.hid (show textZ na xs = ((textZ na xs).1, 0) by unfold textZ; rw [if_pos (well_parts (rr_parts rr).1).1])
  have T2 := Lib.hid (show textZ nb ys = ((textZ nb ys).1, 0) by unfold textZ; rw [if_pos (well_parts (rr_parts rr).1).2.1])
  have FN0 : textR ((na, xs), (nb, ys)) = ((textZ na xs).1 ++ (if oneB (nb, ys) = true then [] else 47 :: (textZ nb ys).1), 0) := if_pos rr
  rw [show oneB (nb, ys) = decide (ys = [1]) by rw [NB]; simp [oneB]] at FN0
  clear rr NB
  obtain ⟨t1, ht1⟩ : ∃ t, t = (textZ na xs).1 := ⟨_, rfl⟩
  obtain ⟨t2, ht2⟩ : ∃ t, t = (textZ nb ys).1 := ⟨_, rfl⟩
  rw [← ht1] at T1 FN0
  rw [← ht2] at T2 FN0
  have g1 : t1.length ≤ 20001 := ht1 ▸ textZ_len H.out.1.dig LL.out.1
  have g2 : t2.length ≤ 20001 := ht2 ▸ textZ_len H.out.2.dig LL.out.2
  have gg1 : ¬ (9223372036854775807 < t1.length + 1) := by omega
  have gg2 : ¬ (9223372036854775807 < t1.length + 1 + t2.length) := by omega
  clear ht1 ht2
  have FH := Lib.hid FN0
  clear FN0
  by_cases h1 : decide (ys = [1]) = true
  · have FN := Lib.hid (FH.out.trans (by rw [if_pos h1]))
    have ON := Lib.hid h1
    clear h1
    go_enter Tryz.func28, Tryz.ntmps28
    go_wp2_with fail
    rw [← HW.out]
    obtain B0 := hbx.out _ hK; obtain ⟨k0a, k0b, k0c, k0d⟩ := B0.four
    go_wp2_with (first
      | (go_at_call 35; (with_reducible refine (right_any A0 A1 c0 c1 na nb xs ys _ (H.out.1.since (hS0.trans hK)) (H.out.2.since (hS0.trans hK)) (by have := LL.out; omega) (by have := LL.out; omega)).mono ?_); rw [RR.out]; rintro e w1 ⟨rfl, h⟩; have hK := hK.trans h; obtain B0 := hbx.out _ hK; obtain ⟨k0a, k0b, k0c, k0d⟩ := B0.four)
      | (go_at_call 56; (with_reducible refine (text_at A0 c0 na xs _ (H.out.1.since (hS0.trans hK)) (by have := LL.out; omega) T1.out).mono ?_); rintro e w2 ⟨rfl, h⟩; have hK := hK.trans h; obtain B0 := hbx.out _ hK; obtain ⟨k0a, k0b, k0c, k0d⟩ := B0.four)
      | (go_at_call 57; (with_reducible refine (one_any A1 c1 nb ys _ (H.out.2.since (hS0.trans hK)) (by have := LL.out; omega)).mono ?_); rw [ON.out]; rintro e w3 ⟨rfl, h⟩; have hK := hK.trans h; obtain B0 := hbx.out _ hK; obtain ⟨k0a, k0b, k0c, k0d⟩ := B0.four))
    refine bodyPost_ret (v := .tuple #[.string ⟨t1.toArray⟩, .int .i64 0]) ?_ rfl ?_
    · simp [results, Tryz.results28, go_sem]
    · rw [FN.out]; exact ⟨by simp, hS0.trans hK⟩
  have FN := Lib.hid (FH.out.trans (by rw [if_neg h1]))
  have ON := Lib.hid (show decide (ys = [1]) = false by simpa using h1)
  clear h1
  go_enter Tryz.func28, Tryz.ntmps28
  go_wp2_with fail
  rw [← HW.out]
  obtain B0 := hbx.out _ hK; obtain ⟨k0a, k0b, k0c, k0d⟩ := B0.four
  go_wp2_with (first
    | (go_at_call 35; (with_reducible refine (right_any A0 A1 c0 c1 na nb xs ys _ (H.out.1.since (hS0.trans hK)) (H.out.2.since (hS0.trans hK)) (by have := LL.out; omega) (by have := LL.out; omega)).mono ?_); rw [RR.out]; rintro e w1 ⟨rfl, h⟩; have hK := hK.trans h; obtain B0 := hbx.out _ hK; obtain ⟨k0a, k0b, k0c, k0d⟩ := B0.four)
    | (go_at_call 56; (with_reducible refine (text_at A0 c0 na xs _ (H.out.1.since (hS0.trans hK)) (by have := LL.out; omega) T1.out).mono ?_); rintro e w2 ⟨rfl, h⟩; have hK := hK.trans h; obtain B0 := hbx.out _ hK; obtain ⟨k0a, k0b, k0c, k0d⟩ := B0.four)
    | (go_at_call 57; (with_reducible refine (one_any A1 c1 nb ys _ (H.out.2.since (hS0.trans hK)) (by have := LL.out; omega)).mono ?_); rw [ON.out]; rintro e w3 ⟨rfl, h⟩; have hK := hK.trans h; obtain B0 := hbx.out _ hK; obtain ⟨k0a, k0b, k0c, k0d⟩ := B0.four)
    | (go_at_call 56; (with_reducible refine (text_at A1 c1 nb ys _ (H.out.2.since (hS0.trans hK)) (by have := LL.out; omega) T2.out).mono ?_); rintro e w4 ⟨rfl, h⟩; have hK := hK.trans h; obtain B0 := hbx.out _ hK; obtain ⟨k0a, k0b, k0c, k0d⟩ := B0.four))
  refine bodyPost_ret (v := .tuple #[.string (⟨t1.toArray⟩ ++ ⟨#[47]⟩ ++ ⟨t2.toArray⟩), .int .i64 0]) ?_ rfl ?_
  · simp [results, Tryz.results28, go_sem]
  · rw [FN.out]; exact ⟨by rw [bytes_join], hS0.trans hK⟩
end Go.Proofs.YtbbemgeinlehmaaGreatDoor.Sr04
