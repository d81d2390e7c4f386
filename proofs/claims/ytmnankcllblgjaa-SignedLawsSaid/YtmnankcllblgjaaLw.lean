/- What the small calls of layer 3's laws give back: the same number as the other package's, and whether there are few digits. The laws' few over two numbers that stand in one block. The laws' few and right over one, two or three numbers that stand in one block; three boxed numbers. The laws' own check that the program answers at all. -/
import Derived.Test.YtmnankcllblgjaaRb
import Derived.Test.YtmnankcllblgjaaWd
import Derived.Test.YtmnankcllblgjaaSb
import Derived.Test.YtmnankcllblgjaaSc
import Derived.Deep.DeepCutAuto
namespace Go.Proofs.Ytmnankcllblgjaa.Law03
open Go.RowKit
set_option linter.unusedVariables false
open Go.Proofs.Ytmnankcllblgjaa.Dig
open Go.Proofs.Ytmnankcllblgjaa.Ref03 (sv)

theorem theirs_any (A : Option Addr) (n c : Nat) (na : Bool) (w : World) :
    Calls Try.prog 12 #[sv na (.slice A n c)] w fun e w' => e = .returned (sv na (.slice A n c)) ∧ Since w w' := by
  go_enter Try.func12, Try.ntmps12
  go_wp2
  exact bodyPost_ret (v := sv na (.slice A n c)) (by simp [results, Try.results12, go_sem]) rfl ⟨rfl, by repeat (first | exact Since.refl _ | refine Since.alloc ?_ _ | refine Since.set ?_ (by first | exact Nat.le_refl _ | simp) _)⟩
theorem ours_any (A : Option Addr) (n c : Nat) (na : Bool) (w : World) :
    Calls Try.prog 19 #[sv na (.slice A n c)] w fun e w' => e = .returned (sv na (.slice A n c)) ∧ Since w w' := by
  go_enter Try.func19, Try.ntmps19
  go_wp2
  exact bodyPost_ret (v := sv na (.slice A n c)) (by simp [results, Try.results19, go_sem]) rfl ⟨rfl, by repeat (first | exact Since.refl _ | refine Since.alloc ?_ _ | refine Since.set ?_ (by first | exact Nat.le_refl _ | simp) _)⟩

/-- a number: its sign, where its digits lie, their capacity, the digits -/
structure Num3 where
  neg : Bool
  at_ : Option Addr
  cap : Nat
  ds : List Nat
def Num3.nil : Num3 := ⟨false, none, 0, []⟩
def Num3.mag (x : Num3) : Value := .slice x.at_ x.ds.length x.cap
/-- block b holds the numbers ls side by side -/
def Holds (w : World) (b : Nat) (ls : List Num3) : Prop :=
  ∀ i, i < ls.length → w.cell? ⟨b, i * 2, none⟩ = some (.bool (ls.getD i .nil).neg) ∧ w.cell? ⟨b, i * 2 + 1, none⟩ = some (.slice (ls.getD i .nil).at_ (ls.getD i .nil).ds.length (ls.getD i .nil).cap)
theorem Holds.since {w w' : World} {b : Nat} {ls : List Num3} (h : Holds w b ls) (k : Since w w') : Holds w' b ls := fun i hi => by
  obtain ⟨h1, h2⟩ := h i hi
  exact ⟨(Below.cell k (World.block_lt_of_cell? _ _ h1)).trans h1, (Below.cell k (World.block_lt_of_cell? _ _ h2)).trans h2⟩
/-- none has more than thirty digits -/
def fewB (ls : List Num3) : Bool := ls.all fun a => decide (a.ds.length ≤ 30)
/-- all may be -/
def rightsB (ls : List Num3) : Bool := ls.all fun a => Ref03.srightB a.neg a.ds
theorem take_next {ls : List Num3} {k : Nat} (h : k < ls.length) : ls.take (k + 1) = ls.take k ++ [ls.getD k .nil] := by
  rw [List.take_succ_eq_append_getElem h]; simp [List.getD, List.getElem?_eq_getElem h]
theorem all_next {p : Num3 → Bool} {ls : List Num3} {k : Nat} (h : k < ls.length) (h1 : (ls.take k).all p = true) (h2 : p (ls.getD k .nil) = true) : (ls.take (k + 1)).all p = true := by
  rw [take_next h, List.all_append, h1]; simpa using h2
theorem all_not {p : Num3 → Bool} {ls : List Num3} {k : Nat} (h : k < ls.length) (h2 : p (ls.getD k .nil) = false) : ls.all p = false := by
  rw [List.all_eq_false]
  refine ⟨ls.getD k .nil, ?_, by rw [h2]; exact Bool.false_ne_true⟩
  simp [List.getD, List.getElem?_eq_getElem h]
theorem all_end {p : Num3 → Bool} {ls : List Num3} {k : Nat} (h : ls.length ≤ k) (h1 : (ls.take k).all p = true) : ls.all p = true := by
  rwa [List.take_of_length_le h] at h1

set_option maxRecDepth 100000 in
set_option maxHeartbeats 1000000 in
theorem few_any (b : Nat) (ls : List Num3) (w : World) (h : Holds w b ls) (hl : ls.length ≤ 100) :
    Calls Try.prog 10 #[.slice (some ⟨b, 0, none⟩) ls.length ls.length] w fun e w' => e = .returned (.bool (fewB ls)) ∧ Since w w' := by
  have H := Lib.hid h
  clear h
  go_enter Try.func10, Try.ntmps10
  go_wp2
  go_loopw [7] (fun i wr => ∃ k : Nat, k ≤ ls.length ∧ i = .int .i64 k ∧ Hid (fewB (ls.take k) = true) ∧ Since w wr) (fun i _ => ls.length - (intOf i).toNat)
  case atStart => exact ⟨0, Nat.zero_le _, rfl, rfl, Since.refl _⟩
  case round =>
    obtain ⟨k, hk, rfl, hf, hw⟩ := hrel
    have HW := Lib.hid hw
    by_cases hlt : k < ls.length
    · obtain ⟨h1, h2⟩ := (H.out.since hw) k hlt
      obtain ⟨x, hx⟩ : ∃ x, x = ls.getD k .nil := ⟨_, rfl⟩
      rw [← hx] at h1 h2
      have HX := Lib.hid hx
      have HL := Lib.hid hlt
      clear hx
      by_cases hc : x.ds.length ≤ 30
      · have HN := Lib.hid (show fewB (ls.take (k + 1)) = true from all_next HL.out hf.out (by rw [← HX.out]; exact decide_eq_true hc))
        go_wp2
        go_roundw
        case rel => exact ⟨k + 1, by omega, by go_num, HN, HW.out.alloc _⟩
        case measure => simp [intOf]; omega
      · have HN := Lib.hid (show fewB ls = false from all_not HL.out (by rw [← HX.out]; exact decide_eq_false hc))
        go_wp2
        go_ret
        exact ⟨by rw [HN.out]; rfl, HW.out.alloc _⟩
    · have HN := Lib.hid (show fewB ls = true from all_end (by omega) hf.out)
      go_wp2
      go_ret
      exact ⟨by rw [HN.out]; rfl, HW.out⟩

set_option maxRecDepth 100000 in
set_option maxHeartbeats 1000000 in
theorem rights_any (b : Nat) (ls : List Num3) (w : World) (h : Holds w b ls) (hr : ∀ i, i < ls.length → Row w (.slice (ls.getD i .nil).at_ (ls.getD i .nil).ds.length (ls.getD i .nil).cap) (ls.getD i .nil).ds) (hd : ∀ i, i < ls.length → (ls.getD i .nil).ds.length ≤ 10000) (hl : ls.length ≤ 100) :
    Calls Try.prog 32 #[.slice (some ⟨b, 0, none⟩) ls.length ls.length] w fun e w' => e = .returned (.bool (rightsB ls)) ∧ Since w w' := by
  have H := Lib.hid h
  have HR := Lib.hid hr
  have LL := Lib.hid hd
  clear h hr hd
  go_enter Try.func32, Try.ntmps32
  go_wp2
  go_loopw [7] (fun i wr => ∃ k : Nat, k ≤ ls.length ∧ i = .int .i64 k ∧ Hid (rightsB (ls.take k) = true) ∧ Since w wr) (fun i _ => ls.length - (intOf i).toNat)
  case atStart => exact ⟨0, Nat.zero_le _, rfl, rfl, Since.refl _⟩
  case round =>
    obtain ⟨k, hk, rfl, hf, hw⟩ := hrel
    have HW := Lib.hid hw
    by_cases hlt : k < ls.length
    · obtain ⟨h1, h2⟩ := (H.out.since hw) k hlt
      have hrow := (HR.out k hlt).since hw
      have hlen := LL.out k hlt
      obtain ⟨x, hx⟩ : ∃ x, x = ls.getD k .nil := ⟨_, rfl⟩
      rw [← hx] at h1 h2 hrow hlen
      have HX := Lib.hid hx
      have HL := Lib.hid hlt
      have HROW := Lib.hid hrow
      have HLEN := Lib.hid hlen
      clear hx hrow hlen
      by_cases hc : Ref03.srightB x.neg x.ds = true
      · have HN := Lib.hid (show rightsB (ls.take (k + 1)) = true from all_next HL.out hf.out (by rw [← HX.out]; exact hc))
        have HC := Lib.hid hc
        clear hc
        go_wp2_with (first
          | (go_at_call 17; (with_reducible refine (Ref03.right_any (.slice x.at_ x.ds.length x.cap) x.neg x.ds _ (HROW.out.since (since_alloc _ _)) HLEN.out).mono ?_); rw [HC.out]; rintro e w1 ⟨rfl, hs1⟩))
        go_roundw
        case rel => exact ⟨k + 1, by omega, by go_num, HN, (HW.out.alloc _).trans hs1⟩
        case measure => simp [intOf]; omega
      · have HN := Lib.hid (show rightsB ls = false from all_not HL.out (by rw [← HX.out]; simpa using hc))
        have HC := Lib.hid (show Ref03.srightB x.neg x.ds = false by simpa using hc)
        clear hc
        go_wp2_with (first
          | (go_at_call 17; (with_reducible refine (Ref03.right_any (.slice x.at_ x.ds.length x.cap) x.neg x.ds _ (HROW.out.since (since_alloc _ _)) HLEN.out).mono ?_); rw [HC.out]; rintro e w1 ⟨rfl, hs1⟩))
        go_ret
        exact ⟨by rw [HN.out]; rfl, (HW.out.alloc _).trans hs1⟩
    · have HN := Lib.hid (show rightsB ls = true from all_end (by omega) hf.out)
      go_wp2
      go_ret
      exact ⟨by rw [HN.out]; rfl, HW.out⟩
end Go.Proofs.Ytmnankcllblgjaa.Law03

namespace Go.Proofs.Ytmnankcllblgjaa.Law03
open Go.RowKit
set_option linter.unusedVariables false
open Go.Proofs.Ytmnankcllblgjaa.Dig
open Go.Proofs.Ytmnankcllblgjaa.Ref03 (sv)

theorem holds_two (w : World) (t : TypeId) (x y : Num3) : Holds (w.alloc (.cells #[.bool x.neg, .slice x.at_ x.ds.length x.cap, .bool y.neg, .slice y.at_ y.ds.length y.cap] t)) w.heap.size [x, y] := by
  intro i hi
  have : i = 0 ∨ i = 1 := by simp at hi; omega
  rcases this with rfl | rfl <;> refine ⟨?_, ?_⟩ <;> go_simp
theorem few_two (w : World) (t : TypeId) (x y : Num3) :
    Calls Try.prog 10 #[.slice (some ⟨w.heap.size, 0, none⟩) 2 2] (w.alloc (.cells #[.bool x.neg, .slice x.at_ x.ds.length x.cap, .bool y.neg, .slice y.at_ y.ds.length y.cap] t)) fun e w' => e = .returned (.bool (decide (x.ds.length ≤ 30) && decide (y.ds.length ≤ 30))) ∧ Since w w' :=
  (few_any w.heap.size [x, y] _ (holds_two w t x y) (by simp)).mono fun e w' h => ⟨by rw [h.1]; simp [fewB], (since_alloc _ _).trans h.2⟩

/-- a variable of two cells that is laid ahead of a call and set behind it holds what it was set to -/
theorem var_set {t x : World} {z0 z1 u0 u1 : Value} {ty : TypeId} (h : Since (t.alloc (.cells #[z0, z1] ty)) x) :
    ∀ W, Since ((x.setCell ⟨t.heap.size, 0, none⟩ u0).setCell ⟨t.heap.size, 1, none⟩ u1) W → W.cell? ⟨t.heap.size, 0, none⟩ = some u0 ∧ W.cell? ⟨t.heap.size, 1, none⟩ = some u1 := by
  intro W k
  obtain ⟨c0, c1, f0, f1⟩ := keep2 h
  have hb : t.heap.size < x.heap.size := by have := h.size; simp at this; omega
  have h0 := k.cell ⟨t.heap.size, 0, none⟩ (by simpa using hb)
  have h1 := k.cell ⟨t.heap.size, 1, none⟩ (by simpa using hb)
  rw [h0, h1]
  constructor <;> go_simp
theorem same_self (A B : Option Addr) (c d : Nat) (n : Bool) (xs : List Nat) (w : World) (hx : Row w (.slice A xs.length c) xs) (hy : Row w (.slice B xs.length d) xs) (lx : xs.length ≤ 10000) :
    Calls Try.prog 18 #[sv n (.slice A xs.length c), sv n (.slice B xs.length d)] w fun e w' => e = .returned (.bool true) ∧ Since w w' := by
  have h := Ref03.same_any (.slice A xs.length c) (.slice B xs.length d) n n xs xs w hx hy lx lx
  rwa [show (n == n && sameB xs xs) = true by simp [sameB]] at h
end Go.Proofs.Ytmnankcllblgjaa.Law03

namespace Go.Proofs.Ytmnankcllblgjaa.Law03
open Go.RowKit
set_option linter.unusedVariables false
open Go.Proofs.Ytmnankcllblgjaa.Dig
open Go.Proofs.Ytmnankcllblgjaa.Ref03 (sv)

/-- the cells of a number -/
abbrev Num3.cells (x : Num3) : List Value := [.bool x.neg, .slice x.at_ x.ds.length x.cap]
theorem holds_one (w : World) (t : TypeId) (x : Num3) : Holds (w.alloc (.cells #[.bool x.neg, .slice x.at_ x.ds.length x.cap] t)) w.heap.size [x] := by
  intro i hi
  have : i = 0 := by simp at hi; omega
  subst this
  refine ⟨?_, ?_⟩ <;> go_simp
theorem holds_three (w : World) (t : TypeId) (x y z : Num3) : Holds (w.alloc (.cells #[.bool x.neg, .slice x.at_ x.ds.length x.cap, .bool y.neg, .slice y.at_ y.ds.length y.cap, .bool z.neg, .slice z.at_ z.ds.length z.cap] t)) w.heap.size [x, y, z] := by
  intro i hi
  have : i = 0 ∨ i = 1 ∨ i = 2 := by simp at hi; omega
  rcases this with rfl | rfl | rfl <;> refine ⟨?_, ?_⟩ <;> go_simp
theorem few_one (w : World) (t : TypeId) (x : Num3) :
    Calls Try.prog 10 #[.slice (some ⟨w.heap.size, 0, none⟩) 1 1] (w.alloc (.cells #[.bool x.neg, .slice x.at_ x.ds.length x.cap] t)) fun e w' => e = .returned (.bool (decide (x.ds.length ≤ 30))) ∧ Since w w' :=
  (few_any w.heap.size [x] _ (holds_one w t x) (by simp)).mono fun e w' h => ⟨by rw [h.1]; simp [fewB], (since_alloc _ _).trans h.2⟩
theorem few_three (w : World) (t : TypeId) (x y z : Num3) :
    Calls Try.prog 10 #[.slice (some ⟨w.heap.size, 0, none⟩) 3 3] (w.alloc (.cells #[.bool x.neg, .slice x.at_ x.ds.length x.cap, .bool y.neg, .slice y.at_ y.ds.length y.cap, .bool z.neg, .slice z.at_ z.ds.length z.cap] t)) fun e w' => e = .returned (.bool (decide (x.ds.length ≤ 30) && (decide (y.ds.length ≤ 30) && decide (z.ds.length ≤ 30)))) ∧ Since w w' :=
  (few_any w.heap.size [x, y, z] _ (holds_three w t x y z) (by simp)).mono fun e w' h => ⟨by rw [h.1]; simp [fewB], (since_alloc _ _).trans h.2⟩
theorem right_two (w : World) (t : TypeId) (x y : Num3) (hx : Row w x.mag x.ds) (hy : Row w y.mag y.ds) (lx : x.ds.length ≤ 10000) (ly : y.ds.length ≤ 10000) :
    Calls Try.prog 32 #[.slice (some ⟨w.heap.size, 0, none⟩) 2 2] (w.alloc (.cells #[.bool x.neg, .slice x.at_ x.ds.length x.cap, .bool y.neg, .slice y.at_ y.ds.length y.cap] t)) fun e w' => e = .returned (.bool (Ref03.srightB x.neg x.ds && Ref03.srightB y.neg y.ds)) ∧ Since w w' :=
  (rights_any w.heap.size [x, y] _ (holds_two w t x y)
    (fun i hi => by
      have : i = 0 ∨ i = 1 := by simp at hi; omega
      rcases this with rfl | rfl
      · exact hx.since (since_alloc _ _)
      · exact hy.since (since_alloc _ _))
    (fun i hi => by
      have : i = 0 ∨ i = 1 := by simp at hi; omega
      rcases this with rfl | rfl
      · exact lx
      · exact ly) (by simp)).mono fun e w' h => ⟨by rw [h.1]; simp [rightsB], (since_alloc _ _).trans h.2⟩
theorem right_three (w : World) (t : TypeId) (x y z : Num3) (hx : Row w x.mag x.ds) (hy : Row w y.mag y.ds) (hz : Row w z.mag z.ds) (lx : x.ds.length ≤ 10000) (ly : y.ds.length ≤ 10000) (lz : z.ds.length ≤ 10000) :
    Calls Try.prog 32 #[.slice (some ⟨w.heap.size, 0, none⟩) 3 3] (w.alloc (.cells #[.bool x.neg, .slice x.at_ x.ds.length x.cap, .bool y.neg, .slice y.at_ y.ds.length y.cap, .bool z.neg, .slice z.at_ z.ds.length z.cap] t)) fun e w' => e = .returned (.bool (Ref03.srightB x.neg x.ds && (Ref03.srightB y.neg y.ds && Ref03.srightB z.neg z.ds))) ∧ Since w w' :=
  (rights_any w.heap.size [x, y, z] _ (holds_three w t x y z)
    (fun i hi => by
      have : i = 0 ∨ i = 1 ∨ i = 2 := by simp at hi; omega
      rcases this with rfl | rfl | rfl
      · exact hx.since (since_alloc _ _)
      · exact hy.since (since_alloc _ _)
      · exact hz.since (since_alloc _ _))
    (fun i hi => by
      have : i = 0 ∨ i = 1 ∨ i = 2 := by simp at hi; omega
      rcases this with rfl | rfl | rfl
      · exact lx
      · exact ly
      · exact lz) (by simp)).mono fun e w' h => ⟨by rw [h.1]; simp [rightsB], (since_alloc _ _).trans h.2⟩
theorem hold3of {w W : World} {na nb nc : Bool} {ma mb mc : Value} {t : TypeId} (h : Since (((w.alloc (.cells #[.bool na, ma] t)).alloc (.cells #[.bool nb, mb] t)).alloc (.cells #[.bool nc, mc] t)) W) :
    W.cell? ⟨w.heap.size, 0, none⟩ = some (.bool na) ∧ W.cell? ⟨w.heap.size, 1, none⟩ = some ma ∧ W.cell? ⟨w.heap.size + 1, 0, none⟩ = some (.bool nb) ∧ W.cell? ⟨w.heap.size + 1, 1, none⟩ = some mb ∧ W.cell? ⟨w.heap.size + 1 + 1, 0, none⟩ = some (.bool nc) ∧ W.cell? ⟨w.heap.size + 1 + 1, 1, none⟩ = some mc := by
  obtain ⟨h0, h1, h2, h3⟩ := Ref03.hold2 h
  obtain ⟨h4, h5, _, _⟩ := Ref03.keep3 h
  exact ⟨h0, h1, h2, h3, h4, h5⟩
end Go.Proofs.Ytmnankcllblgjaa.Law03

namespace Go.Proofs.Ytmnankcllblgjaa.Alive03
open Go.RowKit
set_option linter.unusedVariables false
open Go.Proofs.Ytmnankcllblgjaa.Dig
open Go.Proofs.Ytmnankcllblgjaa.Ref03 (sv RetS RetZ RetQR divZ gcdZ smallZ srightB ngB mag srightB)

theorem of_lit {n : Int} {b : Bool} {ds : List Nat} (w : World) (hn : -9223372036854775808 ≤ n ∧ n ≤ 9223372036854775807) (hb : ngB n = b) (hd : mag n = ds) :
    Calls Try.prog 20 #[.int .i64 n] w (RetS b ds w) := by
  have h := Sg03.of_any n w hn
  rwa [hb, hd] at h
theorem rof_lit {n : Int} {b : Bool} {ds : List Nat} (w : World) (hn : -9223372036854775808 ≤ n ∧ n ≤ 9223372036854775807) (hb : ngB n = b) (hd : mag n = ds) :
    Calls Try.prog 21 #[.int .i64 n] w (RetS b ds w) := by
  have h := Ref03.of_any n w hn
  rwa [hb, hd] at h
theorem of_m7 (w : World) : Calls Try.prog 20 #[.int .i64 (-7)] w fun e w' => ∃ A c, e = .returned (sv true (.slice A 1 c)) ∧ Row w' (.slice A 1 c) [7] ∧ Since w w' :=
  of_lit (n := (-7)) (b := true) (ds := [7]) w (by omega) rfl rfl
theorem of_2 (w : World) : Calls Try.prog 20 #[.int .i64 2] w fun e w' => ∃ A c, e = .returned (sv false (.slice A 1 c)) ∧ Row w' (.slice A 1 c) [2] ∧ Since w w' :=
  of_lit (n := 2) (b := false) (ds := [2]) w (by omega) rfl rfl
theorem of_12 (w : World) : Calls Try.prog 20 #[.int .i64 12] w fun e w' => ∃ A c, e = .returned (sv false (.slice A 1 c)) ∧ Row w' (.slice A 1 c) [12] ∧ Since w w' :=
  of_lit (n := 12) (b := false) (ds := [12]) w (by omega) rfl rfl
theorem of_m18 (w : World) : Calls Try.prog 20 #[.int .i64 (-18)] w fun e w' => ∃ A c, e = .returned (sv true (.slice A 1 c)) ∧ Row w' (.slice A 1 c) [18] ∧ Since w w' :=
  of_lit (n := (-18)) (b := true) (ds := [18]) w (by omega) rfl rfl
theorem rof_m4 (w : World) : Calls Try.prog 21 #[.int .i64 (-4)] w fun e w' => ∃ A c, e = .returned (sv true (.slice A 1 c)) ∧ Row w' (.slice A 1 c) [4] ∧ Since w w' :=
  rof_lit (n := (-4)) (b := true) (ds := [4]) w (by omega) rfl rfl
theorem rof_1 (w : World) : Calls Try.prog 21 #[.int .i64 1] w fun e w' => ∃ A c, e = .returned (sv false (.slice A 1 c)) ∧ Row w' (.slice A 1 c) [1] ∧ Since w w' :=
  rof_lit (n := 1) (b := false) (ds := [1]) w (by omega) rfl rfl
theorem rof_6 (w : World) : Calls Try.prog 21 #[.int .i64 6] w fun e w' => ∃ A c, e = .returned (sv false (.slice A 1 c)) ∧ Row w' (.slice A 1 c) [6] ∧ Since w w' :=
  rof_lit (n := 6) (b := false) (ds := [6]) w (by omega) rfl rfl
theorem div_lit (A0 A1 : Option Addr) (c0 c1 : Nat) (w : World) (hx : Row w (.slice A0 1 c0) [7]) (hy : Row w (.slice A1 1 c1) [2]) :
    Calls Try.prog 28 #[sv true (.slice A0 1 c0), sv false (.slice A1 1 c1)] w fun e w' => ∃ A c B d, e = .returned (.tuple #[sv true (.slice A 1 c), sv false (.slice B 1 d), .int .i64 0]) ∧ Row w' (.slice A 1 c) [4] ∧ Row w' (.slice B 1 d) [1] ∧ Since w w' := by
  have h := Sg03.divmod_any A0 A1 c0 c1 true false [7] [2] w hx hy (by simp) (by simp)
  rwa [show divZ true [7] false [2] = (((true, [4]), (false, [1])), 0) by rfl] at h
theorem gcd_lit (A0 A1 : Option Addr) (c0 c1 : Nat) (w : World) (hx : Row w (.slice A0 1 c0) [12]) (hy : Row w (.slice A1 1 c1) [18]) :
    Calls Try.prog 30 #[sv false (.slice A0 1 c0), sv true (.slice A1 1 c1)] w fun e w' => ∃ A c, e = .returned (.tuple #[sv false (.slice A 1 c), .int .i64 0]) ∧ Row w' (.slice A 1 c) [6] ∧ Since w w' := by
  have h := Sg03.gcd_any A0 A1 c0 c1 false true [12] [18] w hx hy (by simp) (by simp)
  rwa [show gcdZ false [12] true [18] = ((false, [6]), 0) by decide] at h
theorem small_lit (A0 : Option Addr) (c0 : Nat) (w : World) (hx : Row w (.slice A0 2 c0) [0, 2147483648]) :
    Calls Try.prog 11 #[sv true (.slice A0 2 c0)] w fun e w' => e = .returned (.tuple #[.int .i64 (-9223372036854775808), .int .i64 0]) ∧ Since w w' := by
  have h := Sg03.small_any A0 c0 true [0, 2147483648] w hx (by simp)
  rwa [show smallZ true [0, 2147483648] = (-9223372036854775808, 0) by decide] at h
theorem right_lit (A0 : Option Addr) (c0 : Nat) (w : World) (hx : Row w (.slice A0 1 c0) [4]) :
    Calls Try.prog 16 #[sv true (.slice A0 1 c0)] w fun e w' => e = .returned (.bool true) ∧ Since w w' := by
  have h := Sg03.right_any (.slice A0 1 c0) true [4] w hx (by simp)
  rwa [show srightB true [4] = true by decide] at h
theorem same_lit (A B : Option Addr) (c d : Nat) (n : Bool) (x : Nat) (w : World) (hx : Row w (.slice A 1 c) [x]) (hy : Row w (.slice B 1 d) [x]) :
    Calls Try.prog 18 #[sv n (.slice A 1 c), sv n (.slice B 1 d)] w fun e w' => e = .returned (.bool true) ∧ Since w w' :=
  Law03.same_self A B c d n [x] w hx hy (by simp)
set_option maxRecDepth 100000 in
set_option maxHeartbeats 2000000 in
theorem alive (w : World) : Calls Try.prog 9 #[] w fun e w' => e = .returned (.bool true) ∧ Since w w' := by
  have RT := Lib.hid (show ∀ W : World, Row (W.alloc (.cells #[.int .u32 0, .int .u32 2147483648] 59)) (.slice (some ⟨W.heap.size, 0, none⟩) 2 2) [0, 2147483648] from fun W => row_two W 59 0 2147483648 (by omega) (by omega))
  go_enter Try.func9, Try.ntmps9
  go_upto_region 2 with (first
    | (go_at_call 20; (with_reducible refine (of_m7 _).mono ?_); rintro e w1 ⟨A1, c1, rfl, h1, k1⟩; have hK := k1)
    | (go_at_call 20; (with_reducible refine (of_2 _).mono ?_); rintro e w2 ⟨A2, c2, rfl, h2, k2⟩; have hK := hK.trans k2; have h1 := h1.since k2)
    | (go_at_call 28; (with_reducible refine (div_lit A1 A2 c1 c2 _ h1 h2).mono ?_); rintro e w3 ⟨A3, c3, A4, c4, rfl, h3, h4, k3⟩; have hS := hK.trans k3))
  obtain ⟨W1, hW1⟩ : ∃ W1, W1 = (w3.alloc (.cells #[.bool true, .slice A3 1 c3] 30)).alloc (.cells #[.bool false, .slice A4 1 c4] 30) := ⟨_, rfl⟩
  rw [← hW1]
  have V1 : Hid (∀ W', Since W1 W' → W'.cell? ⟨w3.heap.size, 0, none⟩ = some (.bool true) ∧ W'.cell? ⟨w3.heap.size, 1, none⟩ = some (.slice A3 1 c3)) := fun W' h => by rw [hW1] at h; exact ⟨(keep2 ((since_alloc _ _).trans h)).1, (keep2 ((since_alloc _ _).trans h)).2.1⟩
  have V2 : Hid (∀ W', Since W1 W' → W'.cell? ⟨w3.heap.size + 1, 0, none⟩ = some (.bool false) ∧ W'.cell? ⟨w3.heap.size + 1, 1, none⟩ = some (.slice A4 1 c4)) := fun W' h => by rw [hW1] at h; exact ⟨(Ref03.keep2of h).1, (Ref03.keep2of h).2.1⟩
  have hx : Since w3 W1 := by rw [hW1]; exact (since_alloc _ _).trans (since_alloc _ _)
  have h3 := h3.since hx
  have h4 := h4.since hx
  have hS := hS.trans hx
  clear hW1 hx
  generalize w3.heap.size = b1 at *
  have hK := Since.refl W1
  go_upto_region 3 with (first
    | (go_at_call 20; (with_reducible refine (of_12 _).mono ?_); rintro e w4 ⟨A5, c5, rfl, h5, h⟩; have hK := hK.trans h)
    | (go_at_call 20; (with_reducible refine (of_m18 _).mono ?_); rintro e w5 ⟨A6, c6, rfl, h6, h⟩; have hK := hK.trans h; have h5 := h5.since h)
    | (go_at_call 30; (with_reducible refine (gcd_lit A5 A6 c5 c6 _ h5 h6).mono ?_); rintro e w6 ⟨A7, c7, rfl, h7, h⟩; have hK := hK.trans h))
  obtain ⟨W2, hW2⟩ : ∃ W2, W2 = w6.alloc (.cells #[.bool false, .slice A7 1 c7] 30) := ⟨_, rfl⟩
  rw [← hW2]
  have V3 : Hid (∀ W', Since W2 W' → W'.cell? ⟨w6.heap.size, 0, none⟩ = some (.bool false) ∧ W'.cell? ⟨w6.heap.size, 1, none⟩ = some (.slice A7 1 c7)) := fun W' h => by rw [hW2] at h; exact ⟨(keep2 h).1, (keep2 h).2.1⟩
  have hx : Since w6 W2 := by rw [hW2]; exact since_alloc _ _
  have h7 := h7.since hx
  have hg := hK.trans hx
  have h3 := h3.since hg
  have h4 := h4.since hg
  have V1 : Hid (∀ W', Since W2 W' → _) := fun W' h => V1.out W' (hg.trans h)
  have V2 : Hid (∀ W', Since W2 W' → _) := fun W' h => V2.out W' (hg.trans h)
  have hS := hS.trans hg
  clear hW2 hx hg hK h5 h6
  generalize w6.heap.size = b2 at *
  have hK := Since.refl W2
  go_wp2_with (first
    | (go_at_call 11; (with_reducible refine (small_lit _ _ _ (RT.out W2)).mono ?_); rintro e x1 ⟨rfl, h⟩; have hK := (since_alloc _ _).trans h; obtain ⟨u0, u1⟩ := V1.out _ hK; obtain ⟨v0, v1⟩ := V2.out _ hK; obtain ⟨t0, t1⟩ := V3.out _ hK)
    | (go_at_call 19; (with_reducible refine (Law03.ours_any A3 1 c3 true _).mono ?_); rintro e x2 ⟨rfl, h⟩; have hK := hK.trans h; obtain ⟨u0, u1⟩ := V1.out _ hK; obtain ⟨v0, v1⟩ := V2.out _ hK; obtain ⟨t0, t1⟩ := V3.out _ hK)
    | (go_at_call 21; (with_reducible refine (rof_m4 _).mono ?_); rintro e x3 ⟨B1, d1, rfl, g1, h⟩; have hK := hK.trans h; obtain ⟨u0, u1⟩ := V1.out _ hK; obtain ⟨v0, v1⟩ := V2.out _ hK; obtain ⟨t0, t1⟩ := V3.out _ hK)
    | (go_at_call 18; (with_reducible refine (same_lit A3 B1 c3 d1 true 4 _ (h3.since hK) g1).mono ?_); rintro e x4 ⟨rfl, h⟩; have hK := hK.trans h; obtain ⟨u0, u1⟩ := V1.out _ hK; obtain ⟨v0, v1⟩ := V2.out _ hK; obtain ⟨t0, t1⟩ := V3.out _ hK)
    | (go_at_call 19; (with_reducible refine (Law03.ours_any A4 1 c4 false _).mono ?_); rintro e x5 ⟨rfl, h⟩; have hK := hK.trans h; obtain ⟨u0, u1⟩ := V1.out _ hK; obtain ⟨v0, v1⟩ := V2.out _ hK; obtain ⟨t0, t1⟩ := V3.out _ hK)
    | (go_at_call 21; (with_reducible refine (rof_1 _).mono ?_); rintro e x6 ⟨B2, d2, rfl, g2, h⟩; have hK := hK.trans h; obtain ⟨u0, u1⟩ := V1.out _ hK; obtain ⟨v0, v1⟩ := V2.out _ hK; obtain ⟨t0, t1⟩ := V3.out _ hK)
    | (go_at_call 18; (with_reducible refine (same_lit A4 B2 c4 d2 false 1 _ (h4.since hK) g2).mono ?_); rintro e x7 ⟨rfl, h⟩; have hK := hK.trans h; obtain ⟨u0, u1⟩ := V1.out _ hK; obtain ⟨v0, v1⟩ := V2.out _ hK; obtain ⟨t0, t1⟩ := V3.out _ hK)
    | (go_at_call 19; (with_reducible refine (Law03.ours_any A7 1 c7 false _).mono ?_); rintro e x8 ⟨rfl, h⟩; have hK := hK.trans h; obtain ⟨u0, u1⟩ := V1.out _ hK; obtain ⟨v0, v1⟩ := V2.out _ hK; obtain ⟨t0, t1⟩ := V3.out _ hK)
    | (go_at_call 21; (with_reducible refine (rof_6 _).mono ?_); rintro e x9 ⟨B3, d3, rfl, g3, h⟩; have hK := hK.trans h; obtain ⟨u0, u1⟩ := V1.out _ hK; obtain ⟨v0, v1⟩ := V2.out _ hK; obtain ⟨t0, t1⟩ := V3.out _ hK)
    | (go_at_call 18; (with_reducible refine (same_lit A7 B3 c7 d3 false 6 _ (h7.since hK) g3).mono ?_); rintro e x10 ⟨rfl, h⟩; have hK := hK.trans h; obtain ⟨u0, u1⟩ := V1.out _ hK; obtain ⟨v0, v1⟩ := V2.out _ hK; obtain ⟨t0, t1⟩ := V3.out _ hK)
    | (go_at_call 16; (with_reducible refine (right_lit A3 c3 _ (h3.since hK)).mono ?_); rintro e x11 ⟨rfl, h⟩; have hK := hK.trans h; obtain ⟨u0, u1⟩ := V1.out _ hK; obtain ⟨v0, v1⟩ := V2.out _ hK; obtain ⟨t0, t1⟩ := V3.out _ hK))
  go_ret
  exact ⟨rfl, hS.trans hK⟩

end Go.Proofs.Ytmnankcllblgjaa.Alive03
