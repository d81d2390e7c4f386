/- What the document's own Text of layer 3 gives back. What the document's own Parse of layer 3 gives back. What Text of package signed gives back. What CutPrefix of package strings gives back for a minus. What Parse of package signed gives back. -/
import Derived.Test.YtmnankcllblgjaaDoorRb
import Derived.Test.YtmnankcllblgjaaDoorNt
import Derived.Test.YtmnankcllblgjaaDoorSb
import Derived.Test.YtmnankcllblgjaaDoorWd
namespace Go.Proofs.YtmnankcllblgjaaDoor.Ref03
open Go.RowKit
set_option linter.unusedVariables false
open Go.Proofs.YtmnankcllblgjaaDoor.Dig

set_option maxRecDepth 100000 in
set_option maxHeartbeats 1000000 in
theorem text_any (A0 : Option Addr) (c0 : Nat) (na : Bool) (xs : List Nat) (w : World) (hx : Row w (.slice A0 xs.length c0) xs) (lx : xs.length ≤ 1000) :
    Calls Tryd.prog 9 #[sv na (.slice A0 xs.length c0)] w fun e w' => e = .returned (.tuple #[.string ⟨(textZ na xs).1.toArray⟩, .int .i64 (textZ na xs).2]) ∧ Since w w' := by
  have H := Lib.hid hx
  have LL := Lib.hid lx
  have HD := Lib.hid hx.dig
  obtain ⟨W0, hW0⟩ : ∃ W0, W0 = w.alloc (.cells #[.bool na, .slice A0 xs.length c0] 24) := ⟨_, rfl⟩
  have HW := Lib.hid hW0
  have hold : Hid (∀ W : World, Since W0 W → (W.cell? ⟨w.heap.size, 0, none⟩ = some (.bool na) ∧ W.cell? ⟨w.heap.size, 1, none⟩ = some (.slice A0 xs.length c0))) := fun W h => hold1 (hW0 ▸ h)
  have hS0 : Since w W0 := by rw [hW0]; exact (Since.refl w).alloc _
  have hK := Since.refl W0
  clear hW0 hx lx
  by_cases r1 : srightB na xs = true
  · have R1 := Lib.hid r1
    have ed : Ref02.textD xs = (text (num xs), 0) := by unfold Ref02.textD; rw [if_pos (sright_right r1)]
    have hlen : (text (num xs)).length ≤ 20000 := by
      have h1 := decs_num_len HD.out
      have h2 := LL.out
      unfold text; split
      · simp
      · omega
    obtain ⟨L, hL⟩ : ∃ L, L = text (num xs) := ⟨_, rfl⟩
    rw [← hL] at hlen ed
    have ED := Lib.hid ed
    have EV := Lib.hid (show textZ na xs = ((if na = true then 45 :: L else L), 0) by rw [textZ, if_pos r1, hL])
    clear r1 hL ed
    cases na
    · go_enter Tryd.func9, Tryd.ntmps9
      go_wp2_with fail
      rw [← HW.out]
      go_wp2_with (first
        | (go_at_call 25; (with_reducible refine (right_any (.slice A0 xs.length c0) false xs _ (H.out.since (hS0.trans hK)) (by have := LL.out; omega)).mono ?_); rw [R1.out]; rintro e w1 ⟨rfl, h1⟩; have hK := hK.trans h1; obtain ⟨k0, k1⟩ := hold.out _ hK)
        | (go_at_call 26; (with_reducible refine (Ref02.text_full (.slice A0 xs.length c0) xs _ (H.out.since (hS0.trans hK)) (by have := LL.out; omega)).mono ?_); rw [ED.out]; rintro e w2 ⟨rfl, h2⟩; have hK := hK.trans h2; obtain ⟨k0, k1⟩ := hold.out _ hK))
      go_ret2
      exact ⟨by rw [EV.out]; rfl, hS0.trans hK⟩
    · go_enter Tryd.func9, Tryd.ntmps9
      go_wp2_with fail
      rw [← HW.out]
      go_wp2_with (first
        | (go_at_call 25; (with_reducible refine (right_any (.slice A0 xs.length c0) true xs _ (H.out.since (hS0.trans hK)) (by have := LL.out; omega)).mono ?_); rw [R1.out]; rintro e w1 ⟨rfl, h1⟩; have hK := hK.trans h1; obtain ⟨k0, k1⟩ := hold.out _ hK)
        | (go_at_call 26; (with_reducible refine (Ref02.text_full (.slice A0 xs.length c0) xs _ (H.out.since (hS0.trans hK)) (by have := LL.out; omega)).mono ?_); rw [ED.out]; rintro e w2 ⟨rfl, h2⟩; have hK := hK.trans h2; obtain ⟨k0, k1⟩ := hold.out _ hK))
      go_ret2
      have ev : textZ true xs = (45 :: L, 0) := EV.out.trans (by simp)
      rw [ev]
      exact ⟨congrArg (fun b : ByteArray => Ending.returned (.tuple #[.string b, .int .i64 0])) (bytes_cons 45 L), hS0.trans hK⟩
  · have R1 := Lib.hid (show srightB na xs = false by simpa using r1)
    have EV := Lib.hid (show textZ na xs = ([], 2) by rw [textZ, if_neg r1])
    clear r1
    go_enter Tryd.func9, Tryd.ntmps9
    go_wp2_with fail
    rw [← HW.out]
    go_wp2_with (first
      | (go_at_call 25; (with_reducible refine (right_any (.slice A0 xs.length c0) na xs _ (H.out.since (hS0.trans hK)) (by have := LL.out; omega)).mono ?_); rw [R1.out]; rintro e w1 ⟨rfl, h1⟩; have hK := hK.trans h1; obtain ⟨k0, k1⟩ := hold.out _ hK))
    go_ret2
    exact ⟨by rw [EV.out]; rfl, hS0.trans hK⟩
end Go.Proofs.YtmnankcllblgjaaDoor.Ref03

namespace Go.Proofs.YtmnankcllblgjaaDoor.Ref03
open Go.RowKit
set_option linter.unusedVariables false
open Go.Proofs.YtmnankcllblgjaaDoor.Dig
open Go.Proofs.YtmnankcllblgjaaDoor.Ref02 (parseD getD_byte)



theorem parse_ret (s : ByteArray) (w : World) (hs : s.size ≤ 100000) {r : List Nat × Int} (h : parseD s.data.toList = r) : Calls Tryd.prog 30 #[.string s] w (RetSlErr r w) :=
  (Ref02.parse_any s w hs).mono fun _ _ k => .of (h ▸ k)
set_option maxRecDepth 100000 in
set_option maxHeartbeats 1000000 in
theorem parse_plus (s : ByteArray) (w : World) (hs : s.size ≤ 100000) (hd : s.size = 0 ∨ ∃ h : 0 < s.size, ((s[0].toNat : Int) == 45) = false) :
    Calls Tryd.prog 11 #[.string s] w (RetZ ((false, (parseD s.data.toList).1), (parseD s.data.toList).2) w) := by
  have HS := Lib.hid hs
  have hc := parseD_cases s.data.toList
  obtain ⟨r, hr⟩ : ∃ r, parseD s.data.toList = r := ⟨_, rfl⟩
  have HP := Lib.hid hr
  rw [hr] at hc ⊢
  obtain ⟨ds, x⟩ := r
  have e : ((false, (ds, x).1), (ds, x).2) = ((false, ds), x) := rfl
  clear hr
  rcases hd with hd | ⟨hp, hd⟩
  · have hne : s.toList = [] := by rw [ByteArray.toList_eq]; exact List.eq_nil_of_length_eq_zero (by rw [Array.length_toList]; exact hd)
    have : x = 5 ∧ ds = [] := by
      have h := HP.out
      rw [parseD, if_pos (.inl (by rw [Array.length_toList]; exact hd))] at h
      simp at h; exact ⟨h.2.symm, h.1⟩
    obtain ⟨rfl, rfl⟩ := this
    clear hc
    go_enter Tryd.func11, Tryd.ntmps11
    go_wp2_with (first
      | (go_at_call 30; (with_reducible refine (parse_ret s _ HS.out HP.out).mono ?_); rintro e w1 ⟨A2, c2, rfl, hr1, hs1⟩; obtain ⟨q0, q1, q2, q3⟩ := keep2 hs1))
    refine bodyPost_ret (v := .tuple #[sv false (.slice none 0 0), .int .i64 5]) ?_ rfl ?_
    · simp [results, Tryd.results11, go_sem, q0, q1]
    · exact ⟨_, _, rfl, Row.nil _, since_set2 hs1 _ _⟩
  · have hne : s.toList.isEmpty = false := by
      rw [ByteArray.toList_eq, List.isEmpty_eq_false_iff]
      intro h; have hz : s.data.toList.length = s.size := Array.length_toList; rw [h] at hz; simp at hz; omega
    have hne2 : ¬ s.toList = [] := by intro h; rw [h] at hne; simp at hne
    rcases hc with ⟨h0, hl⟩ | hc | hc
    · simp only at h0 hl
      subst h0
      have HL := Lib.hid hl
      clear hl
      go_enter Tryd.func11, Tryd.ntmps11
      go_wp2_with (first
        | (go_at_call 30; (with_reducible refine (parse_ret s _ HS.out HP.out).mono ?_); rintro e w1 ⟨A2, c2, rfl, hr1, hs1⟩)
        | (go_at_call 31; (with_reducible refine (made_plus (.slice A2 ds.length c2) ds _ hr1 HL.out).mono ?_); rintro e w2 ⟨rfl, hs2⟩; have hK := hs1.trans hs2; have hr2 := hr1.since hs2; obtain ⟨q0, q1, q2, q3⟩ := keep2 hK))
      refine bodyPost_ret (v := .tuple #[sv false (.slice A2 ds.length c2), .int .i64 0]) ?_ rfl ?_
      · simp [results, Tryd.results11, go_sem, q0, q1]
      · exact ⟨_, _, rfl, row_set2 hr2 hK _ _, since_set2 hK _ _⟩
    all_goals
      cases hc
      go_enter Tryd.func11, Tryd.ntmps11
      go_wp2_with (first
        | (go_at_call 30; (with_reducible refine (parse_ret s _ HS.out HP.out).mono ?_); rintro e w1 ⟨A2, c2, rfl, hr1, hs1⟩; obtain ⟨q0, q1, q2, q3⟩ := keep2 hs1))
      first
        | (refine bodyPost_ret (v := .tuple #[sv false (.slice none 0 0), .int .i64 3]) ?_ rfl ?_
           · simp [results, Tryd.results11, go_sem, q0, q1]; done
           · exact ⟨_, _, rfl, Row.nil _, since_set2 hs1 _ _⟩)
        | (refine bodyPost_ret (v := .tuple #[sv false (.slice none 0 0), .int .i64 5]) ?_ rfl ?_
           · simp [results, Tryd.results11, go_sem, q0, q1]; done
           · exact ⟨_, _, rfl, Row.nil _, since_set2 hs1 _ _⟩)
set_option maxRecDepth 100000 in
set_option maxHeartbeats 1000000 in
theorem parse_minus (s : ByteArray) (w : World) (hs : s.size ≤ 100000) (hp : 0 < s.size) (hd : ((s[0].toNat : Int) == 45) = true) :
    Calls Tryd.prog 11 #[.string s] w (RetZ (if (parseD (s.data.toList.drop 1)).2 = 0 then (if (parseD (s.data.toList.drop 1)).1.length = 0 then ((false, []), 5) else ((true, (parseD (s.data.toList.drop 1)).1), 0)) else ((false, []), (parseD (s.data.toList.drop 1)).2)) w) := by
  have HS := Lib.hid (show (s.extract 1 s.size).size ≤ 100000 by rw [ByteArray.size_extract]; omega)
  have hc := parseD_cases (s.data.toList.drop 1)
  obtain ⟨r, hr⟩ : ∃ r, parseD (s.data.toList.drop 1) = r := ⟨_, rfl⟩
  have HP := Lib.hid (show parseD (s.extract 1 s.size).data.toList = r by rw [drop_bytes]; exact hr)
  rw [hr] at hc ⊢
  obtain ⟨ds, x⟩ := r
  clear hr hs
  have hne : s.toList.isEmpty = false := by
    rw [ByteArray.toList_eq, List.isEmpty_eq_false_iff]
    intro h; have hz : s.data.toList.length = s.size := Array.length_toList; rw [h] at hz; simp at hz; omega
  have hne2 : ¬ s.toList = [] := by intro h; rw [h] at hne; simp at hne
  rcases hc with ⟨h0, hl⟩ | hc | hc
  · simp only at h0 hl
    subst h0
    have HL := Lib.hid hl
    clear hl
    by_cases hz : ds.length = 0
    · simp only [hz, if_true]
      obtain rfl := List.eq_nil_of_length_eq_zero hz
      go_enter Tryd.func11, Tryd.ntmps11
      go_wp2_with (first
        | (go_at_call 30; (with_reducible refine (parse_ret (s.extract 1 s.size) _ HS.out HP.out).mono ?_); rintro e w1 ⟨A2, c2, rfl, hr1, hs1⟩; obtain ⟨q0, q1, q2, q3⟩ := keep2 hs1))
      refine bodyPost_ret (v := .tuple #[sv false (.slice none 0 0), .int .i64 5]) ?_ rfl ?_
      · simp [results, Tryd.results11, go_sem, q0, q1]
      · exact ⟨_, _, rfl, Row.nil _, since_set2 hs1 _ _⟩
    · simp only [hz, if_true, if_false]
      have HZ := Lib.hid hz
      have hb : ((ds.length : Int) == 0) = false := by rw [beq_eq_false_iff_ne]; omega
      clear hz
      go_enter Tryd.func11, Tryd.ntmps11
      go_wp2_with (first
        | (go_at_call 30; (with_reducible refine (parse_ret (s.extract 1 s.size) _ HS.out HP.out).mono ?_); rintro e w1 ⟨A2, c2, rfl, hr1, hs1⟩)
        | (go_at_call 31; (with_reducible refine (made_minus (.slice A2 ds.length c2) ds _ hr1 HL.out HZ.out).mono ?_); rintro e w2 ⟨rfl, hs2⟩; have hK := hs1.trans hs2; have hr2 := hr1.since hs2; obtain ⟨q0, q1, q2, q3⟩ := keep2 hK))
      refine bodyPost_ret (v := .tuple #[sv true (.slice A2 ds.length c2), .int .i64 0]) ?_ rfl ?_
      · simp [results, Tryd.results11, go_sem, q0, q1]
      · exact ⟨_, _, rfl, row_set2 hr2 hK _ _, since_set2 hK _ _⟩
  all_goals
    cases hc
    go_enter Tryd.func11, Tryd.ntmps11
    go_wp2_with (first
      | (go_at_call 30; (with_reducible refine (parse_ret (s.extract 1 s.size) _ HS.out HP.out).mono ?_); rintro e w1 ⟨A2, c2, rfl, hr1, hs1⟩; obtain ⟨q0, q1, q2, q3⟩ := keep2 hs1))
    first
      | (refine bodyPost_ret (v := .tuple #[sv false (.slice none 0 0), .int .i64 3]) ?_ rfl ?_
         · simp [results, Tryd.results11, go_sem, q0, q1]; done
         · exact ⟨_, _, rfl, Row.nil _, since_set2 hs1 _ _⟩)
      | (refine bodyPost_ret (v := .tuple #[sv false (.slice none 0 0), .int .i64 5]) ?_ rfl ?_
         · simp [results, Tryd.results11, go_sem, q0, q1]; done
         · exact ⟨_, _, rfl, Row.nil _, since_set2 hs1 _ _⟩)
theorem parse_any (s : ByteArray) (w : World) (hs : s.size ≤ 100000) :
    Calls Tryd.prog 11 #[.string s] w (RetZ (parseZ s.data.toList) w) := by
  have hz : s.data.toList.length = s.size := Array.length_toList
  by_cases h0 : s.size = 0
  · have e : parseZ s.data.toList = ((false, (parseD s.data.toList).1), (parseD s.data.toList).2) := by rw [parseZ, if_neg (by omega)]
    rw [e]; exact parse_plus s w hs (.inl h0)
  · have hp : 0 < s.size := by omega
    by_cases h1 : s[0].toNat = 45
    · have e := @if_pos (0 < s.data.toList.length ∧ (s.data.toList.getD 0 0).toNat = 45) inferInstance ⟨by omega, by rw [getD_byte s 0 hp]; exact h1⟩
      rw [parseZ, e]
      exact parse_minus s w hs hp (by rw [beq_iff_eq]; omega)
    · have e : parseZ s.data.toList = ((false, (parseD s.data.toList).1), (parseD s.data.toList).2) := by
        rw [parseZ, if_neg]; rintro ⟨_, h⟩; rw [getD_byte s 0 hp] at h; exact h1 h
      rw [e]; exact parse_plus s w hs (.inr ⟨hp, by rw [beq_eq_false_iff_ne]; omega⟩)
end Go.Proofs.YtmnankcllblgjaaDoor.Ref03

namespace Go.Proofs.YtmnankcllblgjaaDoor.Sg03
open Go.RowKit
set_option linter.unusedVariables false
open Go.Proofs.YtmnankcllblgjaaDoor.Dig
open Go.Proofs.YtmnankcllblgjaaDoor.Ref03

set_option maxRecDepth 100000 in
set_option maxHeartbeats 1000000 in
theorem text_any (A0 : Option Addr) (c0 : Nat) (na : Bool) (xs : List Nat) (w : World) (hx : Row w (.slice A0 xs.length c0) xs) (lx : xs.length ≤ 1000) :
    Calls Tryd.prog 7 #[sv na (.slice A0 xs.length c0)] w fun e w' => e = .returned (.tuple #[.string ⟨(textZ na xs).1.toArray⟩, .int .i64 (textZ na xs).2]) ∧ Since w w' := by
  have H := Lib.hid hx
  have LL := Lib.hid lx
  have HD := Lib.hid hx.dig
  obtain ⟨W0, hW0⟩ : ∃ W0, W0 = w.alloc (.cells #[.bool na, .slice A0 xs.length c0] 30) := ⟨_, rfl⟩
  have HW := Lib.hid hW0
  have hold : Hid (∀ W : World, Since W0 W → (W.cell? ⟨w.heap.size, 0, none⟩ = some (.bool na) ∧ W.cell? ⟨w.heap.size, 1, none⟩ = some (.slice A0 xs.length c0))) := fun W h => hold1 (hW0 ▸ h)
  have hS0 : Since w W0 := by rw [hW0]; exact (Since.refl w).alloc _
  have hK := Since.refl W0
  clear hW0 hx lx
  by_cases r1 : srightB na xs = true
  · have R1 := Lib.hid r1
    have ed : Ref02.textD xs = (text (num xs), 0) := by unfold Ref02.textD; rw [if_pos (sright_right r1)]
    have hlen : (text (num xs)).length ≤ 20000 := by
      have h1 := decs_num_len HD.out
      have h2 := LL.out
      unfold text; split
      · simp
      · omega
    obtain ⟨L, hL⟩ : ∃ L, L = text (num xs) := ⟨_, rfl⟩
    rw [← hL] at hlen ed
    have ED := Lib.hid ed
    have EV := Lib.hid (show textZ na xs = ((if na = true then 45 :: L else L), 0) by rw [textZ, if_pos r1, hL])
    clear r1 hL ed
    cases na
    · go_enter Tryd.func7, Tryd.ntmps7
      go_wp2_with fail
      rw [← HW.out]
      go_wp2_with (first
        | (go_at_call 14; (with_reducible refine (right_any (.slice A0 xs.length c0) false xs _ (H.out.since (hS0.trans hK)) (by have := LL.out; omega)).mono ?_); rw [R1.out]; rintro e w1 ⟨rfl, h1⟩; have hK := hK.trans h1; obtain ⟨k0, k1⟩ := hold.out _ hK)
        | (go_at_call 24; (with_reducible refine (Nat02.text_any (.slice A0 xs.length c0) xs _ (H.out.since (hS0.trans hK)) (by have := LL.out; omega)).mono ?_); rw [ED.out]; rintro e w2 ⟨rfl, h2⟩; have hK := hK.trans h2; obtain ⟨k0, k1⟩ := hold.out _ hK))
      go_ret2
      exact ⟨by rw [EV.out]; rfl, hS0.trans hK⟩
    · go_enter Tryd.func7, Tryd.ntmps7
      go_wp2_with fail
      rw [← HW.out]
      go_wp2_with (first
        | (go_at_call 14; (with_reducible refine (right_any (.slice A0 xs.length c0) true xs _ (H.out.since (hS0.trans hK)) (by have := LL.out; omega)).mono ?_); rw [R1.out]; rintro e w1 ⟨rfl, h1⟩; have hK := hK.trans h1; obtain ⟨k0, k1⟩ := hold.out _ hK)
        | (go_at_call 24; (with_reducible refine (Nat02.text_any (.slice A0 xs.length c0) xs _ (H.out.since (hS0.trans hK)) (by have := LL.out; omega)).mono ?_); rw [ED.out]; rintro e w2 ⟨rfl, h2⟩; have hK := hK.trans h2; obtain ⟨k0, k1⟩ := hold.out _ hK))
      go_ret2
      have ev : textZ true xs = (45 :: L, 0) := EV.out.trans (by simp)
      rw [ev]
      exact ⟨congrArg (fun b : ByteArray => Ending.returned (.tuple #[.string b, .int .i64 0])) (bytes_cons 45 L), hS0.trans hK⟩
  · have R1 := Lib.hid (show srightB na xs = false by simpa using r1)
    have EV := Lib.hid (show textZ na xs = ([], 2) by rw [textZ, if_neg r1])
    clear r1
    go_enter Tryd.func7, Tryd.ntmps7
    go_wp2_with fail
    rw [← HW.out]
    go_wp2_with (first
      | (go_at_call 14; (with_reducible refine (right_any (.slice A0 xs.length c0) na xs _ (H.out.since (hS0.trans hK)) (by have := LL.out; omega)).mono ?_); rw [R1.out]; rintro e w1 ⟨rfl, h1⟩; have hK := hK.trans h1; obtain ⟨k0, k1⟩ := hold.out _ hK))
    go_ret2
    exact ⟨by rw [EV.out]; rfl, hS0.trans hK⟩
end Go.Proofs.YtmnankcllblgjaaDoor.Sg03

namespace Go.Proofs.YtmnankcllblgjaaDoor.Sg03
open Go.RowKit
set_option linter.unusedVariables false
open Go.Proofs.YtmnankcllblgjaaDoor.Dig
open Go.Proofs.YtmnankcllblgjaaDoor.Ref03


theorem take_first (l : List UInt8) (h : 0 < l.length) : l.extract 0 1 = [l[0]] := by
  cases l with
  | nil => simp at h
  | cons a t => simp [List.extract]
theorem first_byte (s : ByteArray) (hp : 0 < s.size) : (s.extract 0 1).toList = [s[0]] := by
  rw [ByteArray.toList_eq, ByteArray.data_extract, Array.toList_extract]
  have hl : s.data.toList.length = s.size := Array.length_toList
  have e : s[0] = s.data.toList[0]'(by omega) := rfl
  rw [e]
  exact take_first _ (by omega)
theorem pre_yes (s : ByteArray) (w : World) (hp : 0 < s.size) (h0 : s[0] = 45) :
    Calls Tryd.prog 77 #[.string s, .string ⟨#[45]⟩] w fun e w' => e = .returned (.bool true) ∧ w = w' := by
  have HE := Lib.hid (show ((s.extract 0 1).toList == [45]) = true by rw [first_byte s hp, h0]; rfl)
  clear h0
  go_enter Tryd.func77, Tryd.ntmps77
  go_wp2
  go_ret
  exact ⟨ret_bool HE.out, rfl⟩
theorem pre_no (s : ByteArray) (w : World) (hd : s.size = 0 ∨ ∃ h : 0 < s.size, s[0] ≠ 45) :
    Calls Tryd.prog 77 #[.string s, .string ⟨#[45]⟩] w fun e w' => e = .returned (.bool false) ∧ w = w' := by
  rcases hd with hd | ⟨hp, hd⟩
  · go_enter Tryd.func77, Tryd.ntmps77
    go_wp2
    go_ret
    exact ⟨rfl, rfl⟩
  · have HE := Lib.hid (show ((s.extract 0 1).toList == [45]) = false by rw [first_byte s hp]; simpa using hd)
    clear hd
    go_enter Tryd.func77, Tryd.ntmps77
    go_wp2
    go_ret
    exact ⟨ret_bool HE.out, rfl⟩

theorem lite_yes (s : ByteArray) (w : World) (hp : 0 < s.size) (h0 : s[0] = 45) :
    Calls Tryd.prog 52 #[.string s, .string ⟨#[45]⟩] w fun e w' => e = .returned (.tuple #[.string (s.extract 1 s.size), .bool true]) ∧ w = w' := by
  have HC := Lib.hid (fun W => pre_yes s W hp h0)
  go_enter Tryd.func52, Tryd.ntmps52
  go_wp2_with (first
    | (go_at_call 77; (with_reducible refine (HC.out _).mono ?_); rintro e w1 ⟨rfl, rfl⟩))
  go_ret2
  exact ⟨rfl, rfl⟩
theorem cut_yes (s : ByteArray) (w : World) (hp : 0 < s.size) (h0 : s[0] = 45) :
    Calls Tryd.prog 27 #[.string s, .string ⟨#[45]⟩] w fun e w' => e = .returned (.tuple #[.string (s.extract 1 s.size), .bool true]) ∧ w = w' := by
  have HC := Lib.hid (fun W => lite_yes s W hp h0)
  go_enter Tryd.func27, Tryd.ntmps27
  go_wp2_with (first
    | (go_at_call 52; (with_reducible refine (HC.out _).mono ?_); rintro e w1 ⟨rfl, rfl⟩))
  go_ret2
  exact ⟨rfl, rfl⟩

theorem lite_no (s : ByteArray) (w : World) (hd : s.size = 0 ∨ ∃ h : 0 < s.size, s[0] ≠ 45) :
    Calls Tryd.prog 52 #[.string s, .string ⟨#[45]⟩] w fun e w' => e = .returned (.tuple #[.string s, .bool false]) ∧ w = w' := by
  have HC := Lib.hid (fun W => pre_no s W hd)
  go_enter Tryd.func52, Tryd.ntmps52
  go_wp2_with (first
    | (go_at_call 77; (with_reducible refine (HC.out _).mono ?_); rintro e w1 ⟨rfl, rfl⟩))
  go_ret2
  exact ⟨rfl, rfl⟩
theorem cut_no (s : ByteArray) (w : World) (hd : s.size = 0 ∨ ∃ h : 0 < s.size, s[0] ≠ 45) :
    Calls Tryd.prog 27 #[.string s, .string ⟨#[45]⟩] w fun e w' => e = .returned (.tuple #[.string s, .bool false]) ∧ w = w' := by
  have HC := Lib.hid (fun W => lite_no s W hd)
  go_enter Tryd.func27, Tryd.ntmps27
  go_wp2_with (first
    | (go_at_call 52; (with_reducible refine (HC.out _).mono ?_); rintro e w1 ⟨rfl, rfl⟩))
  go_ret2
  exact ⟨rfl, rfl⟩

end Go.Proofs.YtmnankcllblgjaaDoor.Sg03

namespace Go.Proofs.YtmnankcllblgjaaDoor.Sg03
open Go.RowKit
set_option linter.unusedVariables false
open Go.Proofs.YtmnankcllblgjaaDoor.Dig
open Go.Proofs.YtmnankcllblgjaaDoor.Ref03
open Go.Proofs.YtmnankcllblgjaaDoor.Ref02 (parseD getD_byte)

theorem parse_ret (s : ByteArray) (w : World) (hs : s.size ≤ 100000) {r : List Nat × Int} (h : parseD s.data.toList = r) : Calls Tryd.prog 28 #[.string s] w (RetSlErr r w) :=
  (Nat02.parse_any s w hs).mono fun _ _ k => .of (h ▸ k)

set_option maxRecDepth 100000 in
set_option maxHeartbeats 1000000 in
theorem parse_cut (s t : ByteArray) (neg : Bool) (w : World) (hc : ∀ W, Calls Tryd.prog 27 #[.string s, .string ⟨#[45]⟩] W fun e w' => e = .returned (.tuple #[.string t, .bool neg]) ∧ W = w') (ht : t.size ≤ 100000) :
    Calls Tryd.prog 10 #[.string s] w (RetZ (if (parseD t.data.toList).2 = 0 then (if neg = true ∧ (parseD t.data.toList).1.length = 0 then ((false, []), 5) else ((signB neg (parseD t.data.toList).1, (parseD t.data.toList).1), 0)) else ((false, []), (parseD t.data.toList).2)) w) := by
  have HC := Lib.hid hc
  have HT := Lib.hid ht
  have hp := parseD_cases t.data.toList
  obtain ⟨r, hr⟩ : ∃ r, parseD t.data.toList = r := ⟨_, rfl⟩
  have HP := Lib.hid hr
  rw [hr] at hp ⊢
  obtain ⟨ds, x⟩ := r
  clear hr hc ht
  have hb : decide (0 < 0) = false := rfl
  rcases hp with ⟨h0, hl⟩ | hp | hp
  · simp only at h0 hl
    subst h0
    have HL := Lib.hid (show ds.length ≤ 1000000 by omega)
    clear hl
    by_cases hz : neg = true ∧ ds.length = 0
    · obtain ⟨rfl, hz⟩ := hz
      obtain rfl := List.eq_nil_of_length_eq_zero hz
      rw [if_pos rfl, if_pos ⟨rfl, rfl⟩]
      go_enter Tryd.func10, Tryd.ntmps10
      go_wp2_with (first
        | (go_at_call 27; (with_reducible refine (HC.out _).mono ?_); rintro e w1 ⟨rfl, rfl⟩)
        | (go_at_call 28; (with_reducible refine (parse_ret t _ HT.out HP.out).mono ?_); rintro e w2 ⟨A2, c2, rfl, hr1, hs1⟩; obtain ⟨q0, q1, q2, q3⟩ := keep2 hs1))
      refine bodyPost_ret (v := .tuple #[sv false (.slice none 0 0), .int .i64 5]) ?_ rfl ?_
      · simp [results, Tryd.results10, go_sem, q0, q1]
      · exact ⟨_, _, rfl, Row.nil _, since_set2 hs1 _ _⟩
    · rw [if_pos rfl, if_neg hz]
      have HZ := Lib.hid hz
      have hg : neg = true → ((ds.length : Int) == 0) = false := fun h => by rw [beq_eq_false_iff_ne]; intro k; exact hz ⟨h, by omega⟩
      cases neg
      · clear hg hz
        go_enter Tryd.func10, Tryd.ntmps10
        go_wp2_with (first
          | (go_at_call 27; (with_reducible refine (HC.out _).mono ?_); rintro e w1 ⟨rfl, rfl⟩)
          | (go_at_call 28; (with_reducible refine (parse_ret t _ HT.out HP.out).mono ?_); rintro e w2 ⟨A2, c2, rfl, hr1, hs1⟩)
          | (go_at_call 29; (with_reducible refine (number_any (.slice A2 ds.length c2) false ds _ hr1 HL.out).mono ?_); rintro e w3 ⟨rfl, h3⟩; have hK := hs1.trans h3; have hr2 := hr1.since h3; obtain ⟨q0, q1, q2, q3⟩ := keep2 hK))
        refine bodyPost_ret (v := .tuple #[sv (signB false ds) (.slice A2 ds.length c2), .int .i64 0]) ?_ rfl ?_
        · simp [results, Tryd.results10, go_sem, q0, q1]
        · exact ⟨_, _, rfl, row_set2 hr2 hK _ _, since_set2 hK _ _⟩
      · have hg := hg rfl
        clear hz
        go_enter Tryd.func10, Tryd.ntmps10
        go_wp2_with (first
          | (go_at_call 27; (with_reducible refine (HC.out _).mono ?_); rintro e w1 ⟨rfl, rfl⟩)
          | (go_at_call 28; (with_reducible refine (parse_ret t _ HT.out HP.out).mono ?_); rintro e w2 ⟨A2, c2, rfl, hr1, hs1⟩)
          | (go_at_call 29; (with_reducible refine (number_any (.slice A2 ds.length c2) true ds _ hr1 HL.out).mono ?_); rintro e w3 ⟨rfl, h3⟩; have hK := hs1.trans h3; have hr2 := hr1.since h3; obtain ⟨q0, q1, q2, q3⟩ := keep2 hK))
        refine bodyPost_ret (v := .tuple #[sv (signB true ds) (.slice A2 ds.length c2), .int .i64 0]) ?_ rfl ?_
        · simp [results, Tryd.results10, go_sem, q0, q1]
        · exact ⟨_, _, rfl, row_set2 hr2 hK _ _, since_set2 hK _ _⟩
  all_goals
    cases hp
    rw [if_neg (by decide)]
    go_enter Tryd.func10, Tryd.ntmps10
    go_wp2_with (first
      | (go_at_call 27; (with_reducible refine (HC.out _).mono ?_); rintro e w1 ⟨rfl, rfl⟩)
      | (go_at_call 28; (with_reducible refine (parse_ret t _ HT.out HP.out).mono ?_); rintro e w2 ⟨A2, c2, rfl, hr1, hs1⟩; obtain ⟨q0, q1, q2, q3⟩ := keep2 hs1))
    first
      | (refine bodyPost_ret (v := .tuple #[sv false (.slice none 0 0), .int .i64 3]) ?_ rfl ?_
         · simp [results, Tryd.results10, go_sem, q0, q1]; done
         · exact ⟨_, _, rfl, Row.nil _, since_set2 hs1 _ _⟩)
      | (refine bodyPost_ret (v := .tuple #[sv false (.slice none 0 0), .int .i64 5]) ?_ rfl ?_
         · simp [results, Tryd.results10, go_sem, q0, q1]; done
         · exact ⟨_, _, rfl, Row.nil _, since_set2 hs1 _ _⟩)
theorem parse_any (s : ByteArray) (w : World) (hs : s.size ≤ 100000) :
    Calls Tryd.prog 10 #[.string s] w (RetZ (parseZ s.data.toList) w) := by
  have hz : s.data.toList.length = s.size := Array.length_toList
  by_cases h1 : ∃ h : 0 < s.size, s[0] = 45
  · obtain ⟨hp, h1⟩ := h1
    have h := parse_cut s (s.extract 1 s.size) true w (fun W => cut_yes s W hp h1) (by rw [ByteArray.size_extract]; omega)
    rw [drop_bytes] at h
    have e := @if_pos (0 < s.data.toList.length ∧ (s.data.toList.getD 0 0).toNat = 45) inferInstance ⟨by omega, by rw [getD_byte s 0 hp, h1]; rfl⟩
    rw [parseZ, e]
    refine h.mono fun e w' k => ?_
    generalize parseD (s.data.toList.drop 1) = r at k ⊢
    obtain ⟨ds, x⟩ := r
    show RetZ (if x = 0 then (if ds.length = 0 then ((false, []), 5) else ((true, ds), 0)) else ((false, []), x)) w e w'
    have k : RetZ (if x = 0 then (if true = true ∧ ds.length = 0 then ((false, []), 5) else ((signB true ds, ds), 0)) else ((false, []), x)) w e w' := k
    by_cases h0 : x = 0
    · rw [if_pos h0] at k ⊢
      by_cases hl : ds.length = 0
      · rw [if_pos ⟨rfl, hl⟩] at k; rw [if_pos hl]; exact k
      · have hs : signB true ds = true := by simp only [signB, Bool.true_and]; exact decide_eq_true (by omega)
        rw [if_neg (fun h => hl h.2), hs] at k; rw [if_neg hl]; exact k
    · rw [if_neg h0] at k ⊢; exact k
  · have hd : s.size = 0 ∨ ∃ h : 0 < s.size, s[0] ≠ 45 := by
      by_cases hp : 0 < s.size
      · exact .inr ⟨hp, fun h => h1 ⟨hp, h⟩⟩
      · exact .inl (by omega)
    have h := parse_cut s s false w (fun W => cut_no s W hd) hs
    have e : parseZ s.data.toList = ((false, (parseD s.data.toList).1), (parseD s.data.toList).2) := by
      rw [parseZ, if_neg]
      rintro ⟨h2, h3⟩
      rw [getD_byte s 0 (by omega)] at h3
      exact h1 ⟨by omega, UInt8.toNat_inj.1 h3⟩
    rw [e]
    refine h.mono fun e w' k => ?_
    rcases parseD_cases s.data.toList with ⟨h0, hl⟩ | h0 | h0
    · rw [if_pos h0, if_neg (by simp)] at k
      rw [h0]; exact k
    · rw [h0] at k ⊢; exact k
    · rw [h0] at k ⊢; exact k

end Go.Proofs.YtmnankcllblgjaaDoor.Sg03
