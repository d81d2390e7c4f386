/- What the document's own Parse gives back. -/
import Derived.Test.YtkceldnljppflaaDoorRef02i
import Derived.Test.YtkceldnljppflaaDoorDec
import Derived.Deep.RegionWith
namespace Go.Proofs.YtkceldnljppflaaDoor.Ref02
open Go.RowKit
set_option linter.unusedVariables false
open Go.Proofs.YtkceldnljppflaaDoor.Dig

theorem take_byte (s : ByteArray) (k : Nat) (h : k < s.size) : s.data.toList.take (k + 1) = s.data.toList.take k ++ [s[k]] := by
  rw [List.take_succ_eq_append_getElem (by simpa using h)]; rfl

/-- the last part: all are digits, and not too many -/
def parseD (bs : List UInt8) : List Nat × Int :=
  if bs.length = 0 ∨ (1 < bs.length ∧ (bs.getD 0 0).toNat = 48) then ([], 5) else if allDec bs = false then ([], 5) else if 2000 < bs.length then ([], 3) else fitD (undec bs)

theorem getD_byte (s : ByteArray) (k : Nat) (h : k < s.size) : s.data.toList.getD k 0 = s[k] := by
  have : k < s.data.toList.length := Nat.lt_of_lt_of_eq h (Array.length_toList (xs := s.data)).symm
  simp only [List.getD, List.getElem?_eq_getElem this]; rfl
theorem allDec_take_false {bs : List UInt8} {k : Nat} (h : allDec (bs.take k) = false) : allDec bs = false := by
  have e : bs = bs.take k ++ bs.drop k := (List.take_append_drop k bs).symm
  rw [e]
  simp only [allDec, List.all_append] at h ⊢
  rw [h]; rfl
theorem undec_len {bs : List UInt8} (h : allDec bs = true) : undec bs < 10 ^ bs.length := by
  obtain ⟨n, hn⟩ : ∃ n, n = bs.length := ⟨_, rfl⟩
  induction n generalizing bs with
  | zero =>
    have : bs = [] := List.eq_nil_of_length_eq_zero hn.symm
    subst this; simp [undec]
  | succ n ih =>
    obtain ⟨b, hb⟩ : ∃ b, bs = bs.take n ++ [b] := ⟨bs[n]'(by omega), by
      rw [← List.take_succ_eq_append_getElem (by omega), List.take_of_length_le (by omega)]⟩
    have hl : (bs.take n).length = n := by rw [List.length_take]; omega
    have h2 : allDec (bs.take n) = true ∧ b.toNat ≤ 57 := by
      rw [hb, allDec_snoc] at h
      simp at h
      exact ⟨h.1, h.2.2⟩
    have h3 := ih h2.1 hl.symm
    rw [hl] at h3
    rw [← hn, hb, undec_snoc, Nat.pow_succ]
    omega
theorem undec_digs_len {bs : List UInt8} (h : allDec bs = true) : (digs (undec bs)).length ≤ bs.length := by
  apply digs_len_le
  exact Nat.lt_of_lt_of_le (undec_len h) (Nat.pow_le_pow_left (by decide) _)

theorem scaled_ten (va : Value) (xs : List Nat) (w : World) (hx : Row w va xs) (lx : xs.length ≤ 100000) :
    Calls Tryd.prog 60 #[va, .int .u64 10, .int .i64 0] w (RetRow (digs (num xs * 10)) w) := by
  have h := scaled_any va xs 10 0 w hx lx (by omega) (by omega)
  rw [Nat.pow_zero, Nat.one_mul] at h
  exact h
set_option maxRecDepth 100000 in
set_option maxHeartbeats 2000000 in
theorem parse_any (s : ByteArray) (w : World) (hs : s.size ≤ 100000) :
    Calls Tryd.prog 33 #[.string s] w (RetRowErr (parseD s.data.toList).1 (parseD s.data.toList).2 w) := by
  have hz : s.data.toList.length = s.size := Array.length_toList
  by_cases h0 : s.size = 0
  · have e : parseD s.data.toList = ([], 5) := by rw [parseD, if_pos (.inl (by omega))]
    rw [e]
    have he : s.toList = [] := by rw [ByteArray.toList_eq]; exact List.eq_nil_of_length_eq_zero (by omega)
    clear e hz h0
    go_enter Tryd.func33, Tryd.ntmps33
    go_wp2
    go_ret2
    exact ⟨_, rfl, Row.nil _, Since.refl _⟩
  have hne : s.toList.isEmpty = false := by
    rw [ByteArray.toList_eq, List.isEmpty_eq_false_iff]
    intro h; rw [h] at hz; simp at hz; omega
  have hne2 : ¬ s.toList = [] := by
    rw [ByteArray.toList_eq]
    intro h; rw [h] at hz; simp at hz; omega
  have hp : 0 < s.size := by omega
  by_cases h1 : 1 < s.size ∧ (s[0].toNat = 48)
  · have e : parseD s.data.toList = ([], 5) := by
      rw [parseD, if_pos (.inr ⟨by omega, by rw [getD_byte s 0 hp]; exact h1.2⟩)]
    rw [e]
    obtain ⟨h2, h3⟩ := h1
    have h4 : ((s[0].toNat : Int) == 48) = true := by rw [beq_iff_eq]; omega
    clear e hz h0 h3
    go_enter Tryd.func33, Tryd.ntmps33
    go_wp2
    go_ret2
    exact ⟨_, rfl, Row.nil _, Since.refl _⟩
  have h2 : s.size ≤ 1 ∨ (1 < s.size ∧ ((s[0].toNat : Int) == 48) = false) := by
    rcases Nat.lt_or_ge 1 s.size with h | h
    · right
      refine ⟨h, ?_⟩
      rw [beq_eq_false_iff_ne]
      intro h3
      exact h1 ⟨h, by omega⟩
    · left; exact h
  obtain ⟨R, hR⟩ : ∃ R, R = (if allDec s.data.toList = false then (([], 5) : List Nat × Int) else if 2000 < s.data.toList.length then ([], 3) else fitD (undec s.data.toList)) := ⟨_, rfl⟩
  have e : parseD s.data.toList = R := by
    rw [hR, parseD, if_neg]
    rintro (h | h)
    · omega
    · rw [getD_byte s 0 hp] at h
      exact h1 ⟨by omega, h.2⟩
  rw [e]
  have HR := Lib.hid hR
  have HZ := Lib.hid hz
  clear e h1 hR hz h0
  rcases h2 with h2 | ⟨h2, h3⟩
  all_goals
    go_enter Tryd.func33, Tryd.ntmps33
    go_wp2
    go_loop [4] (fun i => ∃ k : Nat, k ≤ s.size ∧ i = .int .i64 k ∧ Hid (allDec (s.data.toList.take k) = true)) (fun i => s.size - (intOf i).toNat)
    case atStart => exact ⟨0, Nat.zero_le _, rfl, rfl⟩
    case round =>
      obtain ⟨k, hk, rfl, had⟩ := hrel
      by_cases hlt : k < s.size
      · have ht := take_byte s k hlt
        by_cases hb : 48 ≤ s[k].toNat ∧ s[k].toNat ≤ 57
        · obtain ⟨hb1, hb2⟩ := hb
          have h3 : allDec (s.data.toList.take (k + 1)) = true := by
            rw [ht, allDec_snoc, had.out]; simp; omega
          have H3 := Lib.hid h3
          clear ht h3
          go_wp2
          go_round
          case rel => exact ⟨k + 1, by omega, by go_num, H3⟩
          case measure => simp [intOf]; omega
        · have h3 : allDec (s.data.toList.take (k + 1)) = false := by
            rw [ht, allDec_snoc, had.out]; simp; omega
          have e : R = ([], 5) := by rw [HR.out, if_pos (allDec_take_false h3)]
          rw [e]
          clear ht h3 e
          rcases (show s[k].toNat < 48 ∨ (48 ≤ s[k].toNat ∧ 57 < s[k].toNat) by omega) with hb1 | ⟨hb1, hb2⟩
          · clear hb
            go_wp2
            go_ret2
            exact ⟨_, rfl, Row.nil _, Since.refl _⟩
          · clear hb
            go_wp2
            go_ret2
            exact ⟨_, rfl, Row.nil _, Since.refl _⟩
      · have had2 : allDec s.data.toList = true := by
          have := had.out
          rwa [List.take_of_length_le (by have := HZ.out; omega)] at this
        have HA := Lib.hid had2
        clear had2 had
        obtain rfl : k = s.size := by omega
        by_cases hbig : 2000 < s.size
        · have e : R = ([], 3) := by rw [HR.out, if_neg (by rw [HA.out]; simp), if_pos (by rw [HZ.out]; exact hbig)]
          have HE := Lib.hid e
          clear e
          go_wp2
          all_goals
            go_ret2
            refine ⟨Value.slice none 0 0, ?_, ?_, Since.refl _⟩
            · rw [HE.out]; rfl
            · rw [HE.out]; exact Row.nil _
        · have e : R = fitD (undec s.data.toList) := by rw [HR.out, if_neg (by rw [HA.out]; simp), if_neg (by rw [HZ.out]; exact hbig)]
          have HE := Lib.hid e
          clear e
          have hsm : s.size ≤ 2000 := by omega
          go_wp2
          go_loopw [5, 6] (fun a i wr => ∃ k : Nat, k ≤ s.size ∧ i = .int .i64 k ∧ Row wr a (digs (undec (s.data.toList.take k))) ∧ Since w wr) (fun _ i _ => s.size - (intOf i).toNat)
          case atStart => exact ⟨0, Nat.zero_le _, rfl, Row.nil _, Since.refl _⟩
          case round =>
            obtain ⟨k, hk, rfl, hrow, hw⟩ := hrel
            by_cases hlt : k < s.size
            · have hal : allDec (s.data.toList.take k) = true := by
                have h := HA.out
                have e : s.data.toList = s.data.toList.take k ++ s.data.toList.drop k := (List.take_append_drop k _).symm
                rw [e] at h
                simp only [allDec, List.all_append, Bool.and_eq_true] at h
                exact h.1
              have hlen := Nat.le_trans (undec_digs_len hal) (List.length_take_le _ _)
              have HLEN := Lib.hid (show (digs (undec (s.data.toList.take k))).length ≤ 2000 by omega)
              have ht := take_byte s k hlt
              have hun := undec_snoc (s.data.toList.take k) s[k]
              rw [← ht] at hun
              have hal2 : allDec (s.data.toList.take (k + 1)) = true := by
                have h := HA.out
                have e : s.data.toList = s.data.toList.take (k + 1) ++ s.data.toList.drop (k + 1) := (List.take_append_drop (k + 1) _).symm
                rw [e] at h
                simp only [allDec, List.all_append, Bool.and_eq_true] at h
                exact h.1
              have hbd : 48 ≤ s[k].toNat ∧ s[k].toNat ≤ 57 := by
                rw [ht, allDec_snoc, Bool.and_eq_true] at hal2
                simpa using hal2.2
              obtain ⟨hb1, hb2⟩ := hbd
              have HUN := Lib.hid hun
              have HROW := Lib.hid hrow
              clear hal hlen ht hun hal2 hrow
              obtain ⟨d, hd⟩ : ∃ d, d = s[k].toNat - 48 := ⟨_, rfl⟩
              have hdi : (s[k].toNat : Int) - 48 = (d : Int) := by omega
              have hd9 : d ≤ 9 := by omega
              have HDD := Lib.hid hd
              have L2 := Lib.hid (show (digs (num (digs (undec (s.data.toList.take k))) * 10)).length ≤ 100000 by
                rw [num_digs]
                have h9 : undec (s.data.toList.take k) < 4294967296 ^ (digs (undec (s.data.toList.take k))).length := by
                  have := num_lt (isDig_digs (undec (s.data.toList.take k)))
                  rwa [num_digs] at this
                refine Nat.le_trans (digs_len_le (k := (digs (undec (s.data.toList.take k))).length + 1) ?_) (by have := HLEN.out; omega)
                rw [Nat.pow_succ]; omega)
              have L3 := Lib.hid (show (digs d).length ≤ 100000 from Nat.le_trans (digs_len_le (k := 1) (by omega)) (by omega))
              have hw8 : IntKind.u8.wrap (d : Int) = (d : Int) := IntWalk.u8_in _ (by omega)
              have hw64 : IntKind.u64.wrap (d : Int) = (d : Int) := IntWalk.u64_in _ (by omega)
              clear hd
              go_wp2
              go_region_with (first
                | (go_at_call 60; (with_reducible refine (scaled_ten _ (digs (undec (s.data.toList.take k))) _ (HROW.out.since (Since.refl wr).drew) (by have := HLEN.out; omega)).mono ?_); rintro e w1 ⟨v1, rfl, hr1, hs1⟩)
                | (go_at_call 21; (with_reducible refine (of_any d _ (by omega)).mono ?_); rintro e w2 ⟨v2, rfl, hr2, hs2⟩)
                | (go_at_call 43; (with_reducible refine (plus_any v1 v2 _ (digs d) _ (hr1.since hs2) hr2 L2.out L3.out).mono ?_); rw [num_digs, num_digs, num_digs]; rintro e w3 ⟨v3, rfl, hr3, hs3⟩))
              all_goals
                go_wp2
                go_roundw
                case rel =>
                  refine ⟨k + 1, by omega, by go_num, ?_, (((hw.trans (Since.refl wr).drew).trans ‹Since wr.drew w1›).trans ‹Since w1 w2›).trans ‹Since w2 w3›⟩
                  rw [HUN.out, ← HDD.out, Nat.mul_comm 10]
                  exact ‹Row w3 v3 _›
                case measure => simp [intOf]; omega
            · have HR3 := Lib.hid hrow
              have hz := HZ.out
              obtain rfl : k = s.size := by omega
              rw [List.take_of_length_le (by omega)] at hrow
              have HRW := Lib.hid hrow
              have L4 := Lib.hid (Nat.le_trans (undec_digs_len HA.out) (by omega : s.data.toList.length ≤ 1000000))
              clear hrow HR3 hz
              by_cases hf : (digs (undec s.data.toList)).length ≤ 256
              · have ef : R = (digs (undec s.data.toList), 0) := by rw [HE.out, fitD, if_pos hf]
                have HF := Lib.hid hf
                have EF := Lib.hid ef
                clear ef hf
                go_wp2_with (go_at_call 42; (with_reducible refine (fit_any _ (digs (undec s.data.toList)) _ HRW.out L4.out).mono ?_); rw [if_pos HF.out]; rintro e w3 ⟨v3, rfl, hr3, hs3⟩)
                go_ret2
                refine ⟨v3, ?_, ?_, hw.trans ‹_›⟩
                · rw [EF.out]; rfl
                · rw [EF.out]; exact ‹Row _ v3 _›
              · have ef : R = ([], 3) := by rw [HE.out, fitD, if_neg hf]
                have HF := Lib.hid hf
                have EF := Lib.hid ef
                clear ef hf
                go_wp2_with (go_at_call 42; (with_reducible refine (fit_any _ (digs (undec s.data.toList)) _ HRW.out L4.out).mono ?_); rw [if_neg HF.out]; rintro e w3 ⟨v3, rfl, hr3, hs3⟩)
                go_ret2
                refine ⟨v3, ?_, ?_, hw.trans ‹_›⟩
                · rw [EF.out]; rfl
                · rw [EF.out]; exact ‹Row _ v3 _›
end Go.Proofs.YtkceldnljppflaaDoor.Ref02
