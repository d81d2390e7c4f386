/- What the document's own Split of layer 5 gives back. -/
import Derived.Test.YtbkkalmdjcpgoaaDoorR5v
import Derived.Test.YtbkkalmdjcpgoaaDoorVa
import Derived.Deep.DeepCutAuto
namespace Go.Proofs.YtbkkalmdjcpgoaaDoor.Ref05
open Go.RowKit
set_option linter.unusedVariables false
set_option linter.unusedSimpArgs false
open Go.Proofs.YtbkkalmdjcpgoaaDoor.Dig Go.Proofs.YtbkkalmdjcpgoaaDoor.Lx Go.Proofs.YtbkkalmdjcpgoaaDoor.Tk

theorem info_tok : (Tryd.prog.info? 34).map (fun i => (i.zero, i.size, i.bytes)) = some (some (.agg #[.int .i64 0, .string ⟨#[]⟩, .int .i64 0, .int .i64 0]), 4, 40) := by kernel_rfl
theorem blank_start (s : ByteArray) (w : World) (hs : s.size ≤ 100000) :
    Calls Tryd.prog 19 #[.string s, .int .i64 0] w fun e w' => e = .returned (.int .i64 ((endF s 0 : Nat) : Int)) ∧ w = w' := by
  have h := blank_any s 0 w (Nat.zero_le _) hs
  exact h
theorem blank_next (s : ByteArray) (k n : Nat) (w : World) (hk : k + n ≤ s.size) (hs : s.size ≤ 100000) {R : Nat} (hR : endF s (k + n) = k + n + R) :
    Calls Tryd.prog 19 #[.string s, .int .i64 ((k : Int) + (n : Int))] w fun e w' => e = .returned (.int .i64 (R : Int)) ∧ w = w' := by
  have h := blank_any s (k + n) w hk hs
  rw [hR, show k + n + R - (k + n) = R by omega] at h
  exact h
/-- a number's bytes: digits, behind a minus or not -/
theorem run_all {p : UInt8 → Bool} : ∀ (l : Bs) (i : Nat) (h : i < l.length), i < run p l → p l[i] = true
  | [], i, h, _ => by simp at h
  | c :: t, i, h, hr => by
    simp only [run] at hr
    by_cases hc : p c = true
    · rw [if_pos hc] at hr
      cases i with
      | zero => exact hc
      | succ i => exact run_all t i (by simpa using h) (by omega)
    · rw [if_neg hc] at hr; omega
theorem word_num {s : ByteArray} {k : Nat} (hk : k < s.size) (h : (word ((L s).drop k)).1 = 2) : (s[k].toNat = 45 ∧ (word ((L s).drop k)).2 = 1 + run digB ((L s).drop (k + 1)) ∧ 0 < run digB ((L s).drop (k + 1))) ∨ (s[k].toNat ≠ 45 ∧ digB s[k] = true ∧ (word ((L s).drop k)).2 = 1 + run digB ((L s).drop (k + 1))) := by
  rw [L_drop s k hk] at h ⊢
  simp only [word] at h ⊢
  by_cases h1 : letterB s[k] = true
  · rw [if_pos h1] at h; simp at h
  rw [if_neg h1] at h ⊢
  by_cases h2 : digB s[k] = true
  · rw [if_pos h2] at h ⊢
    refine .inr ⟨?_, h2, rfl⟩
    have := dig_bounds h2; omega
  rw [if_neg h2] at h ⊢
  by_cases h3 : s[k].toNat = 45 ∧ 0 < run digB ((L s).drop (k + 1))
  · rw [if_pos h3] at h ⊢
    exact .inl ⟨h3.1, rfl, h3.2⟩
  rw [if_neg h3] at h
  split at h
  · simp at h
  split at h <;> simp at h
theorem part_at {s : ByteArray} {k n i : Nat} (hn : k + n ≤ s.size) (h : i < (s.extract k (k + n)).size) : (s.extract k (k + n))[i] = s[k + i]'(by rw [ByteArray.size_extract] at h; omega) :=
  ByteArray.getElem_extract (start := k) (stop := k + n) (b := s) (i := i) h
theorem run_dig {s : ByteArray} {k i : Nat} (h : i < run digB ((L s).drop (k + 1))) (hk : k + 1 + i < s.size) : digB (s[k + 1 + i]) = true := by
  have hl : i < ((L s).drop (k + 1)).length := by rw [List.length_drop, L_len]; omega
  have h1 := run_all ((L s).drop (k + 1)) i hl h
  rw [List.getElem_drop] at h1
  exact h1
theorem value_part (s : ByteArray) (k n : Nat) (w : World) (hk : k < s.size) (hs : s.size ≤ 100000) (h : word ((L s).drop k) = (2, n)) :
    Calls Tryd.prog 21 #[.string (s.extract k (k + n))] w (RetV (intD (((L s).drop k).take n)) w) := by
  have hle := word_le ((L s).drop k)
  have hw := word_num hk (by rw [h])
  rw [h] at hle hw
  rw [List.length_drop, L_len] at hle
  simp only at hle hw
  have hsz : (s.extract k (k + n)).size = n := by rw [ByteArray.size_extract]; omega
  have hL : L (s.extract k (k + n)) = ((L s).drop k).take n := by rw [L_extract _ _ _ (by omega), show k + n - k = n by omega]
  rw [← hL]
  have hn0 : 0 < n := by rcases hw with h | h <;> omega
  have e0 : (s.extract k (k + n))[0]'(by omega) = s[k] := part_at (i := 0) (by omega) (by omega)
  have hd : ∀ i (hi : i < (s.extract k (k + n)).size), 1 ≤ i → digB ((s.extract k (k + n))[i]) = true := by
    intro i hi h1
    rw [part_at (by omega) hi]
    obtain ⟨j, rfl⟩ : ∃ j, i = j + 1 := ⟨i - 1, by omega⟩
    have := run_dig (s := s) (k := k) (i := j) (by rcases hw with h | h <;> omega) (by omega)
    have e : k + 1 + j = k + (j + 1) := by omega
    simp only [e] at this
    exact this
  rcases hw with ⟨h1, h2, h3⟩ | ⟨h1, h2, h3⟩
  · exact value_minus _ w (by omega) (by omega) (by rw [e0]; exact h1) hd
  · refine value_plus _ w (by omega) (by omega) (by rw [e0]; exact h1) ?_
    intro i hi _
    rcases Nat.eq_zero_or_pos i with rfl | hp
    · rw [e0]; exact h2
    · exact hd i hi hp
theorem value_yes (s : ByteArray) (k n : Nat) (w : World) (hk : k < s.size) (hs : s.size ≤ 100000) (h : word ((L s).drop k) = (2, n)) {v : Int} (hv : intD (((L s).drop k).take n) = v) (hf : fits v) :
    Calls Tryd.prog 21 #[.string (s.extract k (k + n))] w fun e w' => e = .returned (.tuple #[.int .i64 v, .bool true]) ∧ Since w w' := by
  have c := value_part s k n w hk hs h
  subst hv
  unfold RetV at c
  rwa [if_pos hf, decide_eq_true hf] at c
theorem value_no (s : ByteArray) (k n : Nat) (w : World) (hk : k < s.size) (hs : s.size ≤ 100000) (h : word ((L s).drop k) = (2, n)) (hf : ¬ fits (intD (((L s).drop k).take n))) :
    Calls Tryd.prog 21 #[.string (s.extract k (k + n))] w fun e w' => e = .returned (.tuple #[.int .i64 0, .bool false]) ∧ Since w w' := by
  have c := value_part s k n w hk hs h
  unfold RetV at c
  rwa [if_neg hf, decide_eq_false hf] at c
set_option maxRecDepth 100000 in
set_option maxHeartbeats 4000000 in
theorem split_any (s : ByteArray) (w : World) (hs : s.size ≤ 100000) :
    Calls Tryd.prog 10 #[.string s] w (RetT (splitD (L s)) w) := by
  obtain ⟨i0, hi, hz0, hz1, hz2⟩ := info_parts info_tok
  by_cases hbig : 8192 < s.size
  · have HB := Lib.hid (show splitD (L s) = ([], 0, 3) from if_pos (by rw [L_len]; exact hbig))
    go_enter Tryd.func10, Tryd.ntmps10
    go_wp2
    go_ret3
    exact RetT.no HB.out (Since.refl _)
  obtain ⟨r, hr⟩ : ∃ r, r = splitD (L s) := ⟨_, rfl⟩
  have HR := Lib.hid (show lexA (L s) (endF s 0) [] = r by rw [hr, splitD, if_neg (by rw [L_len]; omega)]; unfold endF; rw [Nat.zero_add, List.drop_zero])
  rw [← hr]
  clear hr
  have hE := endF_le (s := s) (Nat.zero_le _)
  have hs' : s.size ≤ 8192 := by omega
  obtain ⟨k0, hk0⟩ : ∃ k0, k0 = endF s 0 := ⟨_, rfl⟩
  have BS := Lib.hid (fun W => blank_start s W (by omega))
  rw [← hk0] at HR BS hE
  clear hk0
  go_enter Tryd.func10, Tryd.ntmps10
  go_wp2_with (go_at_call 19; (with_reducible refine (BS.out _).mono ?_); rintro e w1 ⟨rfl, rfl⟩)
  go_loopw [5, 6] (fun out i wr => ∃ (k m : Nat) (A : Option Addr) (c : Nat) (acc : List Tok), k ≤ s.size ∧ i = .int .i64 (k : Int) ∧ out = .slice A m c ∧ Hid (acc.length = m) ∧ m ≤ 4096 ∧ Hid (wr.ownsRow w.heap.size 34 4 (.slice A m c) m (tcells (acc.map tv))) ∧ Hid (lexA (L s) k acc = r) ∧ Since w wr) (fun _ i _ => s.size - (intOf i).toNat)
  case atStart => exact ⟨k0, 0, none, 0, [], hE.2, rfl, rfl, rfl, by omega, World.ownsRow_nil _ _ _ _, HR.out, Since.refl _⟩
  case round =>
    obtain ⟨k, m, A, c, acc, hk, rfl, rfl, HM, hm, HO, HL, hw⟩ := hrel
    by_cases hlt : k < s.size
    · have hlt' : k < (L s).length := by rw [L_len]; exact hlt
      by_cases hmax : m = 4096
      · have HF := Lib.hid (HL.out.symm.trans (lexA_big hlt' (by rw [HM.out]; exact hmax)))
        have hz : ((m : Int) == 4096) = true := by rw [beq_iff_eq]; omega
        clear hmax
        go_wp2
        go_ret3
        exact RetT.no HF.out hw
      have hz : ((m : Int) == 4096) = false := by rw [beq_eq_false_iff_ne]; omega
      have hmm : m + 1 ≤ 4096 := by omega
      have HX := Lib.hid (show acc.length ≠ 4096 by rw [HM.out]; exact hmax)
      clear hmax
      obtain ⟨kd, n, hkn⟩ : ∃ kd n, word ((L s).drop k) = (kd, n) := ⟨_, _, rfl⟩
      have WD := Lib.hid (fun W => word_any s k W hlt (by omega))
      rw [hkn] at WD
      have hle := word_le ((L s).drop k)
      rw [hkn, List.length_drop, L_len] at hle
      simp only at hle
      have hkd := word_kind ((L s).drop k)
      rw [hkn] at hkd
      simp only at hkd
      by_cases hk0 : kd = 0
      · have HF := Lib.hid (HL.out.symm.trans (lexA_form hlt' HX.out (by rw [hkn]; exact hk0)))
        have hy : ((kd : Int) == 0) = true := by rw [beq_iff_eq]; omega
        clear hk0 hkn
        go_wp2_with (go_at_call 20; (with_reducible refine (WD.out _).mono ?_); rintro e w1 ⟨rfl, rfl⟩)
        go_ret3
        exact RetT.no HF.out hw
      have hy : ((kd : Int) == 0) = false := by rw [beq_eq_false_iff_ne]; omega
      have hn0 := (word_pos (l := (L s).drop k) (by rw [hkn]; exact hk0)).1
      rw [hkn] at hn0
      simp only at hn0
      have HWK := Lib.hid (show (word ((L s).drop k)).1 ≠ 0 by rw [hkn]; exact hk0)
      clear hk0
      have hE2 := endF_le (s := s) (k := k + n) (by omega)
      obtain ⟨R, hR⟩ : ∃ R, endF s (k + n) = k + n + R := ⟨endF s (k + n) - (k + n), by omega⟩
      have hRs : k + n + R ≤ s.size := by omega
      have BN := Lib.hid (fun W => blank_next s k n W (by omega) (by omega) hR)
      have hnx := next_end s k
      rw [hkn] at hnx
      simp only at hnx
      rw [hR] at hnx
      have HNX := Lib.hid hnx
      clear hnx hE2 hR
      have g2 : (k : Int) + (n : Int) ≤ (s.size : Int) := by omega
      have g5 : ((k : Int) + (n : Int)).toNat = k + n := by omega
      have TX := Lib.hid (tok_txt s k n)
      by_cases h2 : kd = 2
      rotate_left
      · have hq : ((kd : Int) == 2) = false := by rw [beq_eq_false_iff_ne]; omega
        have HT := Lib.hid (show tv (tokD ((L s).drop k) k) = ⟨(kd : Int), s.extract k (k + n), 0, (k : Int)⟩ by unfold tokD tv; simp only [hkn, TX.out, if_neg h2])
        have HST := Lib.hid (HL.out.symm.trans (lexA_step hlt' HX.out HWK.out (fun h => absurd h (by rw [hkn]; exact h2))))
        clear h2 hkn
        go_wp2_with (first
          | (go_at_call 20; (with_reducible refine (WD.out _).mono ?_); rintro e w1 ⟨rfl, rfl⟩)
          | (at_builtin; refine wpList_append_own _ rfl _ _ 27 rfl w.heap.size 34 i0 (.agg #[.int .i64 0, .string ⟨#[]⟩, .int .i64 0, .int .i64 0]) 4 40 Tryd.underlying27 hi hz0 hz1 hz2 rfl (by decide) _ _ _ rfl (owns_since HO.out (((Since.refl wr).alloc _).alloc _)) ⟨wr.heap.size + 1, 0, none⟩ 1 1 [.int .i64 (kd : Int), .string (s.extract k (k + n)), .int .i64 0, .int .i64 (k : Int)] rfl rfl ?c1 ?c2 ?c3 ?c4 ?c5 ?_))
        case c1 =>
          intro j u hj
          match j, hj with
          | 0, hj => simp at hj; subst hj; simp [Addr.add]
          | 1, hj => simp at hj; subst hj; simp [Addr.add]
          | 2, hj => simp at hj; subst hj; simp [Addr.add]
          | 3, hj => simp at hj; subst hj; simp [Addr.add]
        case c2 => intro u hu; simp at hu; rcases hu with rfl | rfl | rfl | rfl <;> rfl
        case c3 => unfold maxLen; omega
        case c4 => omega
        case c5 => have := hw.size; simp; omega
        intro v' w2 hown' hgrow _
        have hs1 : Since w w2 := Below.grown ((hw.alloc _).alloc _) hgrow (by have := hw.size; simp; omega) (fun g hg => (HO.out.lt g hg).1)
        have ho1 : w2.ownsRow w.heap.size 34 4 v' (m + 1) (tcells ((acc ++ [tokD ((L s).drop k) k]).map tv)) := by
          rw [List.map_append, tcells_append, List.map_cons, List.map_nil, tcells_one, HT.out]; exact hown'
        clear hown' hgrow
        obtain ⟨A', c', rfl⟩ := owns_slice ho1
        rw [HNX.out] at HST
        have HO1 := Lib.hid ho1
        clear ho1
        go_wp2_with (go_at_call 19; (with_reducible refine (BN.out _).mono ?_); rintro e w3 ⟨rfl, rfl⟩)
        go_roundw
        case rel => exact ⟨k + n + R, m + 1, A', c', _, hRs, by go_num, rfl, by show _ = _; rw [List.length_append, HM.out]; rfl, by omega, HO1.out, HST.out.symm, hs1⟩
        case measure => simp [intOf]; omega
      have hq : ((kd : Int) == 2) = true := by rw [beq_iff_eq]; omega
      subst h2
      obtain ⟨v, hv⟩ : ∃ v, intD (((L s).drop k).take n) = v := ⟨_, rfl⟩
      by_cases hf : fits v
      rotate_left
      · have VN := Lib.hid (fun W => value_no s k n W hlt (by omega) hkn (by rw [hv]; exact hf))
        have HF := Lib.hid (HL.out.symm.trans (lexA_over hlt' HX.out (by rw [hkn]) (by rw [hkn]; simp only; rw [hv]; exact hf)))
        clear hf hkn hv
        go_wp2_with (first
          | (go_at_call 20; (with_reducible refine (WD.out _).mono ?_); rintro e w1 ⟨rfl, rfl⟩)
          | (go_at_call 21; (with_reducible refine (VN.out _).mono ?_); rintro e w4 ⟨rfl, hx⟩))
        go_ret3
        exact RetT.no HF.out ((hw.alloc _).trans hx)
      have VY := Lib.hid (fun W => value_yes s k n W hlt (by omega) hkn hv hf)
      have HT := Lib.hid (show tv (tokD ((L s).drop k) k) = ⟨((2 : Nat) : Int), s.extract k (k + n), v, (k : Int)⟩ by unfold tokD tv; simp only [hkn, TX.out, if_true, hv])
      have HST := Lib.hid (HL.out.symm.trans (lexA_step hlt' HX.out HWK.out (fun _ => by rw [hkn]; simp only; rw [hv]; exact hf)))
      clear hf hkn hv
      go_upto_region 16 with (first
        | (go_at_call 20; (with_reducible refine (WD.out _).mono ?_); rintro e w1 ⟨rfl, rfl⟩)
        | (go_at_call 21; (with_reducible refine (VY.out _).mono ?_); rintro e w4 ⟨rfl, hx⟩; have gb : Bx w4 wr.heap.size #[.int .i64 ((2 : Nat) : Int), .string (s.extract k (k + n)), .int .i64 0, .int .i64 (k : Int)] 34 := Bx.new hx rfl; obtain ⟨q0, q1, q2, q3⟩ := gb.four; obtain ⟨f0, f1, f2, f3⟩ := gb.four'))
      obtain ⟨W5, hW5⟩ : ∃ W5, W5 = w4.setCell ⟨wr.heap.size, 2, none⟩ (.int .i64 v) := ⟨_, rfl⟩
      have g5b : Bx W5 wr.heap.size #[.int .i64 ((2 : Nat) : Int), .string (s.extract k (k + n)), .int .i64 v, .int .i64 (k : Int)] 34 := by rw [hW5]; exact heap_setCell_same w4 wr.heap.size 2 _ _ _ gb
      have k5 : Since wr W5 := by rw [hW5]; exact ((since_alloc wr _).trans hx).set (Nat.le_refl _) _
      go_upto_region 17 with fail
      rw [← hW5]
      have hlt5 := g5b.lt
      obtain ⟨q0, q1, q2, q3⟩ := g5b.four
      clear hW5 gb g5b f0 f1 f2 f3 hx
      go_wp2_with (at_builtin; refine wpList_append_own _ rfl _ _ 27 rfl w.heap.size 34 i0 (.agg #[.int .i64 0, .string ⟨#[]⟩, .int .i64 0, .int .i64 0]) 4 40 Tryd.underlying27 hi hz0 hz1 hz2 rfl (by decide) _ _ _ rfl (owns_since HO.out (k5.trans (since_alloc _ _))) ⟨W5.heap.size, 0, none⟩ 1 1 [.int .i64 2, .string (s.extract k (k + n)), .int .i64 v, .int .i64 (k : Int)] rfl rfl ?c1 ?c2 ?c3 ?c4 ?c5 ?_)
      case c1 =>
        intro j u hj
        match j, hj with
        | 0, hj => simp at hj; subst hj; simp [Addr.add]
        | 1, hj => simp at hj; subst hj; simp [Addr.add]
        | 2, hj => simp at hj; subst hj; simp [Addr.add]
        | 3, hj => simp at hj; subst hj; simp [Addr.add]
      case c2 => intro u hu; simp at hu; rcases hu with rfl | rfl | rfl | rfl <;> rfl
      case c3 => unfold maxLen; omega
      case c4 => omega
      case c5 => have := (hw.trans k5).size; simp; omega
      intro v' w2 hown' hgrow _
      have hs1 : Since w w2 := Below.grown ((hw.trans k5).alloc _) hgrow (by have := (hw.trans k5).size; simp; omega) (fun g hg => (HO.out.lt g hg).1)
      have ho1 : w2.ownsRow w.heap.size 34 4 v' (m + 1) (tcells ((acc ++ [tokD ((L s).drop k) k]).map tv)) := by
        rw [List.map_append, tcells_append, List.map_cons, List.map_nil, tcells_one, HT.out]; exact hown'
      clear hown' hgrow
      obtain ⟨A', c', rfl⟩ := owns_slice ho1
      rw [HNX.out] at HST
      have HO1 := Lib.hid ho1
      clear ho1
      go_wp2_with (go_at_call 19; (with_reducible refine (BN.out _).mono ?_); rintro e w3 ⟨rfl, rfl⟩)
      go_roundw
      case rel => exact ⟨k + n + R, m + 1, A', c', _, hRs, by go_num, rfl, by show _ = _; rw [List.length_append, HM.out]; rfl, hmm, HO1.out, HST.out.symm, hs1⟩
      case measure => simp [intOf]; omega
    · obtain rfl : k = s.size := by omega
      have HF := Lib.hid (HL.out.symm.trans (lexA_end (by rw [L_len]; exact Nat.le_refl _)))
      have HQ := Lib.hid (Toks.own HO.out)
      clear HO
      go_wp2
      go_ret3
      exact RetT.yes HF.out HM.out HQ.out hw
end Go.Proofs.YtbkkalmdjcpgoaaDoor.Ref05
