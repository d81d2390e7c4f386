/- What Text of package nat gives back. -/
import Derived.Test.YtkceldnljppflaaDoorN2p
import Derived.Test.YtkceldnljppflaaDoorN2l
import Derived.Test.YtkceldnljppflaaDoorRef02o
import Derived.Laws.BytesArg
namespace Go.Proofs.YtkceldnljppflaaDoor.Nat02
open Go.RowKit
set_option linter.unusedVariables false
open Go.Proofs.YtkceldnljppflaaDoor.Dig
open Go.Proofs.YtkceldnljppflaaDoor.Ref02 (textD)

theorem info_u8 : (Tryd.prog.info? 5).map (fun i => (i.zero, i.size, i.bytes)) = some (some (.int .u8 0), 1, 1) := by kernel_rfl
theorem make_bytes (n : Nat) (hn : n ≤ 1000000) (W : World) : (Instr.makeSlice 70 (.int .i64 (n : Int)) (.int .i64 (n : Int))).run Tryd.prog W = .ok (.slice (some ⟨W.heap.size, 0, none⟩) n n) (W.alloc (.cells (madeCells #[.int .u8 0] n) 5)) := by
  obtain ⟨i0, hi, hz0, hz1, hz2⟩ := info_parts info_u8
  have h := run_make (P := Tryd.prog) W 70 5 i0 (.int .u8 0) Tryd.underlying70 hi hz0 .i64 .i64 n n (by omega) (by omega) (by rw [hz2]; omega) (by omega)
  rw [hz1] at h
  simpa [Value.cells] using h
theorem bytes_back {w : World} {h F L T : Nat} {ds outs : List Nat} (hb : BB w h (splice ds F outs)) (hF : F + outs.length = ds.length) (ho : outs.length = T) :
    (convert 70 9 (.slice (some ⟨h, F, none⟩) T L)).run Tryd.prog w = .ok (.string (strOfNums (outs.map fun (n : Nat) => (n : Int)))) w := by
  refine run_convert_bytes_arg w 70 5 Tryd.underlying70 Tryd.underlying5 h F T L _ (by simp [ho]) (fun i hi => ?_) _ Tryd.underlying9
  have := hb.cell (i := F + i) (by rw [splice_len (by omega)]; omega)
  rw [splice_getD_mid (by omega) (by omega)] at this
  rw [this]
  simp [List.getD, show i < outs.length by omega]
theorem strOf_bytes (ds : List Nat) : (strOfNums (ds.map fun (n : Nat) => (n : Int))).data.toList = bytesOf ds := by
  rw [strOfNums_data, bytesOf, List.map_map]
  rfl

theorem splice_join {ds a b : List Nat} {F F2 : Nat} (h : F2 + a.length = F) (hl : F + b.length ≤ ds.length) : splice (splice ds F b) F2 a = splice ds F2 (a ++ b) := by
  subst h
  unfold splice
  have e1 : (ds.take (F2 + a.length) ++ b ++ ds.drop (F2 + a.length + b.length)).take F2 = ds.take F2 := by
    rw [List.append_assoc, List.take_append_of_le_length (by simp; omega), List.take_take, Nat.min_eq_left (by omega)]
  have e2 : (ds.take (F2 + a.length) ++ b ++ ds.drop (F2 + a.length + b.length)).drop (F2 + a.length) = b ++ ds.drop (F2 + a.length + b.length) := by
    rw [List.append_assoc, List.drop_append_of_le_length (by simp; omega), List.drop_of_length_le (by simp; omega), List.nil_append]
  rw [e1, e2]
  simp [Nat.add_assoc]
set_option maxRecDepth 100000 in
set_option maxHeartbeats 4000000 in
theorem text_good (va : Value) (xs : List Nat) (w : World) (hx : Row w va xs) (r1 : rightB xs = true) (h0 : xs.length ≠ 0) :
    Calls Tryd.prog 30 #[va] w fun e w' => e = .returned (.tuple #[.string ⟨(text (num xs)).toArray⟩, .int .i64 0]) ∧ Since w w' := by
  have HX := Lib.hid hx
  have nx := right_norm r1
  have hp := num_pos nx.2 h0
  have dx := hx.dig
  obtain ⟨_, A, cA, rfl, -, -⟩ := hx
  obtain ⟨n, hn⟩ : ∃ n, n = xs.length := ⟨_, rfl⟩
  have hn1 : n ≤ 256 := by omega
  have hcl := fun (W : World) (h1 : Row W (.slice A n cA) xs) => clone_any (.slice A n cA) xs n W h1 (by omega) (by omega)
  rw [show xs.take n = xs by rw [List.take_of_length_le (by omega)]] at hcl
  have hcl2 : ∀ (W : World), Row W (.slice A n cA) xs → Calls Tryd.prog 49 #[.slice A n cA, .int .i64 (n : Int)] W fun e w' => ∃ g, e = .returned (.slice (some ⟨g, 0, none⟩) n n) ∧ W.heap.size ≤ g ∧ Blk w' g xs ∧ Since W w' := fun W h1 => (hcl W h1).mono fun e w' ⟨g, he, hg, hb, hs⟩ => ⟨g, by rw [he, hn], hg, hb, hs⟩
  have HCL := Lib.hid hcl2
  rw [← hn] at HX ⊢
  have hz : ((n : Int) == 0) = false := by rw [beq_eq_false_iff_ne]; omega
  obtain ⟨DL, hDL⟩ : ∃ l : Nat, l = 10 * n + 9 := ⟨_, rfl⟩
  have hDi : 10 * (n : Int) + 9 = (DL : Int) := by omega
  have hDL1 : DL ≤ 2569 := by omega
  have hmk := make_bytes DL (by omega)
  have hlt : num xs < 10 ^ (10 * n) := by rw [hn]; exact Nat.lt_of_lt_of_le (num_lt dx) (ten_pow _)
  obtain ⟨M, hM⟩ : ∃ m, m = num xs := ⟨_, rfl⟩
  have hdg : digs (num xs) = xs := digs_num dx nx.2
  rw [← hM] at hp hlt hdg ⊢
  have HN := Lib.hid (And.intro hn (And.intro hDL (And.intro hlt (And.intro hp (And.intro hdg r1)))))
  clear nx hp dx hn hcl hcl2 hDL hlt hdg hM r1 h0
  go_enter Tryd.func30, Tryd.ntmps30
  go_wp2_with (first
    | (go_at_call 17; (with_reducible refine (right_yes (.slice A n cA) xs _ HX.out (by have := HN.out; omega)).mono ?_); rw [HN.out.2.2.2.2.2]; rintro e w1 ⟨rfl, rfl⟩)
    | (go_at_call 49; (with_reducible refine (HCL.out _ HX.out).mono ?_); rintro e w1 ⟨g, rfl, hg1, hb1, hs1⟩; have H1 := Lib.hid (And.intro hg1 (And.intro hb1 hs1)); clear hg1 hb1 hs1))
  have hgh := H1.out.2.1.lt
  obtain ⟨hh, hhh⟩ : ∃ h, h = w1.heap.size := ⟨_, rfl⟩
  have H0 := Lib.hid (And.intro (show g ≠ hh by omega) (show w.heap.size ≤ hh by have := H1.out.2.2.size; omega))
  have HHH := Lib.hid hhh
  rw [← hhh]
  clear hgh hhh
  go_loopw [4, 6] (fun r f wr => ∃ (T N k F : Nat) (ds : List Nat), r = .slice (some ⟨g, 0, none⟩) k n ∧ f = .int .i64 (F : Int) ∧ F ≤ DL ∧ k ≤ n ∧ Hid (F + 9 * T = DL ∧ N = M / 10 ^ (9 * T)) ∧ Hid (k = (digs N).length ∧ ds.length = n ∧ ds.take k = digs N) ∧ Hid (Blk wr g ds ∧ BB wr hh (splice (List.replicate DL 0) F (decsN (9 * T) M)) ∧ Since w wr)) (fun _ f _ => (intOf f).toNat)
  case atStart =>
    have hNN := HN.out
    refine ⟨0, M, n, DL, xs, rfl, rfl, Nat.le_refl _, Nat.le_refl _, ⟨by omega, by simp⟩, ⟨by rw [hNN.2.2.2.2.1]; exact hNN.1, hNN.1.symm, by rw [hNN.2.2.2.2.1, List.take_of_length_le (by omega)]⟩, H1.out.2.1.alloc _, ?_, H1.out.2.2.alloc _⟩
    rw [decsN, splice_nil, HHH.out]
    exact BB.made w1 DL
  case round =>
    obtain ⟨T, N, k, F, ds, rfl, rfl, hF, hkn, hv, hd, hb⟩ := hrel
    have hNN := HN.out
    by_cases hk : k = 0
    · have hN0 : N = 0 := by
        rcases Nat.eq_zero_or_pos N with h | h
        · exact h
        · have := hd.out.1
          rw [digs_pos (by omega)] at this
          simp at this; omega
      have hlt : M < 10 ^ (9 * T) := by
        have h1 := hv.out.2
        rw [hN0] at h1
        have hp := Nat.pow_pos (n := 9 * T) (show 0 < 10 by omega)
        have h2 := Nat.div_add_mod M (10 ^ (9 * T))
        rw [← h1, Nat.mul_zero, Nat.zero_add] at h2
        rw [← h2]
        exact Nat.mod_lt _ hp
      have hT : 0 < T := by
        rcases Nat.eq_zero_or_pos T with h | h
        · subst h; simp at hlt; omega
        · exact h
      have hFL : F < DL := by have := hv.out.1; omega
      have hcv := bytes_back (w := wr) (L := DL - F) hb.out.2.1 (by rw [decsN_len, List.length_replicate]; exact hv.out.1) (decsN_len _ _)
      have h9 : DL - F = 9 * T := by have := hv.out.1; omega
      obtain ⟨bs, hbs⟩ : ∃ b, b = strOfNums ((decsN (9 * T) M).map fun (n : Nat) => (n : Int)) := ⟨_, rfl⟩
      have hbz : bs.size = 9 * T := by rw [hbs, strOfNums_size]; simp [decsN_len]
      have hbl : bs.data.toList = bytesOf (decsN (9 * T) M) := by rw [hbs]; exact strOf_bytes _
      have htx : bs.data.toList.dropWhile (· == 48) = text M := by
        rw [hbl, dropw_decs _ _ hlt, text, if_neg (by omega)]
      rw [← hbs, ← h9] at hcv
      have i1 : (0 : Int) ≤ (F : Int) := by omega
      have i2 : (F : Int) ≤ (DL : Int) := by omega
      have i3 : DL ≠ F := by omega
      have HTX := Lib.hid (And.intro htx (show bs.size ≤ 1000000 by have := hv.out.1; omega))
      have hk2 : ((k : Int) > 0) = False := by simp; omega
      clear hN0 hlt hT hbs hbz hbl htx hNN h9
      subst hk
      go_wp2_with fail
      refine (trimLeft_any bs wr HTX.out.2).mono ?_
      rintro e w4 ⟨b, rfl, hbb, rfl⟩
      have hbe : b = ⟨(text M).toArray⟩ := by
        apply ByteArray.ext
        rw [← HTX.out.1, ← hbb]
      subst hbe
      clear hbb
      go_wp2_with fail
      go_ret2
      exact ⟨rfl, hb.out.2.2⟩
    · have hN1 : 0 < N := by
        rcases Nat.eq_zero_or_pos N with h | h
        · rw [h, digs_zero] at hd
          have := hd.out.1
          simp at this; omega
        · exact h
      have hF9 : 9 ≤ F := by
        have h1 := hv.out.2
        have hp := Nat.pow_pos (n := 9 * T) (show 0 < 10 by omega)
        have h2 := Nat.div_add_mod M (10 ^ (9 * T))
        rw [← h1] at h2
        have h3 : 10 ^ (9 * T) * 1 ≤ 10 ^ (9 * T) * N := Nat.mul_le_mul_left _ hN1
        have h4 := pow_lt_of (a := 9 * T) (b := 10 * n) (by have := hNN.2.2.1; omega)
        have := hv.out.1
        omega
      have hgl : ∀ i, i < k → ds.getD i 0 = (digs N).getD i 0 := fun i hi => by
        rw [← hd.out.2.2]
        simp only [List.getD]
        rw [List.getElem?_take, if_pos hi]
      have hrow : Row wr (.slice (some ⟨g, 0, none⟩) k n) (digs N) := by
        have := hb.out.1.row (o := 0) (n := k) (c := n) (by have := hd.out; omega) hkn
        rw [List.drop_zero, hd.out.2.2] at this
        exact this
      have hBY := byDigit_any g 0 k n (some ⟨g, 0, none⟩) n ds (digs N) 1000000000 wr hb.out.1 (by have := hd.out; omega) (by have := hd.out; omega) (by have := hd.out.1; omega) (by rw [← hd.out.1]; exact hrow) (.inl hd.out.1) (by omega) (by omega) (fun wr' k' outs e1 e2 e3 i hi => ⟨g, 0, rfl, by
        have hc := e2.cell (i := 0 + i) (by rw [splice_len (by have := hd.out; omega)]; have := hd.out; omega)
        rw [splice_getD_lt (by omega) (by have := hd.out; omega)] at hc
        rw [hc, Nat.zero_add, hgl i (by omega)]⟩)
      rw [← hd.out.1] at hBY
      have HBY := Lib.hid hBY
      obtain ⟨F2, hF2⟩ : ∃ f, f = F - 9 := ⟨_, rfl⟩
      have hFi : (F : Int) - 9 = (F2 : Int) := by omega
      have i1 : (0 : Int) ≤ (F2 : Int) := by omega
      have i2 : (F2 : Int) + 9 ≤ (DL : Int) := by omega
      have i3 : DL ≠ F2 := by omega
      have i4 : F2 + 9 - F2 = 9 := by omega
      have i5 : ((F2 : Int) + 9).toNat = F2 + 9 := by omega
      have i6 : (F2 : Int) ≤ (F2 : Int) + 9 := by omega
      have i7 : ¬ n = 0 := by omega
      have HF2 := Lib.hid (And.intro hF2 hF9)
      have hk0 : 0 < k := by omega
      clear hF2 hF9 hgl hrow hBY hNN hN1 hk
      go_wp2_with fail
      refine HBY.out.mono ?_
      rintro e w4 ⟨outs, rfl, ho1, ho2, ho3, ho4, ho5⟩
      rw [num_digs] at ho3 ⊢
      obtain ⟨G, hG⟩ : ∃ g, g = N % 1000000000 := ⟨_, rfl⟩
      rw [← hG]
      have hG1 : G < 4294967296 := by omega
      have hds := hd.out
      have hrow2 : Row w4 (.slice (some ⟨g, 0, none⟩) k n) outs := by
        have := ho4.row (o := 0) (n := k) (c := n) (by rw [splice_len (by omega)]; omega) hkn
        rw [window_splice (by omega) ho1] at this
        exact this
      have hsig := sig_le ho2
      have htk := take_sig ho2
      have hse : sig outs = (digs (N / 1000000000)).length := by unfold sig; rw [ho3]
      obtain ⟨k2, hk2⟩ : ∃ k2, k2 = sig outs := ⟨_, rfl⟩
      rw [← hk2] at hsig htk hse
      rw [ho3] at htk
      have hk2n : k2 ≤ n := by omega
      have hk2i : (k2 : Int) ≤ (n : Int) := by omega
      have hbb4 := hb.out.2.1.grown ho5 (by intro h; injection h with h; exact H0.out.1 h.symm)
      have htk2 : (splice ds 0 outs).take k2 = digs (N / 1000000000) := by
        rw [htk]
        unfold splice
        rw [List.take_zero, List.nil_append, List.take_append_of_le_length (by omega)]
      have hs4 := only_since hb.out.2.2 ho5 (by have := H1.out.1; exact this)
      have hspl : (splice ds 0 outs).length = n := by rw [splice_len (by omega)]; omega
      have H4 := Lib.hid (And.intro hrow2 (And.intro hse (And.intro htk2 (And.intro hbb4 (And.intro ho4 (And.intro hs4 (And.intro hspl (And.intro hk2 hG))))))))
      clear ho1 ho2 ho3 ho4 ho5 hds hrow2 hsig htk hse htk2 hbb4 hs4 hspl hk2 hG
      go_wp2_with fail
      refine (significant_any (.slice (some ⟨g, 0, none⟩) k n) outs w4 H4.out.1 (by have := H4.out.1.2; obtain ⟨A', c', e, -⟩ := this; injection e with e1 e2 e3; omega)).mono ?_
      rw [← H4.out.2.2.2.2.2.2.2.1]
      rintro e w5 ⟨rfl, rfl⟩
      go_wp2_with fail
      refine (writeGroup_any hh F2 (DL - F2) G (splice (List.replicate DL 0) F (decsN (9 * T) M)) _ H4.out.2.2.2.1 (by rw [splice_len (by rw [decsN_len, List.length_replicate]; have := hv.out.1; omega)]; simp; omega) hG1 (by rw [splice_len (by rw [decsN_len, List.length_replicate]; have := hv.out.1; omega)]; simp; omega)).mono ?_
      rintro e w6 ⟨rfl, hbb6, hon6⟩
      have hspl6 : splice (splice (List.replicate DL 0) F (decsN (9 * T) M)) F2 (decsN 9 G) = splice (List.replicate DL 0) F2 (decsN (9 * (T + 1)) M) := by
        rw [group_text, ← hv.out.2, ← H4.out.2.2.2.2.2.2.2.2]
        exact splice_join (by rw [decsN_len]; have := HF2.out; omega) (by rw [decsN_len, List.length_replicate]; have := hv.out.1; omega)
      rw [hspl6] at hbb6
      have H6 := Lib.hid (And.intro hbb6 (And.intro (H4.out.2.2.2.2.1.grown hon6 (by intro h; injection h with h; exact H0.out.1 h)) (only_since H4.out.2.2.2.2.2.1 hon6 H0.out.2)))
      clear hbb6 hon6 hspl6
      go_wp2_with fail
      go_roundw
      case rel => exact ⟨T + 1, N / 1000000000, k2, F2, splice ds 0 outs, rfl, rfl, by omega, hk2n, ⟨by have := hv.out.1; have := HF2.out; omega, by rw [hv.out.2]; exact group_next M T⟩, ⟨H4.out.2.1, H4.out.2.2.2.2.2.2.1, H4.out.2.2.1⟩, H6.out.2.1, H6.out.1, H6.out.2.2⟩
      case measure => simp [intOf]; have := HF2.out; omega
theorem text_any (va : Value) (xs : List Nat) (w : World) (hx : Row w va xs) (lx : xs.length ≤ 10000) :
    Calls Tryd.prog 30 #[va] w fun e w' => e = .returned (.tuple #[.string ⟨(textD xs).1.toArray⟩, .int .i64 (textD xs).2]) ∧ Since w w' := by
  by_cases r1 : rightB xs = true
  · by_cases h0 : xs.length = 0
    · have e : textD xs = ([48], 0) := by
        have : xs = [] := List.eq_nil_of_length_eq_zero h0
        rw [textD, if_pos r1, this]; rfl
      rw [e]
      have H := Lib.hid hx
      obtain ⟨_, A, c, rfl, -, -⟩ := hx
      have hz : ((xs.length : Int) == 0) = true := by rw [beq_iff_eq]; omega
      clear e h0
      go_enter Tryd.func30, Tryd.ntmps30
      go_wp2_with (go_at_call 17; (with_reducible refine (right_yes (.slice A xs.length c) xs _ H.out lx).mono ?_); rintro e w1 ⟨rfl, rfl⟩)
      go_ret2
      exact ⟨rfl, Since.refl _⟩
    · have e : textD xs = (text (num xs), 0) := by rw [textD, if_pos r1]
      rw [e]
      exact text_good va xs w hx r1 h0
  · have e : textD xs = ([], 2) := by rw [textD, if_neg r1]
    rw [e]
    have r1' : rightB xs = false := by simpa using r1
    have H := Lib.hid hx
    clear r1 e hx
    go_enter Tryd.func30, Tryd.ntmps30
    go_wp2_with (go_at_call 17; (with_reducible refine (right_yes va xs _ H.out lx).mono ?_); rintro e w1 ⟨rfl, rfl⟩)
    go_ret2
    exact ⟨rfl, Since.refl _⟩
end Go.Proofs.YtkceldnljppflaaDoor.Nat02
