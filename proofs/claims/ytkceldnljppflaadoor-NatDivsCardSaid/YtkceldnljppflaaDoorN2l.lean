/- What divideStep and divideLong of package nat give back. -/
import Derived.Test.YtkceldnljppflaaDoorN2k
import Derived.Test.YtkceldnljppflaaDoorN2i
namespace Go.Proofs.YtkceldnljppflaaDoor.Nat02
open Go.RowKit
set_option linter.unusedVariables false
open Go.Proofs.YtkceldnljppflaaDoor.Dig

theorem window_splice {ds outs : List Nat} {o n : Nat} (h : o + outs.length ≤ ds.length) (hn : outs.length = n) : ((splice ds o outs).drop o).take n = outs := by
  rw [drop_splice h, List.take_append_of_le_length (by omega), List.take_of_length_le (by omega)]
theorem splice_splice {ds a b : List Nat} {o : Nat} (h : o + a.length ≤ ds.length) (hn : a.length = b.length) : splice (splice ds o a) o b = splice ds o b := by
  unfold splice
  have e1 : (ds.take o ++ a ++ ds.drop (o + a.length)).take o = ds.take o := by
    rw [List.append_assoc, List.take_append_of_le_length (by simp; omega), List.take_take, Nat.min_self]
  have e2 : (ds.take o ++ a ++ ds.drop (o + a.length)).drop (o + b.length) = ds.drop (o + b.length) := by
    rw [List.drop_append_of_le_length (by simp; omega), ← hn, List.drop_of_length_le (by simp; omega), List.nil_append]
  rw [e1, e2]

/-- a digit of the quotient, and what is left, in its place -/
def RetStep (g o n : Nat) (ds W D : List Nat) (w : World) (e : Ending) (w' : World) : Prop :=
  ∃ outs : List Nat, e = .returned (.int .u32 ((num W / num D : Nat) : Int)) ∧ outs.length = n ∧ IsDig outs ∧ num outs = num W % num D ∧ Blk w' g (splice ds o outs) ∧ w.grownBy w' (some g)

set_option maxRecDepth 100000 in
set_option maxHeartbeats 4000000 in
theorem divideStep_any (g o m c : Nat) (vb : Value) (ds D : List Nat) (w : World) (hg : Blk w g ds) (ho : o + (m + 3) ≤ ds.length) (hy : Row w vb D) (hf : Far g vb) (lD : D.length = m + 2) (hl : ds.length ≤ 10000) (hc : m + 3 ≤ c)
    (ht : 2147483648 ≤ D.getD (m + 1) 0) (hlt : num ((ds.drop o).take (m + 3)) < num D * 4294967296) :
    Calls Tryd.prog 66 #[.slice (some ⟨g, o, none⟩) (m + 3) c, vb] w (RetStep g o (m + 3) ds ((ds.drop o).take (m + 3)) D w) := by
  have hWrow := hg.row (o := o) (n := m + 3) (c := c) ho hc
  obtain ⟨WW, hWW⟩ : ∃ l, l = (ds.drop o).take (m + 3) := ⟨_, rfl⟩
  have lW : WW.length = m + 3 := by rw [hWW]; simp; omega
  have dW : IsDig WW := by rw [hWW]; exact isDig_take (isDig_drop hg.dig o) _
  have hsub := fun (W : World) (h1 : Blk W g ds) (h2 : Row W vb D) => subTimes_any g o (m + 2) c vb ds D (estD WW D) W h1 ho h2 hf lD hl (estD_lt dW (by omega) (by rw [lD]; exact ht))
  rw [← hWW] at hWrow hlt hsub ⊢
  have hok := estD_ok dW hy.dig lD lW (by rw [lD]; exact ht) hlt
  have hp : 0 < num D := by
    rcases Nat.eq_zero_or_pos (num D) with h | h
    · rw [h] at hlt; simp at hlt
    · exact h
  have hDlt : num D < 4294967296 ^ (m + 2) := by have := num_lt hy.dig; rwa [lD] at this
  have hDlt2 : num D < 4294967296 ^ (m + 2 + 1) := Nat.lt_of_lt_of_le hDlt (Nat.pow_le_pow_right (by omega) (by omega))
  have hq1 : num WW / num D < 4294967296 := by rw [Nat.div_lt_iff_lt_mul hp, Nat.mul_comm]; exact hlt
  have hEst := Lib.hid fun (W : World) (h1 : Row W (.slice (some ⟨g, o, none⟩) (m + 3) c) WW) (h2 : Row W vb D) => estimate_any (.slice (some ⟨g, o, none⟩) (m + 3) c) vb WW D m W h1 h2 lW lD (by omega) ht
  have HS := Lib.hid hsub
  have HR := Lib.hid (And.intro hg (And.intro hy (And.intro hf hWrow)))
  have HP := Lib.hid (And.intro hp (And.intro hDlt2 (And.intro lD ho)))
  have HL := Lib.hid hl
  have hE3 := estD_lt (W := WW) (D := D) dW (by omega) (by rw [lD]; exact ht)
  obtain ⟨E, hE⟩ : ∃ e, e = estD WW D := ⟨_, rfl⟩
  rw [← hE] at hEst HS hok hE3
  obtain ⟨Q, hQ⟩ : ∃ e, e = num WW / num D := ⟨_, rfl⟩
  rw [← hQ] at hok hq1
  obtain ⟨ok1, ok2⟩ := hok
  have HQ := Lib.hid hQ
  have hkeep := Lib.hid fun (W : World) (n : Nat) (h : Blk W g ds) => And.intro (h.drewN n) (only_drewN (only_refl W g) n)
  have hfin : Hid (∀ (v : Value) (w' : World) (outs : List Nat), v = .int .u32 (Q : Int) → outs.length = m + 3 → IsDig outs → num outs = num WW % num D → Blk w' g (splice ds o outs) → w.grownBy w' (some g) → RetStep g o (m + 3) ds WW D w (.returned v) w') :=
    fun v w' outs h1 h2 h3 h4 h5 h6 => ⟨outs, by rw [h1, HQ.out], h2, h3, h4, h5, h6⟩
  clear hWrow hWW lW dW hsub hlt hg hy hf hp hDlt hDlt2 hE hQ lD ho hl ht
  by_cases hcase : E = Q
  · subst hcase
    clear ok1 ok2
    go_enter Tryd.func66, Tryd.ntmps66
    go_wp2_with (first
      | (go_at_call 74; (with_reducible refine (hEst.out _ HR.out.2.2.2 HR.out.2.1).mono ?_); rintro e w1 ⟨rfl, nn, rfl⟩)
      | (go_at_call 75; (with_reducible refine (HS.out _ (HR.out.1.drewN nn) (HR.out.2.1.since ((Since.refl w).drewN nn))).mono ?_); rintro e w2 ⟨b, outs, rfl, hb1, hlo, hdo, hvo, hbo, hgo⟩; obtain ⟨rfl, hnum⟩ := step_fine hlo hdo HQ.out hvo hb1; have HO := Lib.hid (And.intro hlo (And.intro hdo (And.intro hnum (And.intro hbo hgo)))); clear hlo hdo hvo hbo hgo hnum hb1))
    go_ret
    exact hfin.out _ _ outs rfl HO.out.1 HO.out.2.1 HO.out.2.2.1 HO.out.2.2.2.1 (only_trans (only_drewN (only_refl w g) nn) HO.out.2.2.2.2)
  · have HE := Lib.hid (show E = Q + 1 by omega)
    have hE1 : 1 ≤ E := by omega
    clear ok1 ok2 hcase
    go_enter Tryd.func66, Tryd.ntmps66
    go_wp2_with (first
      | (go_at_call 74; (with_reducible refine (hEst.out _ HR.out.2.2.2 HR.out.2.1).mono ?_); rintro e w1 ⟨rfl, nn, rfl⟩)
      | (go_at_call 75; (with_reducible refine (HS.out _ (HR.out.1.drewN nn) (HR.out.2.1.since ((Since.refl w).drewN nn))).mono ?_); rintro e w2 ⟨b, outs, rfl, hb1, hlo, hdo, hvo, hbo, hgo⟩; obtain ⟨rfl, hnum⟩ := step_back HP.out.1 HP.out.2.1 (by rw [HE.out, HQ.out]) hvo hb1; have HO := Lib.hid (And.intro hlo (And.intro hdo (And.intro hnum (And.intro hbo hgo)))); clear hlo hdo hvo hbo hgo hnum hb1)
      | (go_at_call 76; (with_reducible refine (addBack_any g o (m + 2) c vb (splice ds o outs) D _ HO.out.2.2.2.1 (by rw [splice_len (by rw [HO.out.1]; exact HP.out.2.2.2)]; exact HP.out.2.2.2) ((HR.out.2.1.since ((Since.refl w).drewN nn)).grown HR.out.2.2.1 HO.out.2.2.2.2) HR.out.2.2.1 HP.out.2.2.1 (by rw [splice_len (by rw [HO.out.1]; exact HP.out.2.2.2)]; exact HL.out)).mono ?_); rintro e w3 ⟨rfl, c2, outs2, hc2, hlo2, hdo2, hvo2, hbo2, hgo2⟩; have HO2 := Lib.hid (And.intro hc2 (And.intro hlo2 (And.intro hdo2 (And.intro hvo2 (And.intro hbo2 hgo2))))); clear hc2 hlo2 hdo2 hvo2 hbo2 hgo2))
    go_ret
    have hw := window_splice (ds := ds) (o := o) (outs := outs) (n := m + 2 + 1) (by rw [HO.out.1]; exact HP.out.2.2.2) HO.out.1
    have h4 := HO2.out.2.2.2.1
    rw [hw] at h4
    have hb2 := HO2.out.2.2.2.2.1
    rw [splice_splice (by rw [HO.out.1]; exact HP.out.2.2.2) (by rw [HO.out.1, HO2.out.2.1])] at hb2
    refine hfin.out _ _ outs2 (by have := HE.out; show Value.int _ _ = Value.int _ _; congr 1; omega) HO2.out.2.1 HO2.out.2.2.1 ?_ hb2 (only_trans (only_drewN (only_refl w g) nn) (only_trans HO.out.2.2.2.2 HO2.out.2.2.2.2.2))
    exact back_num (V := num D) HO2.out.2.1 HO2.out.2.2.1 (Nat.lt_trans (Nat.mod_lt _ HP.out.1) HP.out.2.1) HO.out.2.2.1 h4 HO2.out.1
end Go.Proofs.YtkceldnljppflaaDoor.Nat02
