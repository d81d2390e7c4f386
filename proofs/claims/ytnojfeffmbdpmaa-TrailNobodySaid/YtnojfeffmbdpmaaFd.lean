/- Layer 10 (trail): the document's own Right; law 8's comparison of domains, law 10's of numbers, Fits. -/
import Derived.Test.YtnojfeffmbdpmaaFc
import Derived.Test.YtnojfeffmbdpmaaEj
namespace Go.Proofs.Ytnojfeffmbdpmaa.Tr
open Go.RowKit
set_option linter.unusedVariables false
set_option linter.unusedSimpArgs false
open Go.Proofs.Ytnojfeffmbdpmaa.Dig Go.Proofs.Ytnojfeffmbdpmaa.Lx Go.Proofs.Ytnojfeffmbdpmaa.Tk Go.Proofs.Ytnojfeffmbdpmaa.Ti Go.Proofs.Ytnojfeffmbdpmaa.Zs

/-- domains of 64 bits, of no great length -/
def BdD (ds : Ds) : Prop := ∀ d ∈ ds, Bd d ∧ d.length ≤ 1100000
set_option maxRecDepth 20000 in
set_option maxHeartbeats 2000000 in
theorem rrightD_any (v : Value) (ds : Ds) (w : World) (h : Sl 1 QD w v ds) (hl : ds.length ≤ 100000) (hb : BdD ds) :
    Calls Try.prog 10 #[v] w (RetT (rightD ds) w) := by
  obtain ⟨A, c, rfl⟩ := h.form
  obtain ⟨n, hn⟩ : ∃ n, n = ds.length := ⟨_, rfl⟩
  rw [← hn] at h hl ⊢
  obtain ⟨R, hR⟩ : ∃ R, R = rightD ds := ⟨_, rfl⟩
  rw [← hR]
  have H := Lib.hid h
  have HN := Lib.hid hn
  have HB := Lib.hid hb
  have HR := Lib.hid (show R = (ds.all (fun d => right d && !d.isEmpty) && decide (n ≤ 64)) by rw [hR, hn]; rfl)
  clear h hn hb hR
  go_enter Try.func10, Try.ntmps10
  go_wp2
  go_loopw [3] (fun i wr => ∃ k : Nat, i = .int .i64 (k : Int) ∧ k ≤ n ∧ Hid ((ds.take k).all (fun d => right d && !d.isEmpty) = true) ∧ Hid (Since w wr)) (fun i _ => n - (intOf i).toNat)
  case atStart => exact ⟨0, rfl, Nat.zero_le _, rfl, Since.refl _⟩
  case round =>
    obtain ⟨k, rfl, hk, HE, HW⟩ := hrel
    by_cases hkn : k < n
    · have hkl : k < ds.length := by have := HN.out; omega
      obtain ⟨g, o, B, d, rfl, hS, e0⟩ := elD (H.out.since stD HW.out) hkl
      have hmem := List.getElem_mem hkl
      have hbz := HB.out ds[k] hmem
      have hst := List.take_succ_eq_append_getElem hkl
      generalize ds[k] = y at *
      obtain ⟨rb, hrb⟩ : ∃ rb, right y = rb := ⟨_, rfl⟩
      have RA := Lib.hid (rright_at hS hbz.2 hbz.1 hrb)
      have ST := Lib.hid hst
      have HM := Lib.hid hmem
      obtain ⟨p, hp⟩ : ∃ p, y.length = p := ⟨_, rfl⟩
      rw [hp] at e0 RA
      have HNO := Lib.hid (fun (hh : (right y && !y.isEmpty) = false) => show false = R by
        rw [HR.out, show ds.all (fun d => right d && !d.isEmpty) = false from List.all_eq_false.2 ⟨y, HM.out, by simp [hh]⟩]; rfl)
      have HYES := Lib.hid (fun (hh : (right y && !y.isEmpty) = true) => show (ds.take (k + 1)).all (fun d => right d && !d.isEmpty) = true by
        rw [ST.out, List.all_append, HE.out]; simp [hh])
      rw [hrb] at HNO HYES
      clear hst hmem hbz hrb hS hkl
      cases rb with
      | false =>
        have HE2 := Lib.hid (HNO.out rfl)
        clear HNO HYES
        go_wp2_with (go_at_call 32; (with_reducible refine (RA.out _ (Since.refl _)).mono ?_); rintro e w1 ⟨rfl, k1⟩)
        go_ret
        exact .of HE2.out (HW.out.trans k1)
      | true =>
        by_cases hp0 : p = 0
        · have HE2 := Lib.hid (HNO.out (by rw [List.eq_nil_of_length_eq_zero (hp.trans hp0)]; rfl))
          subst hp0
          have hcell := Lib.hid (fun W (kk : Since wr W) => (kk.cell _ (World.block_lt_of_cell? _ _ e0)).trans e0)
          clear HNO HYES hp
          go_wp2_with (go_at_call 32; (with_reducible refine (RA.out _ (Since.refl _)).mono ?_); rintro e w1 ⟨rfl, k1⟩; have e1 := hcell.out _ k1)
          go_ret
          exact .of HE2.out (HW.out.trans k1)
        · have HE2 := Lib.hid (HYES.out (by cases y with | nil => exact absurd hp.symm hp0 | cons a l => rfl))
          have hz : ((p : Int) == 0) = false := by rw [beq_eq_false_iff_ne]; omega
          have hcell := Lib.hid (fun W (kk : Since wr W) => (kk.cell _ (World.block_lt_of_cell? _ _ e0)).trans e0)
          clear HNO HYES hp
          go_wp2_with (go_at_call 32; (with_reducible refine (RA.out _ (Since.refl _)).mono ?_); rintro e w1 ⟨rfl, k1⟩; have e1 := hcell.out _ k1)
          go_roundw
          case rel => exact ⟨k + 1, by go_num, by omega, HE2.out, HW.out.trans k1⟩
          case measure => simp [intOf]; omega
    · obtain rfl : k = n := by omega
      have hall : ds.take k = ds := List.take_of_length_le (by have := HN.out; omega)
      have HE2 := HE.out
      rw [hall] at HE2
      have HX := Lib.hid (show decide ((k : Int) ≤ 64) = R by
        rw [HR.out, HE2]
        by_cases h64 : k ≤ 64
        · rw [decide_eq_true h64, decide_eq_true (by omega)]; rfl
        · rw [decide_eq_false h64, decide_eq_false (by omega)]; rfl)
      clear HE2 hall
      go_wp2
      go_ret
      exact .of HX.out HW.out
end Go.Proofs.Ytnojfeffmbdpmaa.Tr
