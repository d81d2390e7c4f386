/- Layer 10 (trail): law 10's own small functions: Fits, ints, get. -/
import Derived.Test.YtnojfeffmbdpmaaFf
namespace Go.Proofs.Ytnojfeffmbdpmaa.Tr
open Go.RowKit
set_option linter.unusedVariables false
set_option linter.unusedSimpArgs false
open Go.Proofs.Ytnojfeffmbdpmaa.Dig Go.Proofs.Ytnojfeffmbdpmaa.Lx Go.Proofs.Ytnojfeffmbdpmaa.Tk Go.Proofs.Ytnojfeffmbdpmaa.Ti Go.Proofs.Ytnojfeffmbdpmaa.Zs

/-- the domain at a place, none where there is none -/
def getD' (s : Sto) (x : Int) : List Rn := if x < 0 ∨ (s.D.length : Int) ≤ x then [] else s.D.getD x.toNat []
set_option maxRecDepth 20000 in
set_option maxHeartbeats 2000000 in
theorem get_any (v : Value) (s : Sto) (x : Int) (w : World) (h : StoreAt w v s) (hx : -9223372036854775808 ≤ x ∧ x ≤ 9223372036854775807) :
    Calls Try.prog 27 #[v, .int .i64 x] w fun e w' => ∃ v2, e = .returned v2 ∧ Sl 2 QR w' v2 (getD' s x) ∧ Since w w' := by
  obtain ⟨vD, vW, vF, rfl, h1, h2, h3⟩ := h
  obtain ⟨ds, ws, fs⟩ := s
  simp only at h1 h2 h3
  obtain ⟨AD, cD, rfl⟩ := h1.form
  obtain ⟨AW, cW, rfl⟩ := h2.form
  obtain ⟨AF, cF, rfl⟩ := h3.form
  obtain ⟨nD, hnD⟩ : ∃ n, n = ds.length := ⟨_, rfl⟩
  obtain ⟨nW, hnW⟩ : ∃ n, n = ws.length := ⟨_, rfl⟩
  obtain ⟨nF, hnF⟩ : ∃ n, n = fs.length := ⟨_, rfl⟩
  obtain ⟨R, hR⟩ : ∃ R, R = getD' ⟨ds, ws, fs⟩ x := ⟨_, rfl⟩
  rw [← hR]
  rw [getD', show (Sto.mk ds ws fs).D.length = nD from hnD.symm] at hR
  rw [← hnD] at h1 ⊢
  rw [← hnW] at h2 ⊢
  rw [← hnF] at h3 ⊢
  have H1 := Lib.hid h1
  have HD := Lib.hid hnD
  have HR := Lib.hid hR
  obtain ⟨hxa, hxb⟩ := hx
  clear h1 h2 h3 hnD hnW hnF hR
  by_cases c0 : x < 0
  · have E := Lib.hid (show R = [] by rw [HR.out, if_pos (.inl c0)])
    go_enter Try.func27, Try.ntmps27
    go_wp2
    go_ret
    exact ⟨_, rfl, by rw [E.out]; exact Sl.nil _ _ _, since_alloc _ _⟩
  · by_cases c1 : (nD : Int) ≤ x
    · have E := Lib.hid (show R = [] by rw [HR.out, if_pos (.inr c1)])
      go_enter Try.func27, Try.ntmps27
      go_wp2
      go_ret
      exact ⟨_, rfl, by rw [E.out]; exact Sl.nil _ _ _, since_alloc _ _⟩
    · obtain ⟨k, rfl⟩ : ∃ k : Nat, x = (k : Int) := ⟨x.toNat, by omega⟩
      have hkl : k < ds.length := by have := HD.out; omega
      have E := Lib.hid (show R = ds[k] by rw [HR.out, if_neg (by omega)]; simp [hkl])
      obtain ⟨g, o, B, d, rfl, hS, e1⟩ := elD H1.out hkl
      generalize ds[k] = y at *
      obtain ⟨p, hp⟩ : ∃ p, p = y.length := ⟨_, rfl⟩
      rw [← hp] at hS e1
      have HS := Lib.hid hS
      have hc1 : k < nD := by omega
      have e0 := ((since_alloc w (.cells #[.slice (some ⟨g, o, none⟩) nD cD, .slice AW nW cW, .slice AF nF cF] 31)).cell _ (World.block_lt_of_cell? _ _ e1)).trans e1
      clear hS e1 hkl hp
      go_enter Try.func27, Try.ntmps27
      go_wp2
      go_ret
      exact ⟨_, rfl, by rw [E.out]; exact HS.out.since stR (since_alloc _ _), since_alloc _ _⟩
set_option maxRecDepth 20000 in
set_option maxHeartbeats 2000000 in
theorem ints_any (v1 v2 : Value) (xs ys : List Int) (w : World) (h1 : Sl 1 QI w v1 xs) (h2 : Sl 1 QI w v2 ys) (hl : xs.length ≤ 100000) (hl2 : ys.length ≤ 100000) :
    Calls Try.prog 19 #[v1, v2] w (RetT (decide (xs = ys)) w) := by
  obtain ⟨A1, c1, rfl⟩ := h1.form
  obtain ⟨A2, c2, rfl⟩ := h2.form
  obtain ⟨n, hn⟩ : ∃ n, n = xs.length := ⟨_, rfl⟩
  obtain ⟨m, hm⟩ : ∃ m, m = ys.length := ⟨_, rfl⟩
  obtain ⟨R, hR⟩ : ∃ R, R = decide (xs = ys) := ⟨_, rfl⟩
  rw [← hR]
  rw [← hn] at h1 hl ⊢
  rw [← hm] at h2 hl2 ⊢
  have H1 := Lib.hid h1
  have H2 := Lib.hid h2
  have HN := Lib.hid hn
  have HM := Lib.hid hm
  have HR := Lib.hid hR
  clear h1 h2 hn hm hR
  by_cases hnm : n = m
  · subst hnm
    clear hl2
    go_enter Try.func19, Try.ntmps19
    go_wp2
    go_loopw [13] (fun i wr => ∃ k : Nat, i = .int .i64 (k : Int) ∧ k ≤ n ∧ Hid (xs.take k = ys.take k) ∧ Hid (Since w wr)) (fun i _ => n - (intOf i).toNat)
    case atStart => exact ⟨0, rfl, Nat.zero_le _, rfl, Since.refl _⟩
    case round =>
      obtain ⟨k, rfl, hk, HE, HW⟩ := hrel
      by_cases hkn : k < n
      · have hk1 : k < xs.length := by have := HN.out; omega
        have hk2 : k < ys.length := by have := HM.out; omega
        obtain ⟨g, o, rfl, e0⟩ := elI (H1.out.since stI HW.out) hk1
        obtain ⟨g2, o2, rfl, e1⟩ := elI (H2.out.since stI HW.out) hk2
        have E0 : wr.drew.cell? _ = _ := e0
        have E1 : wr.drew.cell? _ = _ := e1
        have t1 := List.take_succ_eq_append_getElem hk1
        have t2 := List.take_succ_eq_append_getElem hk2
        have hno := Lib.hid (fun (hne : xs[k] ≠ ys[k]) => show false = R by
          rw [HR.out, decide_eq_false]; intro e; subst e; exact hne rfl)
        generalize xs[k] = y at *
        generalize ys[k] = z at *
        have T1 := Lib.hid t1
        have T2 := Lib.hid t2
        clear t1 t2 hk1 hk2
        by_cases hyz : y = z
        · subst hyz
          have hbn : (y != y) = false := by simp
          go_wp2
          go_region
          all_goals go_wp2
          all_goals go_roundw
          case rel => exact ⟨k + 1, by go_num, by omega, Lib.hid (by rw [T1.out, T2.out, HE.out]), by first | exact HW.out | exact Since.drew HW.out⟩
          case measure => simp [intOf]; omega
        · have hb : (y != z) = true := by rw [bne_iff_ne]; exact hyz
          have HX := Lib.hid (hno.out hyz)
          clear hno
          go_wp2
          go_region
          all_goals go_wp2
          all_goals go_ret
          all_goals exact .of HX.out (by first | exact HW.out | exact Since.drew HW.out)
      · obtain rfl : k = n := by omega
        have HX := Lib.hid (show true = R by
          have e := HE.out
          rw [List.take_of_length_le (by have := HN.out; omega), List.take_of_length_le (by have := HM.out; omega)] at e
          rw [HR.out, decide_eq_true e])
        go_wp2
        go_ret
        exact .of HX.out HW.out
  · have hb : ((n : Int) != (m : Int)) = true := by rw [bne_iff_ne]; omega
    have HX := Lib.hid (show false = R by
      rw [HR.out, decide_eq_false]; intro e; exact hnm (by rw [HN.out, HM.out, e]))
    go_enter Try.func19, Try.ntmps19
    go_wp2
    go_ret
    exact .of HX.out (Since.refl _)
/-- no more than the law allows -/
def fitsD (ds : Ds) : Bool := decide (ds.length ≤ 100) && ds.all (fun d => decide (d.length ≤ 300))
set_option maxRecDepth 20000 in
set_option maxHeartbeats 2000000 in
theorem fits_any (v : Value) (ds : Ds) (w : World) (h : Sl 1 QD w v ds) (hl : ds.length ≤ 9223372036854775807) :
    Calls Try.prog 8 #[v] w (RetT (fitsD ds) w) := by
  obtain ⟨A, c, rfl⟩ := h.form
  obtain ⟨n, hn⟩ : ∃ n, n = ds.length := ⟨_, rfl⟩
  rw [← hn] at h hl ⊢
  obtain ⟨R, hR⟩ : ∃ R, R = fitsD ds := ⟨_, rfl⟩
  rw [← hR]
  have H := Lib.hid h
  have HN := Lib.hid hn
  have HR := Lib.hid (show R = (decide (n ≤ 100) && ds.all (fun d => decide (d.length ≤ 300))) by rw [hR, hn]; rfl)
  clear h hn hR
  go_enter Try.func8, Try.ntmps8
  go_wp2
  go_loopw [6] (fun i wr => ∃ k : Nat, i = .int .i64 (k : Int) ∧ k ≤ n ∧ k ≤ 100 ∧ Hid ((ds.take k).all (fun d => decide (d.length ≤ 300)) = true) ∧ Hid (Since w wr)) (fun i _ => n - (intOf i).toNat)
  case atStart => exact ⟨0, rfl, Nat.zero_le _, Nat.zero_le _, rfl, Since.refl _⟩
  case round =>
    obtain ⟨k, rfl, hk, hk1, HE, HW⟩ := hrel
    by_cases hkn : k < n
    · by_cases h100 : k = 100
      · subst h100
        have HX := Lib.hid (show false = R by rw [HR.out, decide_eq_false (by omega)]; rfl)
        go_wp2
        go_ret
        exact .of HX.out HW.out
      · have hkl : k < ds.length := by have := HN.out; omega
        obtain ⟨g, o, B, d, rfl, hS, e0⟩ := elD (H.out.since stD HW.out) hkl
        have hmem := List.getElem_mem hkl
        have hst := List.take_succ_eq_append_getElem hkl
        generalize ds[k] = y at *
        obtain ⟨p, hp⟩ : ∃ p, p = y.length := ⟨_, rfl⟩
        rw [← hp] at e0
        have ST := Lib.hid hst
        have HM := Lib.hid hmem
        have HP := Lib.hid hp
        have hk2 : k < 100 := by omega
        clear hst hmem hS hkl hp
        by_cases hp3 : 300 < p
        · have HX := Lib.hid (show false = R by
            rw [HR.out, show ds.all (fun d => decide (d.length ≤ 300)) = false from List.all_eq_false.2 ⟨y, HM.out, by have := HP.out; simp; omega⟩, Bool.and_false])
          go_wp2
          go_ret
          exact .of HX.out HW.out
        · have HE2 := Lib.hid (show (ds.take (k + 1)).all (fun d => decide (d.length ≤ 300)) = true by
            rw [ST.out, List.all_append, HE.out]; have := HP.out; simp; omega)
          go_wp2
          go_roundw
          case rel => exact ⟨k + 1, by go_num, by omega, by omega, HE2.out, HW.out⟩
          case measure => simp [intOf]; omega
    · obtain rfl : k = n := by omega
      have HX := Lib.hid (show true = R by
        have e := HE.out
        rw [List.take_of_length_le (by have := HN.out; omega)] at e
        rw [HR.out, e, decide_eq_true hk1]; rfl)
      go_wp2
      go_ret
      exact .of HX.out HW.out
end Go.Proofs.Ytnojfeffmbdpmaa.Tr
