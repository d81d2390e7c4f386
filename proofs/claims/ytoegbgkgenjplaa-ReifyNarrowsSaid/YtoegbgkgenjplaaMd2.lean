/- Layer 12 (linear): the document's own Keep. -/
import Derived.Test.YtoegbgkgenjplaaMb2
import Derived.Test.YtoegbgkgenjplaaEo
import Derived.Test.YtoegbgkgenjplaaQbh
namespace Go.Proofs.Ytoegbgkgenjplaa.Ln
open Go.RowKit
set_option linter.unusedVariables false
set_option linter.unusedSimpArgs false
open Go.Proofs.Ytoegbgkgenjplaa.Dig Go.Proofs.Ytoegbgkgenjplaa.Lx Go.Proofs.Ytoegbgkgenjplaa.Tk Go.Proofs.Ytoegbgkgenjplaa.Ti Go.Proofs.Ytoegbgkgenjplaa.Zs Go.Proofs.Ytoegbgkgenjplaa.Tr Go.Proofs.Ytoegbgkgenjplaa.Sn
/-- ranges, domains that lie there -/
def RAt (w : World) (v : Value) (d : List Rn) : Prop := Sl 2 QR w v d
theorem RAt.since {w w' : World} {v : Value} {d : List Rn} (h : RAt w v d) (k : Since w w') : RAt w' v d := Sl.since stR h k
def EAt (w : World) (v : Value) (E : Ds) : Prop := Sl 1 QD w v E
theorem EAt.since {w w' : World} {v : Value} {E : Ds} (h : EAt w v E) (k : Since w w') : EAt w' v E := Sl.since stD h k
/-- the call ends in domains and true, or in false -/
def RetK (R : Option Ds) (w : World) (e : Ending) (w' : World) : Prop := ∃ A n c, e = .returned (.tuple #[.slice A n c, .bool R.isSome]) ∧ (∀ E, R = some E → E.length = n ∧ EAt w' (.slice A n c) E) ∧ Since w w'
theorem RetK.no {R : Option Ds} {w w' : World} {A : Option Addr} {n c : Nat} {b : Bool} (h : R = none) (hb : b = false) (k : Since w w') : RetK R w (.returned (.tuple #[.slice A n c, .bool b])) w' := by subst h hb; exact ⟨A, n, c, rfl, fun E h => (by cases h), k⟩
theorem RetK.yes {R : Option Ds} {E : Ds} {w w' : World} {A : Option Addr} {n c : Nat} {b : Bool} (h : R = some E) (hb : b = true) (hn : E.length = n) (hE : EAt w' (.slice A n c) E) (k : Since w w') : RetK R w (.returned (.tuple #[.slice A n c, .bool b])) w' := by subst h hb; exact ⟨A, n, c, rfl, fun E' h => by cases h; exact ⟨hn, hE⟩, k⟩
theorem cutD_rd {r : Int} {t : Tm} {D : Ds} (h : Rd D) : Rd (cutD r t D) := by
  unfold cutD; repeat' split
  · exact h.set (cut_right _ _ _)
  · exact h.set (cut_right _ _ _)
  · exact h
theorem all_cons {r : Int} {T : List Tm} {k : Nat} (hk : k < T.length) (D : Ds) : allD r (T.drop k) D = allD r (T.drop (k + 1)) (cutD r T[k] D) := by rw [dropT hk, allD]
theorem rcut_at {B : Option Addr} {m cB : Nat} {d : List Rn} {w : World} (hS : Sl 2 QR w (.slice B m cB) d) (hr : right d = true) (W : World) (k : Since w W) (a b a' b' : Int) (ha : a' = a) (hb : b' = b) :
    Calls Try.prog 102 #[.slice B m cB, .int .i64 a', .int .i64 b'] W (fun e w' => ∃ A2 m2 c2, e = .returned (.slice A2 m2 c2) ∧ (cut d a b).length = m2 ∧ RAt w' (.slice A2 m2 c2) (cut d a b) ∧ Since W w') := by
  subst ha hb
  exact rcut_any _ d a' b' W (hS.since stR k) (right_len hr) (okF_bd hr (Int.le_refl _))
theorem rwith_at {v : Value} {D : Ds} {w : World} (h : Sl 1 QD w v D) (x : Nat) (l : List Rn) (hl : D.length ≤ 100000) (W : World) (k : Since w W) (vl : Value) (hv : RAt W vl l) :
    Calls Try.prog 138 #[v, .int .i64 (x : Int), vl] W (fun e w' => ∃ A n c, e = .returned (.slice A n c) ∧ (D.set x l).length = n ∧ EAt w' (.slice A n c) (D.set x l) ∧ Since W w') := rwith_any v vl D x l W (h.since stD k) hv hl
set_option maxRecDepth 20000 in
set_option maxHeartbeats 3000000 in
theorem rkeep_any (va vx vd : Value) (a x : List Int) (cn : Int) (D : Ds) (w : World) (h : LinIn w va vx vd a x D) (hc : -2097152 ≤ cn ∧ cn ≤ 2097152) (hdl : D.length ≤ 64) :
    Calls Try.prog 113 #[va, vx, .int .i64 cn, vd] w (RetK (keepD cn (tms a x D) D) w) := by
  have LE := Lib.hid (rleast_any va vx vd a x D w h)
  obtain ⟨h1, h2, h3, hG, hx, hl, ha, hw⟩ := h
  have hTB := tms_bt hG hx hw
  obtain ⟨T, hT⟩ : ∃ T, T = tms a x D := ⟨_, rfl⟩
  have HTA := Lib.hid (fun k (hk : k < a.length) (hk2 : k < x.length) => show T[k]? = some (tm D (a[k], x[k])) by rw [hT]; exact tms_at hl hk)
  rw [← hT] at hTB LE ⊢
  obtain ⟨R, hR⟩ : ∃ R, R = keepD cn T D := ⟨_, rfl⟩
  rw [← hR]
  have hTL : T.length = a.length := by rw [hT]; exact tms_len hl
  have hsb := lsum_bd hTB
  obtain ⟨S, hS⟩ : ∃ S, S = lsum T := ⟨_, rfl⟩
  rw [← hS] at hsb LE
  have hS1 : -1099511627776000 ≤ S := by omega
  have hS2 : S ≤ 1099511627776000 := by omega
  obtain ⟨hc1, hc2⟩ := hc
  have HRn := Lib.hid (fun (e : S > cn) => show R = none by rw [hR, keepD, ← hS, if_pos e])
  have HRy := Lib.hid (fun (e : ¬ S > cn) => show (if (allD (cn - S) T D).any List.isEmpty then none else some (allD (cn - S) T D)) = R by rw [hR, keepD, ← hS, if_neg e])
  obtain ⟨A, ca, rfl⟩ := h1.form
  obtain ⟨X, xc, rfl⟩ := h2.form
  obtain ⟨DA, dc, rfl⟩ := h3.form
  obtain ⟨n, hn⟩ : ∃ n, n = a.length := ⟨_, rfl⟩
  obtain ⟨nx, hnx⟩ : ∃ n, n = x.length := ⟨_, rfl⟩
  obtain ⟨nd, hnd⟩ : ∃ n, n = D.length := ⟨_, rfl⟩
  rw [← hn] at h1 ha hTL LE ⊢
  rw [← hnx] at h2 LE ⊢
  rw [← hnd] at h3 hdl LE ⊢
  have H1 := Lib.hid h1
  have H2 := Lib.hid h2
  have H3 := Lib.hid h3
  have HN := Lib.hid hn
  have HNX := Lib.hid hnx
  have HND := Lib.hid hnd
  have HL := Lib.hid hl
  have HG := Lib.hid hG
  have HTB := Lib.hid hTB
  have HTL := Lib.hid hTL
  have HX := Lib.hid (fun k (hk : k < x.length) => isV_at hx hk)
  clear h1 h2 h3 hG hx hl hw hT hTB hn hnx hnd hR hTL hsb hS
  by_cases c0 : S > cn
  · have E := Lib.hid (HRn.out c0)
    clear HRy HRn
    go_enter Try.func113, Try.ntmps113
    go_wp2_with (go_at_call 110; (with_reducible refine LE.out.mono ?_); rintro e w1 ⟨rfl, k1, -⟩; have K1 := Lib.hid k1; clear k1)
    go_ret2
    exact .no E.out rfl K1.out
  have HK := Lib.hid (HRy.out c0)
  have WR : IntKind.i64.wrap (cn - S) = cn - S := wrap_id' (by omega) (by omega)
  have hr1 : 0 ≤ cn - S := by omega
  have hr2 : cn - S ≤ 1125899906842624 := by omega
  generalize hr : cn - S = r at *
  clear HRy HRn
  go_enter Try.func113, Try.ntmps113
  go_wp2_with (go_at_call 110; (with_reducible refine LE.out.mono ?_); rintro e w1 ⟨rfl, k1, -⟩; have K1 := Lib.hid k1; clear k1)
  go_loopw [11, 12] (fun s i wr => ∃ (k : Nat) (B : Option Addr) (cB : Nat) (E : Ds), i = .int .i64 (k : Int) ∧ s = .slice B nd cB ∧ k ≤ n ∧ Hid (EAt wr (.slice B nd cB) E) ∧ Hid (Rd E) ∧ Hid (E.length = nd) ∧ Hid (allD r (T.drop k) E = allD r T D) ∧ Hid (Since w wr)) (fun _ i _ => n - (intOf i).toNat)
  case atStart => exact ⟨0, DA, dc, D, rfl, rfl, Nat.zero_le _, H3.out.since stD K1.out, HG.out.rd, HND.out.symm, rfl, K1.out⟩
  case round =>
    obtain ⟨k, OB, oc, E, rfl, rfl, hk, HEA, HER, HEL, HEE, HW⟩ := hrel
    by_cases hkn : k < n
    · have hka : k < a.length := by have := HN.out; omega
      have hkx : k < x.length := by have := HL.out; omega
      have hknx : k < nx := by have := HNX.out; omega
      have hkT : k < T.length := by rw [HTL.out]; exact hkn
      obtain ⟨ga, oa, rfl, ea⟩ := elI (H1.out.since stI HW.out) hka
      obtain ⟨gx, ox, rfl, ex⟩ := elI (H2.out.since stI HW.out) hkx
      obtain ⟨j, hj, hjl⟩ := HX.out k hkx
      have hjn : j < nd := by have := HND.out; omega
      have hje : j < E.length := by have := HEL.out; omega
      obtain ⟨gd, od, B, cB, rfl, hS, ed⟩ := elD (H3.out.since stD HW.out) hjl
      obtain ⟨ge, oe, B2, cB2, rfl, hS2', ee⟩ := elD (show Sl 1 QD wr (.slice OB nd oc) E from HEA.out) hje
      have hgd := HG.out _ (List.getElem_mem hjl)
      have hre := HER.out _ (List.getElem_mem hje)
      have hTa := HTA.out k hka hkx
      rw [List.getElem?_eq_getElem hkT] at hTa
      injection hTa with hTa
      have hbt := HTB.out _ (List.getElem_mem hkT)
      have hst := HEE.out
      rw [all_cons hkT] at hst
      have hdm : domAt D (x[k]) = D[j] := by rw [hj]; simp [domAt, hjl]
      have hdE : domAt E (j : Int) = E[j] := by simp [domAt, hje]
      have hE : tm D (a[k], x[k]) = ⟨a[k], lo D[j], hi D[j], (j : Int)⟩ := by simp only [tm]; rw [hdm, hj]
      rw [hTa, hE] at hst hbt
      rw [hj] at ex
      simp only [Bt] at hbt
      have LO := Lib.hid (fun W (kk : Since wr W) => rlo_any hS hgd.2 W kk)
      have HI := Lib.hid (fun W (kk : Since wr W) => rhi_any hS hgd.2 (right_len hgd.1) W kk)
      obtain ⟨⟨hb1, hb1'⟩, ⟨hb2, hb2'⟩, ⟨hb3, hb3'⟩, -⟩ := hbt
      have ST := Lib.hid hst
      have HDE := Lib.hid hdE
      have CU := Lib.hid (fun W (kk : Since wr W) a b a' b' ha hb => rcut_at hS2' hre W kk a b a' b' ha hb)
      have WI := Lib.hid (fun l W (kk : Since wr W) vl hv => rwith_at (show Sl 1 QD wr _ E from HEA.out) j l (by have := HEL.out; omega) W kk vl hv)
      generalize a[k] = y at *
      generalize lo D[j] = dlo at *
      generalize hi D[j] = dhi at *
      generalize D[j].length = dl at *
      have CA := Lib.hid (fun W (kk : Since wr W) => show W.cell? ⟨ga, oa + k, none⟩ = some (.int .i64 y) from (kk.cell _ (World.block_lt_of_cell? _ _ ea)).trans ea)
      have CX := Lib.hid (fun W (kk : Since wr W) => show W.cell? ⟨gx, ox + k, none⟩ = some (.int .i64 (j : Int)) from (kk.cell _ (World.block_lt_of_cell? _ _ ex)).trans ex)
      have CD := Lib.hid (fun W (kk : Since wr W) => show W.cell? ⟨gd, od + j, none⟩ = some (.slice B dl cB) from (kk.cell _ (World.block_lt_of_cell? _ _ ed)).trans ed)
      have CE := Lib.hid (fun W (kk : Since wr W) => show W.cell? ⟨ge, oe + j, none⟩ = some (.slice B2 E[j].length cB2) from (kk.cell _ (World.block_lt_of_cell? _ _ ee)).trans ee)
      have HLE := Lib.hid (fun l => show (E.set j l).length = nd by rw [List.length_set]; exact HEL.out)
      have HRE := Lib.hid (fun (t : Tm) => cutD_rd (r := r) (t := t) HER.out)
      clear hst hS hS2' hgd hre hTa hdm hdE hE hka hkx hkT hj hjl
      by_cases c1 : 0 < y
      · have E1 := Lib.hid (show cutD r ⟨y, dlo, dhi, (j : Int)⟩ E = E.set j (cut E[j] (-far) (dlo + r / y)) by simp only [cutD]; rw [if_pos c1, HDE.out]; rfl)
        have FL := Lib.hid (fun W => rfloor_any r y ⟨hr1, hr2⟩ ⟨c1, hb1'⟩ W)
        have q2 : 0 ≤ r / y := Int.ediv_nonneg hr1 (by omega)
        have q3 : r / y ≤ r := Int.ediv_le_self y hr1
        have ST2 := Lib.hid (show allD r (T.drop (k + 1)) (E.set j (cut E[j] (-far) (dlo + r / y))) = allD r T D by rw [← E1.out]; exact ST.out)
        have RD2 := Lib.hid (show Rd (E.set j (cut E[j] (-far) (dlo + r / y))) by rw [← E1.out]; exact HRE.out _)
        generalize hq : r / y = q at *
        have WE := Lib.hid (show IntKind.i64.wrap (dlo + q) = dlo + q from wrap_id' (by omega) (by omega))
        clear E1 ST HRE hq
        generalize E[j].length = el at *
        generalize E[j] = e at *
        go_wp2_with (go_at_call 137; (with_reducible refine (FL.out _).mono ?_); rintro e w2 ⟨rfl, rfl⟩)
        have hr0 : Since w2 w2.drew := Since.drew (Since.refl w2)
        refine wp_region_noPanic ?_
        refine Reg.wp_region_G (S := fun _ => True) (fun j => [].contains j) (by kernel_rfl) trivial ?_
        refine' Reg.tk (i := 0) (oi := { dst := some 53, op := Op.move (Operand.tmp 11), type := 30, pos := "ref.go:93", after := #[], guard := none }) (v := _) [14, 15] [] (Or.inl ⟨by rfl, Or.inl ?hy31⟩) ?rest31
        case hy31 => (intro w' kk ss; have qa := CA.out _ (hr0.trans kk); have qx := CX.out _ (hr0.trans kk); have qd := CD.out _ (hr0.trans kk); have qe := CE.out _ (hr0.trans kk); go_simp; first | done | with_reducible rfl)
        try simp only [Act.put, List.setIfInBounds_toArray, List.set_cons_zero, List.set_cons_succ]
        refine' Reg.tk (i := 1) (oi := { dst := some 54, op := Op.move (Operand.tmp 13), type := 3, pos := "ref.go:93", after := #[], guard := none }) (v := _) [14, 15] [] (Or.inl ⟨by rfl, Or.inl ?hy32⟩) ?rest32
        case hy32 => (intro w' kk ss; have qa := CA.out _ (hr0.trans kk); have qx := CX.out _ (hr0.trans kk); have qd := CD.out _ (hr0.trans kk); have qe := CE.out _ (hr0.trans kk); go_simp; first | done | with_reducible rfl)
        try simp only [Act.put, List.setIfInBounds_toArray, List.set_cons_zero, List.set_cons_succ]
        refine' Reg.tk (i := 2) (oi := { dst := some 55, op := Op.move (Operand.tmp 11), type := 30, pos := "ref.go:93", after := #[], guard := none }) (v := _) [4, 5, 13, 14, 15] [] (Or.inl ⟨by rfl, Or.inl ?hy33⟩) ?rest33
        case hy33 => (intro w' kk ss; have qa := CA.out _ (hr0.trans kk); have qx := CX.out _ (hr0.trans kk); have qd := CD.out _ (hr0.trans kk); have qe := CE.out _ (hr0.trans kk); go_simp; first | done | with_reducible rfl)
        try simp only [Act.put, List.setIfInBounds_toArray, List.set_cons_zero, List.set_cons_succ]
        refine' Reg.tk (i := 3) (oi := { dst := some 56, op := Op.move (Operand.tmp 13), type := 3, pos := "ref.go:93", after := #[], guard := none }) (v := _) [4, 5, 13, 14, 15] [] (Or.inl ⟨by rfl, Or.inl ?hy34⟩) ?rest34
        case hy34 => (intro w' kk ss; have qa := CA.out _ (hr0.trans kk); have qx := CX.out _ (hr0.trans kk); have qd := CD.out _ (hr0.trans kk); have qe := CE.out _ (hr0.trans kk); go_simp; first | done | with_reducible rfl)
        try simp only [Act.put, List.setIfInBounds_toArray, List.set_cons_zero, List.set_cons_succ]
        refine' Reg.tk (i := 4) (oi := { dst := some 57, op := Op.indexAddr 30 (Operand.tmp 55) (Operand.tmp 56), type := 0, pos := "ref.go:93", after := #[{ on := 2, ground := Ground.data }, { on := 3, ground := Ground.data }], guard := none }) (v := _) [5, 13, 14, 15] [] (Or.inl ⟨by rfl, Or.inl ?hy35⟩) ?rest35
        case hy35 => (intro w' kk ss; have qa := CA.out _ (hr0.trans kk); have qx := CX.out _ (hr0.trans kk); have qd := CD.out _ (hr0.trans kk); have qe := CE.out _ (hr0.trans kk); go_simp; first | done | with_reducible rfl)
        try simp only [Act.put, List.setIfInBounds_toArray, List.set_cons_zero, List.set_cons_succ]
        refine' Reg.tk (i := 5) (oi := { dst := some 58, op := Op.load 50 (Operand.tmp 57), type := 50, pos := "ref.go:93", after := #[{ on := 4, ground := Ground.data }], guard := none }) (v := _) [13, 14, 15] [] (Or.inl ⟨by rfl, Or.inl ?hy36⟩) ?rest36
        case hy36 => (intro w' kk ss; have qa := CA.out _ (hr0.trans kk); have qx := CX.out _ (hr0.trans kk); have qd := CD.out _ (hr0.trans kk); have qe := CE.out _ (hr0.trans kk); go_simp; first | done | with_reducible rfl)
        try simp only [Act.put, List.setIfInBounds_toArray, List.set_cons_zero, List.set_cons_succ]
        refine' Reg.tk (i := 6) (oi := { dst := some 59, op := Op.move (Operand.tmp 3), type := 30, pos := "ref.go:93", after := #[], guard := none }) (v := _) [8, 9, 10, 12, 13, 14, 15] [] (Or.inl ⟨by rfl, Or.inl ?hy37⟩) ?rest37
        case hy37 => (intro w' kk ss; have qa := CA.out _ (hr0.trans kk); have qx := CX.out _ (hr0.trans kk); have qd := CD.out _ (hr0.trans kk); have qe := CE.out _ (hr0.trans kk); go_simp; first | done | with_reducible rfl)
        try simp only [Act.put, List.setIfInBounds_toArray, List.set_cons_zero, List.set_cons_succ]
        refine' Reg.tk (i := 7) (oi := { dst := some 60, op := Op.move (Operand.tmp 13), type := 3, pos := "ref.go:93", after := #[], guard := none }) (v := _) [8, 9, 10, 12, 13, 14, 15] [] (Or.inl ⟨by rfl, Or.inl ?hy38⟩) ?rest38
        case hy38 => (intro w' kk ss; have qa := CA.out _ (hr0.trans kk); have qx := CX.out _ (hr0.trans kk); have qd := CD.out _ (hr0.trans kk); have qe := CE.out _ (hr0.trans kk); go_simp; first | done | with_reducible rfl)
        try simp only [Act.put, List.setIfInBounds_toArray, List.set_cons_zero, List.set_cons_succ]
        refine' Reg.tk (i := 8) (oi := { dst := some 61, op := Op.indexAddr 30 (Operand.tmp 59) (Operand.tmp 60), type := 0, pos := "ref.go:93", after := #[{ on := 6, ground := Ground.data }, { on := 7, ground := Ground.data }], guard := none }) (v := _) [9, 10, 12, 13, 14, 15] [] (Or.inl ⟨by rfl, Or.inl ?hy39⟩) ?rest39
        case hy39 => (intro w' kk ss; have qa := CA.out _ (hr0.trans kk); have qx := CX.out _ (hr0.trans kk); have qd := CD.out _ (hr0.trans kk); have qe := CE.out _ (hr0.trans kk); go_simp; first | done | with_reducible rfl)
        try simp only [Act.put, List.setIfInBounds_toArray, List.set_cons_zero, List.set_cons_succ]
        refine' Reg.tk (i := 9) (oi := { dst := some 62, op := Op.load 50 (Operand.tmp 61), type := 50, pos := "ref.go:93", after := #[{ on := 8, ground := Ground.data }], guard := none }) (v := _) [10, 12, 13, 14, 15] [] (Or.inl ⟨by rfl, Or.inl ?hy40⟩) ?rest40
        case hy40 => (intro w' kk ss; have qa := CA.out _ (hr0.trans kk); have qx := CX.out _ (hr0.trans kk); have qd := CD.out _ (hr0.trans kk); have qe := CE.out _ (hr0.trans kk); go_simp; first | done | with_reducible rfl)
        try simp only [Act.put, List.setIfInBounds_toArray, List.set_cons_zero, List.set_cons_succ]
        refine Reg.tk (i := 10) (oi := { dst := some 63, op := Op.call { callee := Callee.value (Operand.func 75), args := #[Operand.tmp 62], argTypes := #[50] }, type := 2, pos := "ref.go:93", after := #[{ on := 9, ground := Ground.data }], guard := none }) (v := .int .i64 dlo) [12, 13, 14, 15] [] (Or.inl ⟨by rfl, Or.inr ⟨75, #[.slice B dl cB], fun w' kk ss => ⟨?_, ?_⟩⟩⟩) ?_
        · (try dsimp only at ss); go_simp
        · exact LO.out w' (hr0.trans kk)
        try simp only [Act.put, List.setIfInBounds_toArray, List.set_cons_zero, List.set_cons_succ]
        refine' Reg.tk (i := 11) (oi := { dst := some 64, op := Op.move (Operand.tmp 14), type := 2, pos := "ref.go:93", after := #[], guard := none }) (v := _) [12, 13, 14, 15] [] (Or.inl ⟨by rfl, Or.inl ?hy41⟩) ?rest41
        case hy41 => (intro w' kk ss; have qa := CA.out _ (hr0.trans kk); have qx := CX.out _ (hr0.trans kk); have qd := CD.out _ (hr0.trans kk); have qe := CE.out _ (hr0.trans kk); go_simp; first | done | with_reducible rfl)
        try simp only [Act.put, List.setIfInBounds_toArray, List.set_cons_zero, List.set_cons_succ]
        refine' Reg.tk (i := 12) (oi := { dst := some 65, op := Op.binOp BinOp.add 2 (Operand.tmp 63) (Operand.tmp 64) 2, type := 2, pos := "ref.go:93", after := #[{ on := 10, ground := Ground.data }, { on := 11, ground := Ground.data }], guard := none }) (v := _) [13, 14, 15] [] (Or.inl ⟨by rfl, Or.inl ?hy42⟩) ?rest42
        case hy42 => (intro w' kk ss; have qa := CA.out _ (hr0.trans kk); have qx := CX.out _ (hr0.trans kk); have qd := CD.out _ (hr0.trans kk); have qe := CE.out _ (hr0.trans kk); go_simp; first | done | with_reducible rfl)
        try simp only [Act.put, List.setIfInBounds_toArray, List.set_cons_zero, List.set_cons_succ]
        refine Reg.wpG_ready (rs := [13]) (by kernel_rfl) (by simp) (fun wq30001 k30001' sq30001 => ?_)
        have hr0 := hr0.trans k30001'
        refine Reg.AllG.first (o := { dst := some 66, op := Op.call { callee := Callee.value (Operand.func 102), args := #[Operand.tmp 58, Operand.const (Value.int IntKind.i64 (-1099511627776)), Operand.tmp 65], argTypes := #[50, 2, 2] }, type := 50, pos := "ref.go:93", after := #[{ on := 5, ground := Ground.data }, { on := 12, ground := Ground.data }, { on := 10, ground := Ground.chain }], guard := none }) rfl (by rfl) (fun K hK => ?_) Reg.AllG.nil
        go_simp
        (with_reducible refine (CU.out wq30001 hr0 (-far) (dlo + q) _ _ rfl WE.out).mono ?_)
        rintro e y30001 ⟨A2, m2, c2, rfl, hm2, q1, hx⟩
        refine hK.out _ _ trivial hx ?_
        clear hK K
        have hr0 := hr0.trans hx
        clear hx
        try simp only [Act.put, List.setIfInBounds_toArray, List.set_cons_zero, List.set_cons_succ]
        refine Reg.wpG_ready (rs := [14]) (by kernel_rfl) (by simp) (fun wq30002 k30002' sq30002 => ?_)
        have hr0 := hr0.trans k30002'
        have q1 := q1.since k30002'
        refine Reg.AllG.first (o := { dst := some 67, op := Op.call { callee := Callee.value (Operand.func 138), args := #[Operand.tmp 53, Operand.tmp 54, Operand.tmp 66], argTypes := #[30, 3, 50] }, type := 30, pos := "ref.go:93", after := #[{ on := 0, ground := Ground.data }, { on := 1, ground := Ground.data }, { on := 13, ground := Ground.data }, { on := 13, ground := Ground.chain }], guard := none }) rfl (by rfl) (fun K hK => ?_) Reg.AllG.nil
        go_simp
        (with_reducible refine (WI.out _ wq30002 hr0 _ q1).mono ?_)
        rintro e y30002 ⟨A3, n3, c3, rfl, hn3, q2', hx⟩
        refine hK.out _ _ trivial hx ?_
        clear hK K
        have hr0 := hr0.trans hx
        have q1 := q1.since hx
        clear hx
        try simp only [Act.put, List.setIfInBounds_toArray, List.set_cons_zero, List.set_cons_succ]
        refine' Reg.tk (i := 15) (oi := { dst := some 11, op := Op.assign (Operand.tmp 67), type := 30, pos := "ref.go:93", after := #[{ on := 14, ground := Ground.data }, { on := 14, ground := Ground.chain }, { on := 0, ground := Ground.phase }, { on := 1, ground := Ground.phase }, { on := 2, ground := Ground.phase }, { on := 3, ground := Ground.phase }, { on := 4, ground := Ground.phase }, { on := 5, ground := Ground.phase }, { on := 6, ground := Ground.phase }, { on := 7, ground := Ground.phase }, { on := 8, ground := Ground.phase }, { on := 9, ground := Ground.phase }, { on := 10, ground := Ground.phase }, { on := 11, ground := Ground.phase }, { on := 12, ground := Ground.phase }, { on := 13, ground := Ground.phase }, { on := 14, ground := Ground.phase }], guard := none }) (v := _) [] [] (Or.inl ⟨by rfl, Or.inl ?hy43⟩) ?rest43
        case hy43 => (intro w' kk ss; have qa := CA.out _ (hr0.trans kk); have qx := CX.out _ (hr0.trans kk); have qd := CD.out _ (hr0.trans kk); have qe := CE.out _ (hr0.trans kk); go_simp; first | done | with_reducible rfl)
        try simp only [Act.put, List.setIfInBounds_toArray, List.set_cons_zero, List.set_cons_succ]
        refine Reg.wpG_done (by kernel_rfl) (fun we ke se => ?_) _
        refine NoPanic.normal ?_
        have hr0 := hr0.trans ke
        have q1 := q1.since ke
        have q2' := q2'.since ke
        clear ke
        go_wp2
        go_roundw
        case rel => exact ⟨k + 1, A3, c3, _, by go_num, by rw [← hn3, HLE.out], by omega, Lib.hid (by rw [← hn3, HLE.out] at q2'; exact q2'), RD2, Lib.hid (HLE.out _), ST2, Lib.hid (HW.out.trans hr0)⟩
        case measure => simp [intOf]; omega
      by_cases c2 : y < 0
      · obtain ⟨yn, hyn⟩ : ∃ yn, yn = -y := ⟨_, rfl⟩
        have E1 := Lib.hid (show cutD r ⟨y, dlo, dhi, (j : Int)⟩ E = E.set j (cut E[j] (dhi - r / yn) far) by simp only [cutD]; rw [if_neg c1, if_pos c2, HDE.out, hyn]; rfl)
        have WN : IntKind.i64.wrap (-y) = yn := by rw [hyn]; exact wrap_id' (by omega) (by omega)
        have FL := Lib.hid (fun W => rfloor_any r yn ⟨hr1, hr2⟩ ⟨by omega, by omega⟩ W)
        have q2 : 0 ≤ r / yn := Int.ediv_nonneg hr1 (by omega)
        have q3 : r / yn ≤ r := Int.ediv_le_self yn hr1
        have ST2 := Lib.hid (show allD r (T.drop (k + 1)) (E.set j (cut E[j] (dhi - r / yn) far)) = allD r T D by rw [← E1.out]; exact ST.out)
        have RD2 := Lib.hid (show Rd (E.set j (cut E[j] (dhi - r / yn) far)) by rw [← E1.out]; exact HRE.out _)
        generalize hq : r / yn = q at *
        have WE := Lib.hid (show IntKind.i64.wrap (dhi - q) = dhi - q from wrap_id' (by omega) (by omega))
        clear E1 ST HRE hq hyn
        generalize E[j].length = el at *
        generalize E[j] = e at *
        go_wp2_with (go_at_call 137; (with_reducible refine (FL.out _).mono ?_); rintro e w2 ⟨rfl, rfl⟩)
        have hr0 : Since w2 w2.drew := Since.drew (Since.refl w2)
        refine wp_region_noPanic ?_
        refine Reg.wp_region_G (S := fun _ => True) (fun j => [].contains j) (by kernel_rfl) trivial ?_
        refine' Reg.tk (i := 0) (oi := { dst := some 86, op := Op.move (Operand.tmp 11), type := 30, pos := "ref.go:96", after := #[], guard := none }) (v := _) [14, 15] [] (Or.inl ⟨by rfl, Or.inl ?hy45⟩) ?rest45
        case hy45 => (intro w' kk ss; have qa := CA.out _ (hr0.trans kk); have qx := CX.out _ (hr0.trans kk); have qd := CD.out _ (hr0.trans kk); have qe := CE.out _ (hr0.trans kk); go_simp; first | done | with_reducible rfl)
        try simp only [Act.put, List.setIfInBounds_toArray, List.set_cons_zero, List.set_cons_succ]
        refine' Reg.tk (i := 1) (oi := { dst := some 87, op := Op.move (Operand.tmp 13), type := 3, pos := "ref.go:96", after := #[], guard := none }) (v := _) [14, 15] [] (Or.inl ⟨by rfl, Or.inl ?hy46⟩) ?rest46
        case hy46 => (intro w' kk ss; have qa := CA.out _ (hr0.trans kk); have qx := CX.out _ (hr0.trans kk); have qd := CD.out _ (hr0.trans kk); have qe := CE.out _ (hr0.trans kk); go_simp; first | done | with_reducible rfl)
        try simp only [Act.put, List.setIfInBounds_toArray, List.set_cons_zero, List.set_cons_succ]
        refine' Reg.tk (i := 2) (oi := { dst := some 88, op := Op.move (Operand.tmp 11), type := 30, pos := "ref.go:96", after := #[], guard := none }) (v := _) [4, 5, 13, 14, 15] [] (Or.inl ⟨by rfl, Or.inl ?hy47⟩) ?rest47
        case hy47 => (intro w' kk ss; have qa := CA.out _ (hr0.trans kk); have qx := CX.out _ (hr0.trans kk); have qd := CD.out _ (hr0.trans kk); have qe := CE.out _ (hr0.trans kk); go_simp; first | done | with_reducible rfl)
        try simp only [Act.put, List.setIfInBounds_toArray, List.set_cons_zero, List.set_cons_succ]
        refine' Reg.tk (i := 3) (oi := { dst := some 89, op := Op.move (Operand.tmp 13), type := 3, pos := "ref.go:96", after := #[], guard := none }) (v := _) [4, 5, 13, 14, 15] [] (Or.inl ⟨by rfl, Or.inl ?hy48⟩) ?rest48
        case hy48 => (intro w' kk ss; have qa := CA.out _ (hr0.trans kk); have qx := CX.out _ (hr0.trans kk); have qd := CD.out _ (hr0.trans kk); have qe := CE.out _ (hr0.trans kk); go_simp; first | done | with_reducible rfl)
        try simp only [Act.put, List.setIfInBounds_toArray, List.set_cons_zero, List.set_cons_succ]
        refine' Reg.tk (i := 4) (oi := { dst := some 90, op := Op.indexAddr 30 (Operand.tmp 88) (Operand.tmp 89), type := 0, pos := "ref.go:96", after := #[{ on := 2, ground := Ground.data }, { on := 3, ground := Ground.data }], guard := none }) (v := _) [5, 13, 14, 15] [] (Or.inl ⟨by rfl, Or.inl ?hy49⟩) ?rest49
        case hy49 => (intro w' kk ss; have qa := CA.out _ (hr0.trans kk); have qx := CX.out _ (hr0.trans kk); have qd := CD.out _ (hr0.trans kk); have qe := CE.out _ (hr0.trans kk); go_simp; first | done | with_reducible rfl)
        try simp only [Act.put, List.setIfInBounds_toArray, List.set_cons_zero, List.set_cons_succ]
        refine' Reg.tk (i := 5) (oi := { dst := some 91, op := Op.load 50 (Operand.tmp 90), type := 50, pos := "ref.go:96", after := #[{ on := 4, ground := Ground.data }], guard := none }) (v := _) [13, 14, 15] [] (Or.inl ⟨by rfl, Or.inl ?hy50⟩) ?rest50
        case hy50 => (intro w' kk ss; have qa := CA.out _ (hr0.trans kk); have qx := CX.out _ (hr0.trans kk); have qd := CD.out _ (hr0.trans kk); have qe := CE.out _ (hr0.trans kk); go_simp; first | done | with_reducible rfl)
        try simp only [Act.put, List.setIfInBounds_toArray, List.set_cons_zero, List.set_cons_succ]
        refine' Reg.tk (i := 6) (oi := { dst := some 92, op := Op.move (Operand.tmp 3), type := 30, pos := "ref.go:96", after := #[], guard := none }) (v := _) [8, 9, 10, 12, 13, 14, 15] [] (Or.inl ⟨by rfl, Or.inl ?hy51⟩) ?rest51
        case hy51 => (intro w' kk ss; have qa := CA.out _ (hr0.trans kk); have qx := CX.out _ (hr0.trans kk); have qd := CD.out _ (hr0.trans kk); have qe := CE.out _ (hr0.trans kk); go_simp; first | done | with_reducible rfl)
        try simp only [Act.put, List.setIfInBounds_toArray, List.set_cons_zero, List.set_cons_succ]
        refine' Reg.tk (i := 7) (oi := { dst := some 93, op := Op.move (Operand.tmp 13), type := 3, pos := "ref.go:96", after := #[], guard := none }) (v := _) [8, 9, 10, 12, 13, 14, 15] [] (Or.inl ⟨by rfl, Or.inl ?hy52⟩) ?rest52
        case hy52 => (intro w' kk ss; have qa := CA.out _ (hr0.trans kk); have qx := CX.out _ (hr0.trans kk); have qd := CD.out _ (hr0.trans kk); have qe := CE.out _ (hr0.trans kk); go_simp; first | done | with_reducible rfl)
        try simp only [Act.put, List.setIfInBounds_toArray, List.set_cons_zero, List.set_cons_succ]
        refine' Reg.tk (i := 8) (oi := { dst := some 94, op := Op.indexAddr 30 (Operand.tmp 92) (Operand.tmp 93), type := 0, pos := "ref.go:96", after := #[{ on := 6, ground := Ground.data }, { on := 7, ground := Ground.data }], guard := none }) (v := _) [9, 10, 12, 13, 14, 15] [] (Or.inl ⟨by rfl, Or.inl ?hy53⟩) ?rest53
        case hy53 => (intro w' kk ss; have qa := CA.out _ (hr0.trans kk); have qx := CX.out _ (hr0.trans kk); have qd := CD.out _ (hr0.trans kk); have qe := CE.out _ (hr0.trans kk); go_simp; first | done | with_reducible rfl)
        try simp only [Act.put, List.setIfInBounds_toArray, List.set_cons_zero, List.set_cons_succ]
        refine' Reg.tk (i := 9) (oi := { dst := some 95, op := Op.load 50 (Operand.tmp 94), type := 50, pos := "ref.go:96", after := #[{ on := 8, ground := Ground.data }], guard := none }) (v := _) [10, 12, 13, 14, 15] [] (Or.inl ⟨by rfl, Or.inl ?hy54⟩) ?rest54
        case hy54 => (intro w' kk ss; have qa := CA.out _ (hr0.trans kk); have qx := CX.out _ (hr0.trans kk); have qd := CD.out _ (hr0.trans kk); have qe := CE.out _ (hr0.trans kk); go_simp; first | done | with_reducible rfl)
        try simp only [Act.put, List.setIfInBounds_toArray, List.set_cons_zero, List.set_cons_succ]
        refine Reg.tk (i := 10) (oi := { dst := some 96, op := Op.call { callee := Callee.value (Operand.func 76), args := #[Operand.tmp 95], argTypes := #[50] }, type := 2, pos := "ref.go:96", after := #[{ on := 9, ground := Ground.data }], guard := none }) (v := .int .i64 dhi) [12, 13, 14, 15] [] (Or.inl ⟨by rfl, Or.inr ⟨76, #[.slice B dl cB], fun w' kk ss => ⟨?_, ?_⟩⟩⟩) ?_
        · (try dsimp only at ss); go_simp
        · exact HI.out w' (hr0.trans kk)
        try simp only [Act.put, List.setIfInBounds_toArray, List.set_cons_zero, List.set_cons_succ]
        refine' Reg.tk (i := 11) (oi := { dst := some 97, op := Op.move (Operand.tmp 16), type := 2, pos := "ref.go:96", after := #[], guard := none }) (v := _) [12, 13, 14, 15] [] (Or.inl ⟨by rfl, Or.inl ?hy55⟩) ?rest55
        case hy55 => (intro w' kk ss; have qa := CA.out _ (hr0.trans kk); have qx := CX.out _ (hr0.trans kk); have qd := CD.out _ (hr0.trans kk); have qe := CE.out _ (hr0.trans kk); go_simp; first | done | with_reducible rfl)
        try simp only [Act.put, List.setIfInBounds_toArray, List.set_cons_zero, List.set_cons_succ]
        refine' Reg.tk (i := 12) (oi := { dst := some 98, op := Op.binOp BinOp.sub 2 (Operand.tmp 96) (Operand.tmp 97) 2, type := 2, pos := "ref.go:96", after := #[{ on := 10, ground := Ground.data }, { on := 11, ground := Ground.data }], guard := none }) (v := _) [13, 14, 15] [] (Or.inl ⟨by rfl, Or.inl ?hy56⟩) ?rest56
        case hy56 => (intro w' kk ss; have qa := CA.out _ (hr0.trans kk); have qx := CX.out _ (hr0.trans kk); have qd := CD.out _ (hr0.trans kk); have qe := CE.out _ (hr0.trans kk); go_simp; first | done | with_reducible rfl)
        try simp only [Act.put, List.setIfInBounds_toArray, List.set_cons_zero, List.set_cons_succ]
        refine Reg.wpG_ready (rs := [13]) (by kernel_rfl) (by simp) (fun wq44001 k44001' sq44001 => ?_)
        have hr0 := hr0.trans k44001'
        refine Reg.AllG.first (o := { dst := some 99, op := Op.call { callee := Callee.value (Operand.func 102), args := #[Operand.tmp 91, Operand.tmp 98, Operand.const (Value.int IntKind.i64 1099511627776)], argTypes := #[50, 2, 2] }, type := 50, pos := "ref.go:96", after := #[{ on := 5, ground := Ground.data }, { on := 12, ground := Ground.data }, { on := 10, ground := Ground.chain }], guard := none }) rfl (by rfl) (fun K hK => ?_) Reg.AllG.nil
        go_simp
        (with_reducible refine (CU.out wq44001 hr0 (dhi - q) far _ _ WE.out rfl).mono ?_)
        rintro e y44001 ⟨A2, m2, c2, rfl, hm2, q1, hx⟩
        refine hK.out _ _ trivial hx ?_
        clear hK K
        have hr0 := hr0.trans hx
        clear hx
        try simp only [Act.put, List.setIfInBounds_toArray, List.set_cons_zero, List.set_cons_succ]
        refine Reg.wpG_ready (rs := [14]) (by kernel_rfl) (by simp) (fun wq44002 k44002' sq44002 => ?_)
        have hr0 := hr0.trans k44002'
        have q1 := q1.since k44002'
        refine Reg.AllG.first (o := { dst := some 100, op := Op.call { callee := Callee.value (Operand.func 138), args := #[Operand.tmp 86, Operand.tmp 87, Operand.tmp 99], argTypes := #[30, 3, 50] }, type := 30, pos := "ref.go:96", after := #[{ on := 0, ground := Ground.data }, { on := 1, ground := Ground.data }, { on := 13, ground := Ground.data }, { on := 13, ground := Ground.chain }], guard := none }) rfl (by rfl) (fun K hK => ?_) Reg.AllG.nil
        go_simp
        (with_reducible refine (WI.out _ wq44002 hr0 _ q1).mono ?_)
        rintro e y44002 ⟨A3, n3, c3, rfl, hn3, q2', hx⟩
        refine hK.out _ _ trivial hx ?_
        clear hK K
        have hr0 := hr0.trans hx
        have q1 := q1.since hx
        clear hx
        try simp only [Act.put, List.setIfInBounds_toArray, List.set_cons_zero, List.set_cons_succ]
        refine' Reg.tk (i := 15) (oi := { dst := some 11, op := Op.assign (Operand.tmp 100), type := 30, pos := "ref.go:96", after := #[{ on := 14, ground := Ground.data }, { on := 14, ground := Ground.chain }, { on := 0, ground := Ground.phase }, { on := 1, ground := Ground.phase }, { on := 2, ground := Ground.phase }, { on := 3, ground := Ground.phase }, { on := 4, ground := Ground.phase }, { on := 5, ground := Ground.phase }, { on := 6, ground := Ground.phase }, { on := 7, ground := Ground.phase }, { on := 8, ground := Ground.phase }, { on := 9, ground := Ground.phase }, { on := 10, ground := Ground.phase }, { on := 11, ground := Ground.phase }, { on := 12, ground := Ground.phase }, { on := 13, ground := Ground.phase }, { on := 14, ground := Ground.phase }], guard := none }) (v := _) [] [] (Or.inl ⟨by rfl, Or.inl ?hy57⟩) ?rest57
        case hy57 => (intro w' kk ss; have qa := CA.out _ (hr0.trans kk); have qx := CX.out _ (hr0.trans kk); have qd := CD.out _ (hr0.trans kk); have qe := CE.out _ (hr0.trans kk); go_simp; first | done | with_reducible rfl)
        try simp only [Act.put, List.setIfInBounds_toArray, List.set_cons_zero, List.set_cons_succ]
        refine Reg.wpG_done (by kernel_rfl) (fun we ke se => ?_) _
        refine NoPanic.normal ?_
        have hr0 := hr0.trans ke
        have q1 := q1.since ke
        have q2' := q2'.since ke
        clear ke
        go_wp2
        go_roundw
        case rel => exact ⟨k + 1, A3, c3, _, by go_num, by rw [← hn3, HLE.out], by omega, Lib.hid (by rw [← hn3, HLE.out] at q2'; exact q2'), RD2, Lib.hid (HLE.out _), ST2, Lib.hid (HW.out.trans hr0)⟩
        case measure => simp [intOf]; omega
      · have ST2 := Lib.hid (show allD r (T.drop (k + 1)) E = allD r T D by rw [← ST.out]; simp only [cutD]; rw [if_neg c1, if_neg c2])
        go_wp2
        go_roundw
        case rel => exact ⟨k + 1, _, oc, E, by go_num, rfl, by omega, HEA, HER, HEL, ST2, HW⟩
        case measure => simp [intOf]; omega
    · obtain rfl : k = n := by omega
      have hE : E = allD r T D := by rw [← HEE.out, List.drop_of_length_le (by have := HTL.out; omega)]; rfl
      have HK2 := Lib.hid (show (if E.any List.isEmpty then none else some E) = R by rw [hE]; exact HK.out)
      have EM := Lib.hid (rempty_any _ E wr (show Sl 1 QD wr (.slice OB nd oc) E from HEA.out) (by have := HEL.out; omega))
      cases hb : E.any List.isEmpty with
      | true =>
        rw [hb] at HK2 EM
        go_wp2_with (go_at_call 139; (with_reducible refine EM.out.mono ?_); rintro e w2 ⟨rfl, k2, -⟩; have K2 := Lib.hid k2; clear k2)
        go_ret2
        exact .no HK2.out.symm rfl (HW.out.trans K2.out)
      | false =>
        rw [hb] at HK2 EM
        go_wp2_with (go_at_call 139; (with_reducible refine EM.out.mono ?_); rintro e w2 ⟨rfl, k2, -⟩; have K2 := Lib.hid k2; clear k2)
        go_ret2
        exact .yes HK2.out.symm rfl HEL.out (HEA.out.since K2.out) (HW.out.trans K2.out)
section
open Go.RowKit
set_option linter.unusedVariables false
set_option linter.unusedSimpArgs false
open Go.Proofs.Ytoegbgkgenjplaa.Dig Go.Proofs.Ytoegbgkgenjplaa.Lx Go.Proofs.Ytoegbgkgenjplaa.Tk Go.Proofs.Ytoegbgkgenjplaa.Ti Go.Proofs.Ytoegbgkgenjplaa.Zs Go.Proofs.Ytoegbgkgenjplaa.Tr Go.Proofs.Ytoegbgkgenjplaa.Sn
theorem without_ne {d : List Rn} (h : right d = true) (hd : d ≠ []) (hne : lo d ≠ hi d) (v : Int) : without d v ≠ [] := fun e => by
  have h1 := (without_ok d v h).2
  rw [e] at h1
  by_cases c : lo d = v
  · exact (h1 (hi d)).2 ⟨hi_mem d h hd, fun e => hne (c.trans e.symm)⟩
  · exact (h1 (lo d)).2 ⟨lo_mem h hd, c⟩
theorem rwithout_at {B : Option Addr} {m cB : Nat} {d : List Rn} {w : World} (hS : Sl 2 QR w (.slice B m cB) d) (hr : right d = true) (W : World) (k : Since w W) (a a' : Int) (ha : a' = a) (hf : fits a) :
    Calls Try.prog 140 #[.slice B m cB, .int .i64 a'] W (fun e w' => ∃ A2 m2 c2, e = .returned (.slice A2 m2 c2) ∧ (without d a).length = m2 ∧ RAt w' (.slice A2 m2 c2) (without d a) ∧ Since W w') := by
  subst ha
  exact rwithout_any _ d a' W (hS.since stR k) (right_len hr) (okF_bd hr (Int.le_refl _)) hf
/-- the last one that is open stands at this place -/
def At (T : List Tm) (l : List Tm) (at_ : Nat) : Prop := l ≠ [] → ∃ t, l.getLast? = some t ∧ T[at_]? = some t
set_option maxRecDepth 20000 in
set_option maxHeartbeats 3000000 in
theorem rkeepNot_any (va vx vd : Value) (a x : List Int) (cn : Int) (D : Ds) (w : World) (h : LinIn w va vx vd a x D) (hc : -1048576 ≤ cn ∧ cn ≤ 1048576) (hdl : D.length ≤ 64) :
    Calls Try.prog 114 #[va, vx, .int .i64 cn, vd] w (RetK (neL cn (tms a x D) D) w) := by
  obtain ⟨h1, h2, h3, hG, hx, hl, ha, hw⟩ := h
  have hTB := tms_bt hG hx hw
  obtain ⟨T, hT⟩ : ∃ T, T = tms a x D := ⟨_, rfl⟩
  have HTA := Lib.hid (fun k (hk : k < a.length) (hk2 : k < x.length) => show T[k]? = some (tm D (a[k], x[k])) by rw [hT]; exact tms_at hl hk)
  rw [← hT] at hTB ⊢
  obtain ⟨R, hR⟩ : ∃ R, R = neW (cn - fsum T) (T.filter opn) D := ⟨_, rfl⟩
  rw [show neL cn T D = R by rw [hR, neL]]
  have hTL : T.length = a.length := by rw [hT]; exact tms_len hl
  have hsb := fsum_bd hTB
  obtain ⟨S, hS⟩ : ∃ S, S = fsum T := ⟨_, rfl⟩
  rw [← hS] at hsb hR
  have hS1 : -1099511627776000 ≤ S := by omega
  have hS2 : S ≤ 1099511627776000 := by omega
  obtain ⟨hc1, hc2⟩ := hc
  obtain ⟨A, ca, rfl⟩ := h1.form
  obtain ⟨X, xc, rfl⟩ := h2.form
  obtain ⟨DA, dc, rfl⟩ := h3.form
  obtain ⟨n, hn⟩ : ∃ n, n = a.length := ⟨_, rfl⟩
  obtain ⟨nx, hnx⟩ : ∃ n, n = x.length := ⟨_, rfl⟩
  obtain ⟨nd, hnd⟩ : ∃ n, n = D.length := ⟨_, rfl⟩
  rw [← hn] at h1 ha hTL ⊢
  rw [← hnx] at h2 ⊢
  rw [← hnd] at h3 hdl ⊢
  have H1 := Lib.hid h1
  have H2 := Lib.hid h2
  have H3 := Lib.hid h3
  have HN := Lib.hid hn
  have HNX := Lib.hid hnx
  have HND := Lib.hid hnd
  have HL := Lib.hid hl
  have HG := Lib.hid hG
  have HTB := Lib.hid hTB
  have HTL := Lib.hid hTL
  have HR := Lib.hid hR
  have HS := Lib.hid hS
  have HX := Lib.hid (fun k (hk : k < x.length) => isV_at hx hk)
  clear h1 h2 h3 hG hx hl hw hT hTB hn hnx hnd hR hTL hsb hS
  go_enter Try.func114, Try.ntmps114
  go_wp2
  go_loopw [10, 11, 12, 13] (fun om at_ s i wr => ∃ (k m q : Nat) (z : Int), i = .int .i64 (k : Int) ∧ om = .int .i64 (m : Int) ∧ at_ = .int .i64 (q : Int) ∧ s = .int .i64 z ∧ k ≤ n ∧ m ≤ k ∧ -1099511627776 * (k : Int) ≤ z ∧ z ≤ 1099511627776 * (k : Int) ∧ Hid (((T.take k).filter opn).length = m) ∧ Hid (At T ((T.take k).filter opn) q) ∧ Hid (z + fsum (T.drop k) = S) ∧ Hid (Since w wr)) (fun _ _ _ i _ => n - (intOf i).toNat)
  case atStart => exact ⟨0, 0, 0, 0, rfl, rfl, rfl, rfl, Nat.zero_le _, Nat.le_refl _, by omega, by omega, rfl, Lib.hid (fun h => absurd rfl h), Lib.hid (by rw [HS.out]; exact Int.zero_add _), Since.refl _⟩
  case round =>
    obtain ⟨k, m, q, z, rfl, rfl, rfl, rfl, hk, hm, hz1, hz2, HM, HA, HE, HW⟩ := hrel
    by_cases hkn : k < n
    · have hka : k < a.length := by have := HN.out; omega
      have hkx : k < x.length := by have := HL.out; omega
      have hknx : k < nx := by have := HNX.out; omega
      have hkT : k < T.length := by rw [HTL.out]; exact hkn
      obtain ⟨ga, oa, rfl, ea⟩ := elI (H1.out.since stI HW.out) hka
      obtain ⟨gx, ox, rfl, ex⟩ := elI (H2.out.since stI HW.out) hkx
      obtain ⟨j, hj, hjl⟩ := HX.out k hkx
      have hjn : j < nd := by have := HND.out; omega
      obtain ⟨gd, od, B, cB, rfl, hS, ed⟩ := elD (H3.out.since stD HW.out) hjl
      have hgd := HG.out _ (List.getElem_mem hjl)
      have hTa := HTA.out k hka hkx
      have hTk := List.getElem?_eq_getElem hkT
      rw [List.getElem?_eq_getElem hkT] at hTa
      injection hTa with hTa
      have hbt := HTB.out _ (List.getElem_mem hkT)
      have hst := HE.out
      have hft := filter_take hkT
      rw [dropT hkT, fsum] at hst
      have hdm : domAt D (x[k]) = D[j] := by rw [hj]; simp [domAt, hjl]
      have hE : tm D (a[k], x[k]) = ⟨a[k], lo D[j], hi D[j], (j : Int)⟩ := by simp only [tm]; rw [hdm, hj]
      rw [hTa, hE] at hst hbt hft hTk
      rw [hj] at ex
      simp only [Bt] at hbt
      have LO := Lib.hid (fun W (kk : Since wr W) => rlo_any hS hgd.2 W kk)
      have FI := Lib.hid (fun W (kk : Since wr W) => rfixed_any hS hgd.2 (right_len hgd.1) W kk)
      obtain ⟨hb1, hb2, hb3, -⟩ := hbt
      obtain ⟨p1, p2⟩ := prod_le hb1 hb2
      generalize a[k] = y at *
      generalize lo D[j] = dlo at *
      generalize hi D[j] = dhi at *
      generalize D[j].length = dl at *
      have ON := Lib.hid (fun h => opn_no (t := ⟨y, dlo, dhi, (j : Int)⟩) h)
      have OY := Lib.hid (fun h1 h2 => opn_yes (t := ⟨y, dlo, dhi, (j : Int)⟩) h1 h2)
      simp only at ON OY
      have CA := Lib.hid (fun W (kk : Since wr W) => show W.cell? ⟨ga, oa + k, none⟩ = some (.int .i64 y) from (kk.cell _ (World.block_lt_of_cell? _ _ ea)).trans ea)
      have CX := Lib.hid (fun W (kk : Since wr W) => show W.cell? ⟨gx, ox + k, none⟩ = some (.int .i64 (j : Int)) from (kk.cell _ (World.block_lt_of_cell? _ _ ex)).trans ex)
      have CD := Lib.hid (fun W (kk : Since wr W) => show W.cell? ⟨gd, od + j, none⟩ = some (.slice B dl cB) from (kk.cell _ (World.block_lt_of_cell? _ _ ed)).trans ed)
      have FF := Lib.hid (fun (h : dlo = dhi) => show (dlo == dhi) = true by rw [h]; exact beq_self_eq_true _)
      have FN := Lib.hid (fun (h : dlo ≠ dhi) => show (dlo == dhi) = false from beq_eq_false_iff_ne.2 h)
      have ST := Lib.hid hst
      have FT := Lib.hid hft
      have TK := Lib.hid hTk
      have NOP := Lib.hid (fun (h : opn ⟨y, dlo, dhi, (j : Int)⟩ = false) => show (T.take (k + 1)).filter opn = (T.take k).filter opn by rw [FT.out, if_neg (by rw [h]; simp), List.append_nil])
      have YOP := Lib.hid (fun (h : opn ⟨y, dlo, dhi, (j : Int)⟩ = true) => show (T.take (k + 1)).filter opn = (T.take k).filter opn ++ [⟨y, dlo, dhi, (j : Int)⟩] by rw [FT.out, if_pos h])
      clear hst hft hTk hS hgd hTa hdm hE hka hkx hkT hj hjl hb2 hb3 HE
      by_cases c1 : y = 0
      · have N1 := Lib.hid (NOP.out (ON.out (.inl c1)))
        have E1 := Lib.hid (show z + fsum (T.drop (k + 1)) = S by have h := ST.out; rw [if_neg (by rw [ON.out (.inl c1)]; simp)] at h; simp only at h; rw [c1, Int.zero_mul] at h; omega)
        subst c1
        have W0 : IntKind.i64.wrap 0 = 0 := rfl
        have WZ : IntKind.i64.wrap z = z := wrap_id' (by omega) (by omega)
        clear ST FT YOP NOP OY ON p1 p2
        go_wp2
        have hr0 : Since wr wr.drew := Since.drew (Since.refl wr)
        refine wp_region_noPanic ?_
        refine Reg.wp_region_G (S := fun _ => True) (fun j => [].contains j) (by kernel_rfl) trivial ?_
        refine' Reg.tk (i := 0) (oi := { dst := some 37, op := Op.move (Operand.tmp 12), type := 2, pos := "ref.go:107", after := #[], guard := none }) (v := _) [14, 15] [] (Or.inl ⟨by rfl, Or.inl ?hy2⟩) ?rest2
        case hy2 => (intro w' kk ss; have qa := CA.out _ (hr0.trans kk); have qx := CX.out _ (hr0.trans kk); have qd := CD.out _ (hr0.trans kk); go_simp; first | done | with_reducible rfl)
        try simp only [Act.put, List.setIfInBounds_toArray, List.set_cons_zero, List.set_cons_succ]
        refine' Reg.tk (i := 1) (oi := { dst := some 38, op := Op.move (Operand.tmp 0), type := 23, pos := "ref.go:107", after := #[], guard := none }) (v := _) [3, 4, 13, 14, 15] [] (Or.inl ⟨by rfl, Or.inl ?hy3⟩) ?rest3
        case hy3 => (intro w' kk ss; have qa := CA.out _ (hr0.trans kk); have qx := CX.out _ (hr0.trans kk); have qd := CD.out _ (hr0.trans kk); go_simp; first | done | with_reducible rfl)
        try simp only [Act.put, List.setIfInBounds_toArray, List.set_cons_zero, List.set_cons_succ]
        refine' Reg.tk (i := 2) (oi := { dst := some 39, op := Op.move (Operand.tmp 13), type := 3, pos := "ref.go:107", after := #[], guard := none }) (v := _) [3, 4, 13, 14, 15] [] (Or.inl ⟨by rfl, Or.inl ?hy4⟩) ?rest4
        case hy4 => (intro w' kk ss; have qa := CA.out _ (hr0.trans kk); have qx := CX.out _ (hr0.trans kk); have qd := CD.out _ (hr0.trans kk); go_simp; first | done | with_reducible rfl)
        try simp only [Act.put, List.setIfInBounds_toArray, List.set_cons_zero, List.set_cons_succ]
        refine' Reg.tk (i := 3) (oi := { dst := some 40, op := Op.indexAddr 23 (Operand.tmp 38) (Operand.tmp 39), type := 0, pos := "ref.go:107", after := #[{ on := 1, ground := Ground.data }, { on := 2, ground := Ground.data }], guard := none }) (v := _) [4, 13, 14, 15] [] (Or.inl ⟨by rfl, Or.inl ?hy5⟩) ?rest5
        case hy5 => (intro w' kk ss; have qa := CA.out _ (hr0.trans kk); have qx := CX.out _ (hr0.trans kk); have qd := CD.out _ (hr0.trans kk); go_simp; first | done | with_reducible rfl)
        try simp only [Act.put, List.setIfInBounds_toArray, List.set_cons_zero, List.set_cons_succ]
        refine' Reg.tk (i := 4) (oi := { dst := some 41, op := Op.load 2 (Operand.tmp 40), type := 2, pos := "ref.go:107", after := #[{ on := 3, ground := Ground.data }], guard := none }) (v := _) [13, 14, 15] [] (Or.inl ⟨by rfl, Or.inl ?hy6⟩) ?rest6
        case hy6 => (intro w' kk ss; have qa := CA.out _ (hr0.trans kk); have qx := CX.out _ (hr0.trans kk); have qd := CD.out _ (hr0.trans kk); go_simp; first | done | with_reducible rfl)
        try simp only [Act.put, List.setIfInBounds_toArray, List.set_cons_zero, List.set_cons_succ]
        refine' Reg.tk (i := 5) (oi := { dst := some 42, op := Op.move (Operand.tmp 3), type := 30, pos := "ref.go:107", after := #[], guard := none }) (v := _) [10, 11, 12, 13, 14, 15] [] (Or.inl ⟨by rfl, Or.inl ?hy7⟩) ?rest7
        case hy7 => (intro w' kk ss; have qa := CA.out _ (hr0.trans kk); have qx := CX.out _ (hr0.trans kk); have qd := CD.out _ (hr0.trans kk); go_simp; first | done | with_reducible rfl)
        try simp only [Act.put, List.setIfInBounds_toArray, List.set_cons_zero, List.set_cons_succ]
        refine' Reg.tk (i := 6) (oi := { dst := some 43, op := Op.move (Operand.tmp 1), type := 22, pos := "ref.go:107", after := #[], guard := none }) (v := _) [8, 9, 10, 11, 12, 13, 14, 15] [] (Or.inl ⟨by rfl, Or.inl ?hy8⟩) ?rest8
        case hy8 => (intro w' kk ss; have qa := CA.out _ (hr0.trans kk); have qx := CX.out _ (hr0.trans kk); have qd := CD.out _ (hr0.trans kk); go_simp; first | done | with_reducible rfl)
        try simp only [Act.put, List.setIfInBounds_toArray, List.set_cons_zero, List.set_cons_succ]
        refine' Reg.tk (i := 7) (oi := { dst := some 44, op := Op.move (Operand.tmp 13), type := 3, pos := "ref.go:107", after := #[], guard := none }) (v := _) [8, 9, 10, 11, 12, 13, 14, 15] [] (Or.inl ⟨by rfl, Or.inl ?hy9⟩) ?rest9
        case hy9 => (intro w' kk ss; have qa := CA.out _ (hr0.trans kk); have qx := CX.out _ (hr0.trans kk); have qd := CD.out _ (hr0.trans kk); go_simp; first | done | with_reducible rfl)
        try simp only [Act.put, List.setIfInBounds_toArray, List.set_cons_zero, List.set_cons_succ]
        refine' Reg.tk (i := 8) (oi := { dst := some 45, op := Op.indexAddr 22 (Operand.tmp 43) (Operand.tmp 44), type := 0, pos := "ref.go:107", after := #[{ on := 6, ground := Ground.data }, { on := 7, ground := Ground.data }], guard := none }) (v := _) [9, 10, 11, 12, 13, 14, 15] [] (Or.inl ⟨by rfl, Or.inl ?hy10⟩) ?rest10
        case hy10 => (intro w' kk ss; have qa := CA.out _ (hr0.trans kk); have qx := CX.out _ (hr0.trans kk); have qd := CD.out _ (hr0.trans kk); go_simp; first | done | with_reducible rfl)
        try simp only [Act.put, List.setIfInBounds_toArray, List.set_cons_zero, List.set_cons_succ]
        refine' Reg.tk (i := 9) (oi := { dst := some 46, op := Op.load 3 (Operand.tmp 45), type := 3, pos := "ref.go:107", after := #[{ on := 8, ground := Ground.data }], guard := none }) (v := _) [10, 11, 12, 13, 14, 15] [] (Or.inl ⟨by rfl, Or.inl ?hy11⟩) ?rest11
        case hy11 => (intro w' kk ss; have qa := CA.out _ (hr0.trans kk); have qx := CX.out _ (hr0.trans kk); have qd := CD.out _ (hr0.trans kk); go_simp; first | done | with_reducible rfl)
        try simp only [Act.put, List.setIfInBounds_toArray, List.set_cons_zero, List.set_cons_succ]
        refine' Reg.tk (i := 10) (oi := { dst := some 47, op := Op.indexAddr 30 (Operand.tmp 42) (Operand.tmp 46), type := 0, pos := "ref.go:107", after := #[{ on := 5, ground := Ground.data }, { on := 9, ground := Ground.data }], guard := none }) (v := _) [11, 12, 13, 14, 15] [] (Or.inl ⟨by rfl, Or.inl ?hy12⟩) ?rest12
        case hy12 => (intro w' kk ss; have qa := CA.out _ (hr0.trans kk); have qx := CX.out _ (hr0.trans kk); have qd := CD.out _ (hr0.trans kk); go_simp; first | done | with_reducible rfl)
        try simp only [Act.put, List.setIfInBounds_toArray, List.set_cons_zero, List.set_cons_succ]
        refine' Reg.tk (i := 11) (oi := { dst := some 48, op := Op.load 50 (Operand.tmp 47), type := 50, pos := "ref.go:107", after := #[{ on := 10, ground := Ground.data }], guard := none }) (v := _) [12, 13, 14, 15] [] (Or.inl ⟨by rfl, Or.inl ?hy13⟩) ?rest13
        case hy13 => (intro w' kk ss; have qa := CA.out _ (hr0.trans kk); have qx := CX.out _ (hr0.trans kk); have qd := CD.out _ (hr0.trans kk); go_simp; first | done | with_reducible rfl)
        try simp only [Act.put, List.setIfInBounds_toArray, List.set_cons_zero, List.set_cons_succ]
        refine Reg.tk (i := 12) (oi := { dst := some 49, op := Op.call { callee := Callee.value (Operand.func 75), args := #[Operand.tmp 48], argTypes := #[50] }, type := 2, pos := "ref.go:107", after := #[{ on := 11, ground := Ground.data }], guard := none }) (v := .int .i64 dlo) [13, 14, 15] [] (Or.inl ⟨by rfl, Or.inr ⟨75, #[.slice B dl cB], fun w' kk ss => ⟨?_, ?_⟩⟩⟩) ?_
        · (try dsimp only at ss); go_simp
        · exact LO.out w' (hr0.trans kk)
        try simp only [Act.put, List.setIfInBounds_toArray, List.set_cons_zero, List.set_cons_succ]
        refine' Reg.tk (i := 13) (oi := { dst := some 50, op := Op.binOp BinOp.mul 2 (Operand.tmp 41) (Operand.tmp 49) 2, type := 2, pos := "ref.go:107", after := #[{ on := 4, ground := Ground.data }, { on := 12, ground := Ground.data }], guard := none }) (v := _) [14, 15] [] (Or.inl ⟨by rfl, Or.inl ?hy14⟩) ?rest14
        case hy14 => (intro w' kk ss; have qa := CA.out _ (hr0.trans kk); have qx := CX.out _ (hr0.trans kk); have qd := CD.out _ (hr0.trans kk); go_simp; first | done | with_reducible rfl)
        try simp only [Act.put, List.setIfInBounds_toArray, List.set_cons_zero, List.set_cons_succ]
        refine' Reg.tk (i := 14) (oi := { dst := some 51, op := Op.binOp BinOp.add 2 (Operand.tmp 37) (Operand.tmp 50) 2, type := 2, pos := "ref.go:107", after := #[{ on := 0, ground := Ground.data }, { on := 13, ground := Ground.data }], guard := none }) (v := _) [15] [] (Or.inl ⟨by rfl, Or.inl ?hy15⟩) ?rest15
        case hy15 => (intro w' kk ss; have qa := CA.out _ (hr0.trans kk); have qx := CX.out _ (hr0.trans kk); have qd := CD.out _ (hr0.trans kk); go_simp; first | done | with_reducible rfl)
        try simp only [Act.put, List.setIfInBounds_toArray, List.set_cons_zero, List.set_cons_succ]
        refine' Reg.tk (i := 15) (oi := { dst := some 12, op := Op.assign (Operand.tmp 51), type := 2, pos := "ref.go:107", after := #[{ on := 14, ground := Ground.data }, { on := 12, ground := Ground.chain }, { on := 0, ground := Ground.phase }, { on := 1, ground := Ground.phase }, { on := 2, ground := Ground.phase }, { on := 3, ground := Ground.phase }, { on := 4, ground := Ground.phase }, { on := 5, ground := Ground.phase }, { on := 6, ground := Ground.phase }, { on := 7, ground := Ground.phase }, { on := 8, ground := Ground.phase }, { on := 9, ground := Ground.phase }, { on := 10, ground := Ground.phase }, { on := 11, ground := Ground.phase }, { on := 12, ground := Ground.phase }, { on := 13, ground := Ground.phase }, { on := 14, ground := Ground.phase }], guard := none }) (v := _) [] [] (Or.inl ⟨by rfl, Or.inl ?hy16⟩) ?rest16
        case hy16 => (intro w' kk ss; have qa := CA.out _ (hr0.trans kk); have qx := CX.out _ (hr0.trans kk); have qd := CD.out _ (hr0.trans kk); go_simp; first | done | with_reducible rfl)
        try simp only [Act.put, List.setIfInBounds_toArray, List.set_cons_zero, List.set_cons_succ]
        refine Reg.wpG_done (by kernel_rfl) (fun we ke se => ?_) _
        refine NoPanic.normal ?_
        have hr0 := hr0.trans ke
        clear ke
        go_wp2
        go_roundw
        case rel => exact ⟨k + 1, m, q, z, by go_num, rfl, rfl, rfl, by omega, by omega, by omega, by omega, Lib.hid (by rw [N1.out]; exact HM.out), Lib.hid (by rw [N1.out]; exact HA.out), E1, Lib.hid (HW.out.trans hr0)⟩
        case measure => simp [intOf]; omega
      by_cases c2 : dlo = dhi
      · have N1 := Lib.hid (NOP.out (ON.out (.inr c2)))
        obtain ⟨p, hp⟩ : ∃ p, y * dlo = p := ⟨_, rfl⟩
        rw [hp] at p1 p2
        have E1 := Lib.hid (show z + p + fsum (T.drop (k + 1)) = S by rw [← ST.out, if_neg (by rw [ON.out (.inr c2)]; simp), hp]; omega)
        have FA1 := FI
        rw [FF.out c2] at FA1
        subst c2
        have W1 : IntKind.i64.wrap (y * dlo) = p := by rw [hp]; exact wrap_id' (by omega) (by omega)
        have WZ : IntKind.i64.wrap (z + p) = z + p := wrap_id' (by omega) (by omega)
        clear ST FT YOP NOP OY ON FI FF FN hp
        go_wp2_with (go_at_call 37; (with_reducible refine (FA1.out _ (Since.refl _)).mono ?_); rintro e w2 ⟨rfl, k2, -⟩; have K2 := Lib.hid k2; clear k2)
        have hr0 : Since w2 w2.drew := Since.drew (Since.refl w2)
        refine wp_region_noPanic ?_
        refine Reg.wp_region_G (S := fun _ => True) (fun j => [].contains j) (by kernel_rfl) trivial ?_
        refine' Reg.tk (i := 0) (oi := { dst := some 37, op := Op.move (Operand.tmp 12), type := 2, pos := "ref.go:107", after := #[], guard := none }) (v := _) [14, 15] [] (Or.inl ⟨by rfl, Or.inl ?hy18⟩) ?rest18
        case hy18 => (intro w' kk ss; have qa := CA.out _ (K2.out.trans (hr0.trans kk)); have qx := CX.out _ (K2.out.trans (hr0.trans kk)); have qd := CD.out _ (K2.out.trans (hr0.trans kk)); go_simp; first | done | with_reducible rfl)
        try simp only [Act.put, List.setIfInBounds_toArray, List.set_cons_zero, List.set_cons_succ]
        refine' Reg.tk (i := 1) (oi := { dst := some 38, op := Op.move (Operand.tmp 0), type := 23, pos := "ref.go:107", after := #[], guard := none }) (v := _) [3, 4, 13, 14, 15] [] (Or.inl ⟨by rfl, Or.inl ?hy19⟩) ?rest19
        case hy19 => (intro w' kk ss; have qa := CA.out _ (K2.out.trans (hr0.trans kk)); have qx := CX.out _ (K2.out.trans (hr0.trans kk)); have qd := CD.out _ (K2.out.trans (hr0.trans kk)); go_simp; first | done | with_reducible rfl)
        try simp only [Act.put, List.setIfInBounds_toArray, List.set_cons_zero, List.set_cons_succ]
        refine' Reg.tk (i := 2) (oi := { dst := some 39, op := Op.move (Operand.tmp 13), type := 3, pos := "ref.go:107", after := #[], guard := none }) (v := _) [3, 4, 13, 14, 15] [] (Or.inl ⟨by rfl, Or.inl ?hy20⟩) ?rest20
        case hy20 => (intro w' kk ss; have qa := CA.out _ (K2.out.trans (hr0.trans kk)); have qx := CX.out _ (K2.out.trans (hr0.trans kk)); have qd := CD.out _ (K2.out.trans (hr0.trans kk)); go_simp; first | done | with_reducible rfl)
        try simp only [Act.put, List.setIfInBounds_toArray, List.set_cons_zero, List.set_cons_succ]
        refine' Reg.tk (i := 3) (oi := { dst := some 40, op := Op.indexAddr 23 (Operand.tmp 38) (Operand.tmp 39), type := 0, pos := "ref.go:107", after := #[{ on := 1, ground := Ground.data }, { on := 2, ground := Ground.data }], guard := none }) (v := _) [4, 13, 14, 15] [] (Or.inl ⟨by rfl, Or.inl ?hy21⟩) ?rest21
        case hy21 => (intro w' kk ss; have qa := CA.out _ (K2.out.trans (hr0.trans kk)); have qx := CX.out _ (K2.out.trans (hr0.trans kk)); have qd := CD.out _ (K2.out.trans (hr0.trans kk)); go_simp; first | done | with_reducible rfl)
        try simp only [Act.put, List.setIfInBounds_toArray, List.set_cons_zero, List.set_cons_succ]
        refine' Reg.tk (i := 4) (oi := { dst := some 41, op := Op.load 2 (Operand.tmp 40), type := 2, pos := "ref.go:107", after := #[{ on := 3, ground := Ground.data }], guard := none }) (v := _) [13, 14, 15] [] (Or.inl ⟨by rfl, Or.inl ?hy22⟩) ?rest22
        case hy22 => (intro w' kk ss; have qa := CA.out _ (K2.out.trans (hr0.trans kk)); have qx := CX.out _ (K2.out.trans (hr0.trans kk)); have qd := CD.out _ (K2.out.trans (hr0.trans kk)); go_simp; first | done | with_reducible rfl)
        try simp only [Act.put, List.setIfInBounds_toArray, List.set_cons_zero, List.set_cons_succ]
        refine' Reg.tk (i := 5) (oi := { dst := some 42, op := Op.move (Operand.tmp 3), type := 30, pos := "ref.go:107", after := #[], guard := none }) (v := _) [10, 11, 12, 13, 14, 15] [] (Or.inl ⟨by rfl, Or.inl ?hy23⟩) ?rest23
        case hy23 => (intro w' kk ss; have qa := CA.out _ (K2.out.trans (hr0.trans kk)); have qx := CX.out _ (K2.out.trans (hr0.trans kk)); have qd := CD.out _ (K2.out.trans (hr0.trans kk)); go_simp; first | done | with_reducible rfl)
        try simp only [Act.put, List.setIfInBounds_toArray, List.set_cons_zero, List.set_cons_succ]
        refine' Reg.tk (i := 6) (oi := { dst := some 43, op := Op.move (Operand.tmp 1), type := 22, pos := "ref.go:107", after := #[], guard := none }) (v := _) [8, 9, 10, 11, 12, 13, 14, 15] [] (Or.inl ⟨by rfl, Or.inl ?hy24⟩) ?rest24
        case hy24 => (intro w' kk ss; have qa := CA.out _ (K2.out.trans (hr0.trans kk)); have qx := CX.out _ (K2.out.trans (hr0.trans kk)); have qd := CD.out _ (K2.out.trans (hr0.trans kk)); go_simp; first | done | with_reducible rfl)
        try simp only [Act.put, List.setIfInBounds_toArray, List.set_cons_zero, List.set_cons_succ]
        refine' Reg.tk (i := 7) (oi := { dst := some 44, op := Op.move (Operand.tmp 13), type := 3, pos := "ref.go:107", after := #[], guard := none }) (v := _) [8, 9, 10, 11, 12, 13, 14, 15] [] (Or.inl ⟨by rfl, Or.inl ?hy25⟩) ?rest25
        case hy25 => (intro w' kk ss; have qa := CA.out _ (K2.out.trans (hr0.trans kk)); have qx := CX.out _ (K2.out.trans (hr0.trans kk)); have qd := CD.out _ (K2.out.trans (hr0.trans kk)); go_simp; first | done | with_reducible rfl)
        try simp only [Act.put, List.setIfInBounds_toArray, List.set_cons_zero, List.set_cons_succ]
        refine' Reg.tk (i := 8) (oi := { dst := some 45, op := Op.indexAddr 22 (Operand.tmp 43) (Operand.tmp 44), type := 0, pos := "ref.go:107", after := #[{ on := 6, ground := Ground.data }, { on := 7, ground := Ground.data }], guard := none }) (v := _) [9, 10, 11, 12, 13, 14, 15] [] (Or.inl ⟨by rfl, Or.inl ?hy26⟩) ?rest26
        case hy26 => (intro w' kk ss; have qa := CA.out _ (K2.out.trans (hr0.trans kk)); have qx := CX.out _ (K2.out.trans (hr0.trans kk)); have qd := CD.out _ (K2.out.trans (hr0.trans kk)); go_simp; first | done | with_reducible rfl)
        try simp only [Act.put, List.setIfInBounds_toArray, List.set_cons_zero, List.set_cons_succ]
        refine' Reg.tk (i := 9) (oi := { dst := some 46, op := Op.load 3 (Operand.tmp 45), type := 3, pos := "ref.go:107", after := #[{ on := 8, ground := Ground.data }], guard := none }) (v := _) [10, 11, 12, 13, 14, 15] [] (Or.inl ⟨by rfl, Or.inl ?hy27⟩) ?rest27
        case hy27 => (intro w' kk ss; have qa := CA.out _ (K2.out.trans (hr0.trans kk)); have qx := CX.out _ (K2.out.trans (hr0.trans kk)); have qd := CD.out _ (K2.out.trans (hr0.trans kk)); go_simp; first | done | with_reducible rfl)
        try simp only [Act.put, List.setIfInBounds_toArray, List.set_cons_zero, List.set_cons_succ]
        refine' Reg.tk (i := 10) (oi := { dst := some 47, op := Op.indexAddr 30 (Operand.tmp 42) (Operand.tmp 46), type := 0, pos := "ref.go:107", after := #[{ on := 5, ground := Ground.data }, { on := 9, ground := Ground.data }], guard := none }) (v := _) [11, 12, 13, 14, 15] [] (Or.inl ⟨by rfl, Or.inl ?hy28⟩) ?rest28
        case hy28 => (intro w' kk ss; have qa := CA.out _ (K2.out.trans (hr0.trans kk)); have qx := CX.out _ (K2.out.trans (hr0.trans kk)); have qd := CD.out _ (K2.out.trans (hr0.trans kk)); go_simp; first | done | with_reducible rfl)
        try simp only [Act.put, List.setIfInBounds_toArray, List.set_cons_zero, List.set_cons_succ]
        refine' Reg.tk (i := 11) (oi := { dst := some 48, op := Op.load 50 (Operand.tmp 47), type := 50, pos := "ref.go:107", after := #[{ on := 10, ground := Ground.data }], guard := none }) (v := _) [12, 13, 14, 15] [] (Or.inl ⟨by rfl, Or.inl ?hy29⟩) ?rest29
        case hy29 => (intro w' kk ss; have qa := CA.out _ (K2.out.trans (hr0.trans kk)); have qx := CX.out _ (K2.out.trans (hr0.trans kk)); have qd := CD.out _ (K2.out.trans (hr0.trans kk)); go_simp; first | done | with_reducible rfl)
        try simp only [Act.put, List.setIfInBounds_toArray, List.set_cons_zero, List.set_cons_succ]
        refine Reg.tk (i := 12) (oi := { dst := some 49, op := Op.call { callee := Callee.value (Operand.func 75), args := #[Operand.tmp 48], argTypes := #[50] }, type := 2, pos := "ref.go:107", after := #[{ on := 11, ground := Ground.data }], guard := none }) (v := .int .i64 dlo) [13, 14, 15] [] (Or.inl ⟨by rfl, Or.inr ⟨75, #[.slice B dl cB], fun w' kk ss => ⟨?_, ?_⟩⟩⟩) ?_
        · (try dsimp only at ss); go_simp
        · exact LO.out w' (K2.out.trans (hr0.trans kk))
        try simp only [Act.put, List.setIfInBounds_toArray, List.set_cons_zero, List.set_cons_succ]
        refine' Reg.tk (i := 13) (oi := { dst := some 50, op := Op.binOp BinOp.mul 2 (Operand.tmp 41) (Operand.tmp 49) 2, type := 2, pos := "ref.go:107", after := #[{ on := 4, ground := Ground.data }, { on := 12, ground := Ground.data }], guard := none }) (v := _) [14, 15] [] (Or.inl ⟨by rfl, Or.inl ?hy30⟩) ?rest30
        case hy30 => (intro w' kk ss; have qa := CA.out _ (K2.out.trans (hr0.trans kk)); have qx := CX.out _ (K2.out.trans (hr0.trans kk)); have qd := CD.out _ (K2.out.trans (hr0.trans kk)); go_simp; first | done | with_reducible rfl)
        try simp only [Act.put, List.setIfInBounds_toArray, List.set_cons_zero, List.set_cons_succ]
        refine' Reg.tk (i := 14) (oi := { dst := some 51, op := Op.binOp BinOp.add 2 (Operand.tmp 37) (Operand.tmp 50) 2, type := 2, pos := "ref.go:107", after := #[{ on := 0, ground := Ground.data }, { on := 13, ground := Ground.data }], guard := none }) (v := _) [15] [] (Or.inl ⟨by rfl, Or.inl ?hy31⟩) ?rest31
        case hy31 => (intro w' kk ss; have qa := CA.out _ (K2.out.trans (hr0.trans kk)); have qx := CX.out _ (K2.out.trans (hr0.trans kk)); have qd := CD.out _ (K2.out.trans (hr0.trans kk)); go_simp; first | done | with_reducible rfl)
        try simp only [Act.put, List.setIfInBounds_toArray, List.set_cons_zero, List.set_cons_succ]
        refine' Reg.tk (i := 15) (oi := { dst := some 12, op := Op.assign (Operand.tmp 51), type := 2, pos := "ref.go:107", after := #[{ on := 14, ground := Ground.data }, { on := 12, ground := Ground.chain }, { on := 0, ground := Ground.phase }, { on := 1, ground := Ground.phase }, { on := 2, ground := Ground.phase }, { on := 3, ground := Ground.phase }, { on := 4, ground := Ground.phase }, { on := 5, ground := Ground.phase }, { on := 6, ground := Ground.phase }, { on := 7, ground := Ground.phase }, { on := 8, ground := Ground.phase }, { on := 9, ground := Ground.phase }, { on := 10, ground := Ground.phase }, { on := 11, ground := Ground.phase }, { on := 12, ground := Ground.phase }, { on := 13, ground := Ground.phase }, { on := 14, ground := Ground.phase }], guard := none }) (v := _) [] [] (Or.inl ⟨by rfl, Or.inl ?hy32⟩) ?rest32
        case hy32 => (intro w' kk ss; have qa := CA.out _ (K2.out.trans (hr0.trans kk)); have qx := CX.out _ (K2.out.trans (hr0.trans kk)); have qd := CD.out _ (K2.out.trans (hr0.trans kk)); go_simp; first | done | with_reducible rfl)
        try simp only [Act.put, List.setIfInBounds_toArray, List.set_cons_zero, List.set_cons_succ]
        refine Reg.wpG_done (by kernel_rfl) (fun we ke se => ?_) _
        refine NoPanic.normal ?_
        have hr0 := hr0.trans ke
        clear ke
        go_wp2
        go_roundw
        case rel => exact ⟨k + 1, m, q, z + p, by go_num, rfl, rfl, rfl, by omega, by omega, by omega, by omega, Lib.hid (by rw [N1.out]; exact HM.out), Lib.hid (by rw [N1.out]; exact HA.out), E1, Lib.hid (HW.out.trans (K2.out.trans hr0))⟩
        case measure => simp [intOf]; omega
      · have N1 := Lib.hid (YOP.out (OY.out c1 c2))
        have E1 := Lib.hid (show z + fsum (T.drop (k + 1)) = S by rw [← ST.out, if_pos (OY.out c1 c2)]; omega)
        have FA1 := FI
        rw [FN.out c2] at FA1
        clear ST FT YOP NOP OY ON FI FF FN
        go_wp2_with (go_at_call 37; (with_reducible refine (FA1.out _ (Since.refl _)).mono ?_); rintro e w2 ⟨rfl, k2, -⟩; have K2 := Lib.hid k2; clear k2)
        go_roundw
        case rel => exact ⟨k + 1, m + 1, k, z, by go_num, by go_num, rfl, rfl, by omega, by omega, by omega, by omega, Lib.hid (by rw [N1.out, List.length_append, HM.out]; rfl), Lib.hid (fun _ => ⟨_, by rw [N1.out]; simp, TK.out⟩), E1, Lib.hid (HW.out.trans K2.out)⟩
        case measure => simp [intOf]; omega
    · obtain rfl : k = n := by omega
      have hk0 : (T.take k) = T := List.take_of_length_le (by have := HTL.out; omega)
      have hzS : z = S := by rw [← HE.out, List.drop_of_length_le (by have := HTL.out; omega)]; simp [fsum]
      rw [hk0] at HM HA
      subst hzS
      have hrb1 : -1125899906842624 ≤ cn - z := by omega
      have hrb2 : cn - z ≤ 1125899906842624 := by omega
      obtain ⟨rr, hrr⟩ : ∃ rr, cn - z = rr := ⟨_, rfl⟩
      rw [hrr] at HR hrb1 hrb2
      have WR : IntKind.i64.wrap rr = rr := wrap_id' (by omega) (by omega)
      generalize hO : T.filter opn = O at *
      match O, hO, HM, HA, HR with
      | [], hO, HM, HA, HR =>
        have hm0 : m = 0 := HM.out.symm
        subst hm0
        by_cases c0 : z = cn
        · have E1 := Lib.hid (show R = none by rw [HR.out]; exact if_pos (by omega))
          subst c0
          go_wp2
          go_ret2
          exact .no E1.out (by simp) HW.out
        · have E1 := Lib.hid (show R = some D by rw [HR.out]; exact if_neg (by omega))
          go_wp2
          go_ret2
          exact .yes E1.out (by simp [c0]) HND.out.symm (H3.out.since stD HW.out) HW.out
      | t1 :: t2 :: l, hO, HM, HA, HR =>
        have hm0 : 1 < m := by have := HM.out; simp only [List.length_cons] at this; omega
        have E1 := Lib.hid (show R = some D by rw [HR.out]; rfl)
        go_wp2
        go_ret2
        exact .yes E1.out rfl HND.out.symm (H3.out.since stD HW.out) HW.out
      | [t], hO, HM, HA, HR =>
        have hm0 : m = 1 := HM.out.symm
        subst hm0
        have hop : opn t = true := (List.mem_filter.1 (show t ∈ T.filter opn by rw [hO]; simp)).2
        obtain ⟨t', ht1, ht2⟩ := HA.out (by simp)
        have ht3 : t' = t := by simp at ht1; exact ht1.symm
        subst ht3
        have hqT : q < T.length := (List.getElem?_eq_some_iff.1 ht2).1
        have hqn : q < k := by rw [← HTL.out]; exact hqT
        have hqa : q < a.length := by have := HN.out; omega
        have hqx : q < x.length := by have := HL.out; omega
        have hqnx : q < nx := by have := HNX.out; omega
        have hTa := HTA.out q hqa hqx
        rw [ht2] at hTa
        injection hTa with hTa
        obtain ⟨ga, oa, rfl, ea⟩ := elI (H1.out.since stI HW.out) hqa
        obtain ⟨gx, ox, rfl, ex⟩ := elI (H2.out.since stI HW.out) hqx
        obtain ⟨j, hj, hjl⟩ := HX.out q hqx
        have hjn : j < nd := by have := HND.out; omega
        obtain ⟨gd, od, B, cB, rfl, hS, ed⟩ := elD (H3.out.since stD HW.out) hjl
        have hgd := HG.out _ (List.getElem_mem hjl)
        have hdm : domAt D (x[q]) = D[j] := by rw [hj]; simp [domAt, hjl]
        have hE : tm D (a[q], x[q]) = ⟨a[q], lo D[j], hi D[j], (j : Int)⟩ := by simp only [tm]; rw [hdm, hj]
        rw [hE] at hTa
        subst hTa
        rw [hj] at ex
        have hR := HR.out
        simp only [neW] at hR
        have hn0 : a[q] ≠ 0 := by intro e; rw [opn_no (.inl e)] at hop; cases hop
        have hlh : lo D[j] ≠ hi D[j] := by intro e; rw [opn_no (.inr e)] at hop; cases hop
        have hdj : domAt D (j : Int) = D[j] := by simp [domAt, hjl]
        rw [hdj] at hR
        generalize a[q] = y at *
        by_cases c1 : rr.tmod y = 0
        · obtain ⟨qq, hq⟩ : ∃ qq, rr.tdiv y = qq := ⟨_, rfl⟩
          have hqb : qq.natAbs ≤ rr.natAbs := by rw [← hq, Int.natAbs_tdiv]; exact Nat.div_le_self _ _
          have hq1 : -1125899906842624 ≤ qq := by omega
          have hq2 : qq ≤ 1125899906842624 := by omega
          have E1 := Lib.hid (show R = some (D.set j (without D[j] qq)) by rw [hR, if_pos c1, hq]; rfl)
          have WE := Lib.hid (show IntKind.i64.wrap qq = qq from wrap_id' (by omega) (by omega))
          have hqf : fits qq := by unfold fits; omega
          have hNE := without_ne hgd.1 hgd.2 hlh qq
          have hany : (D.set j (without D[j] qq)).any List.isEmpty = false := by
            cases hb : (D.set j (without D[j] qq)).any List.isEmpty with
            | false => rfl
            | true =>
              obtain ⟨d, hd, rfl⟩ := any_empty.1 hb
              rcases List.mem_or_eq_of_mem_set hd with h | h
              · exact absurd rfl (HG.out _ h).2
              · exact absurd h.symm hNE
          have EM := Lib.hid (fun W v (h : EAt W v (D.set j (without D[j] qq))) => by have := rempty_any v _ W h (by rw [List.length_set]; have := HND.out; omega); rw [hany] at this; exact this)
          have HLE := Lib.hid (show (D.set j (without D[j] qq)).length = nd by rw [List.length_set]; exact HND.out.symm)
          have CA := Lib.hid (fun W (kk : Since wr W) => show W.cell? ⟨ga, oa + q, none⟩ = some (.int .i64 y) from (kk.cell _ (World.block_lt_of_cell? _ _ ea)).trans ea)
          have CD := Lib.hid (fun W (kk : Since wr W) => show W.cell? ⟨gd, od + j, none⟩ = some (.slice B D[j].length cB) from (kk.cell _ (World.block_lt_of_cell? _ _ ed)).trans ed)
          have CU := Lib.hid (fun W (kk : Since wr W) a' (ha : a' = qq) => rwithout_at hS hgd.1 W kk qq a' ha hqf)
          have WI := Lib.hid (fun W (kk : Since wr W) vl (hv : RAt W vl (without D[j] qq)) => rwith_at (h := H3.out.since stD HW.out) j (without D[j] qq) (by have := HND.out; omega) W kk vl hv)
          generalize without D[j] qq = wd at *
          generalize D[j].length = dl at *
          clear hR hop hE hdm hdj hgd hS hlh hNE hqb hqf hany HA HM HR ht1 ht2 HTA hj hjl hqa hqx hqT hO
          go_wp2
          have hr0 : Since wr wr.drew := Since.drew (Since.refl wr)
          refine wp_region_noPanic ?_
          refine Reg.wp_region_G (S := fun _ => True) (fun j => [].contains j) (by kernel_rfl) trivial ?_
          refine' Reg.tk (i := 0) (oi := { dst := some 81, op := Op.move (Operand.tmp 3), type := 30, pos := "ref.go:122", after := #[], guard := none }) (v := _) [15, 16] [] (Or.inl ⟨by rfl, Or.inl ?hy34⟩) ?rest34
          case hy34 => (intro w' kk ss; have qa := CA.out _ (hr0.trans kk); have qd := CD.out _ (hr0.trans kk); go_simp; first | done | with_reducible rfl)
          try simp only [Act.put, List.setIfInBounds_toArray, List.set_cons_zero, List.set_cons_succ]
          refine' Reg.tk (i := 1) (oi := { dst := some 82, op := Op.move (Operand.tmp 14), type := 3, pos := "ref.go:122", after := #[], guard := none }) (v := _) [15, 16] [] (Or.inl ⟨by rfl, Or.inl ?hy35⟩) ?rest35
          case hy35 => (intro w' kk ss; have qa := CA.out _ (hr0.trans kk); have qd := CD.out _ (hr0.trans kk); go_simp; first | done | with_reducible rfl)
          try simp only [Act.put, List.setIfInBounds_toArray, List.set_cons_zero, List.set_cons_succ]
          refine' Reg.tk (i := 2) (oi := { dst := some 83, op := Op.move (Operand.tmp 3), type := 30, pos := "ref.go:122", after := #[], guard := none }) (v := _) [4, 5, 14, 15, 16] [] (Or.inl ⟨by rfl, Or.inl ?hy36⟩) ?rest36
          case hy36 => (intro w' kk ss; have qa := CA.out _ (hr0.trans kk); have qd := CD.out _ (hr0.trans kk); go_simp; first | done | with_reducible rfl)
          try simp only [Act.put, List.setIfInBounds_toArray, List.set_cons_zero, List.set_cons_succ]
          refine' Reg.tk (i := 3) (oi := { dst := some 84, op := Op.move (Operand.tmp 14), type := 3, pos := "ref.go:122", after := #[], guard := none }) (v := _) [4, 5, 14, 15, 16] [] (Or.inl ⟨by rfl, Or.inl ?hy37⟩) ?rest37
          case hy37 => (intro w' kk ss; have qa := CA.out _ (hr0.trans kk); have qd := CD.out _ (hr0.trans kk); go_simp; first | done | with_reducible rfl)
          try simp only [Act.put, List.setIfInBounds_toArray, List.set_cons_zero, List.set_cons_succ]
          refine' Reg.tk (i := 4) (oi := { dst := some 85, op := Op.indexAddr 30 (Operand.tmp 83) (Operand.tmp 84), type := 0, pos := "ref.go:122", after := #[{ on := 2, ground := Ground.data }, { on := 3, ground := Ground.data }], guard := none }) (v := _) [5, 14, 15, 16] [] (Or.inl ⟨by rfl, Or.inl ?hy38⟩) ?rest38
          case hy38 => (intro w' kk ss; have qa := CA.out _ (hr0.trans kk); have qd := CD.out _ (hr0.trans kk); go_simp; first | done | with_reducible rfl)
          try simp only [Act.put, List.setIfInBounds_toArray, List.set_cons_zero, List.set_cons_succ]
          refine' Reg.tk (i := 5) (oi := { dst := some 86, op := Op.load 50 (Operand.tmp 85), type := 50, pos := "ref.go:122", after := #[{ on := 4, ground := Ground.data }], guard := none }) (v := _) [14, 15, 16] [] (Or.inl ⟨by rfl, Or.inl ?hy39⟩) ?rest39
          case hy39 => (intro w' kk ss; have qa := CA.out _ (hr0.trans kk); have qd := CD.out _ (hr0.trans kk); go_simp; first | done | with_reducible rfl)
          try simp only [Act.put, List.setIfInBounds_toArray, List.set_cons_zero, List.set_cons_succ]
          refine' Reg.tk (i := 6) (oi := { dst := some 87, op := Op.move (Operand.tmp 2), type := 2, pos := "ref.go:122", after := #[], guard := none }) (v := _) [8, 13, 14, 15, 16] [] (Or.inl ⟨by rfl, Or.inl ?hy40⟩) ?rest40
          case hy40 => (intro w' kk ss; have qa := CA.out _ (hr0.trans kk); have qd := CD.out _ (hr0.trans kk); go_simp; first | done | with_reducible rfl)
          try simp only [Act.put, List.setIfInBounds_toArray, List.set_cons_zero, List.set_cons_succ]
          refine' Reg.tk (i := 7) (oi := { dst := some 88, op := Op.move (Operand.tmp 12), type := 2, pos := "ref.go:122", after := #[], guard := none }) (v := _) [8, 13, 14, 15, 16] [] (Or.inl ⟨by rfl, Or.inl ?hy41⟩) ?rest41
          case hy41 => (intro w' kk ss; have qa := CA.out _ (hr0.trans kk); have qd := CD.out _ (hr0.trans kk); go_simp; first | done | with_reducible rfl)
          try simp only [Act.put, List.setIfInBounds_toArray, List.set_cons_zero, List.set_cons_succ]
          refine' Reg.tk (i := 8) (oi := { dst := some 89, op := Op.binOp BinOp.sub 2 (Operand.tmp 87) (Operand.tmp 88) 2, type := 2, pos := "ref.go:122", after := #[{ on := 6, ground := Ground.data }, { on := 7, ground := Ground.data }], guard := none }) (v := _) [13, 14, 15, 16] [] (Or.inl ⟨by rfl, Or.inl ?hy42⟩) ?rest42
          case hy42 => (intro w' kk ss; have qa := CA.out _ (hr0.trans kk); have qd := CD.out _ (hr0.trans kk); go_simp; first | done | with_reducible rfl)
          try simp only [Act.put, List.setIfInBounds_toArray, List.set_cons_zero, List.set_cons_succ]
          refine' Reg.tk (i := 9) (oi := { dst := some 90, op := Op.move (Operand.tmp 0), type := 23, pos := "ref.go:122", after := #[], guard := none }) (v := _) [11, 12, 13, 14, 15, 16] [] (Or.inl ⟨by rfl, Or.inl ?hy43⟩) ?rest43
          case hy43 => (intro w' kk ss; have qa := CA.out _ (hr0.trans kk); have qd := CD.out _ (hr0.trans kk); go_simp; first | done | with_reducible rfl)
          try simp only [Act.put, List.setIfInBounds_toArray, List.set_cons_zero, List.set_cons_succ]
          refine' Reg.tk (i := 10) (oi := { dst := some 91, op := Op.move (Operand.tmp 11), type := 3, pos := "ref.go:122", after := #[], guard := none }) (v := _) [11, 12, 13, 14, 15, 16] [] (Or.inl ⟨by rfl, Or.inl ?hy44⟩) ?rest44
          case hy44 => (intro w' kk ss; have qa := CA.out _ (hr0.trans kk); have qd := CD.out _ (hr0.trans kk); go_simp; first | done | with_reducible rfl)
          try simp only [Act.put, List.setIfInBounds_toArray, List.set_cons_zero, List.set_cons_succ]
          refine' Reg.tk (i := 11) (oi := { dst := some 92, op := Op.indexAddr 23 (Operand.tmp 90) (Operand.tmp 91), type := 0, pos := "ref.go:122", after := #[{ on := 9, ground := Ground.data }, { on := 10, ground := Ground.data }], guard := none }) (v := _) [12, 13, 14, 15, 16] [] (Or.inl ⟨by rfl, Or.inl ?hy45⟩) ?rest45
          case hy45 => (intro w' kk ss; have qa := CA.out _ (hr0.trans kk); have qd := CD.out _ (hr0.trans kk); go_simp; first | done | with_reducible rfl)
          try simp only [Act.put, List.setIfInBounds_toArray, List.set_cons_zero, List.set_cons_succ]
          refine' Reg.tk (i := 12) (oi := { dst := some 93, op := Op.load 2 (Operand.tmp 92), type := 2, pos := "ref.go:122", after := #[{ on := 11, ground := Ground.data }], guard := none }) (v := _) [13, 14, 15, 16] [] (Or.inl ⟨by rfl, Or.inl ?hy46⟩) ?rest46
          case hy46 => (intro w' kk ss; have qa := CA.out _ (hr0.trans kk); have qd := CD.out _ (hr0.trans kk); go_simp; first | done | with_reducible rfl)
          try simp only [Act.put, List.setIfInBounds_toArray, List.set_cons_zero, List.set_cons_succ]
          refine' Reg.tk (i := 13) (oi := { dst := some 94, op := Op.binOp BinOp.quo 2 (Operand.tmp 89) (Operand.tmp 93) 2, type := 2, pos := "ref.go:122", after := #[{ on := 8, ground := Ground.data }, { on := 12, ground := Ground.data }], guard := none }) (v := _) [14, 15, 16] [] (Or.inl ⟨by rfl, Or.inl ?hy47⟩) ?rest47
          case hy47 => (intro w' kk ss; have qa := CA.out _ (hr0.trans kk); have qd := CD.out _ (hr0.trans kk); go_simp; first | done | with_reducible rfl)
          try simp only [Act.put, List.setIfInBounds_toArray, List.set_cons_zero, List.set_cons_succ]
          refine Reg.wpG_ready (rs := [14]) (by kernel_rfl) (by simp) (fun wq33001 k33001' sq33001 => ?_)
          have hr0 := hr0.trans k33001'
          refine Reg.AllG.first (o := { dst := some 95, op := Op.call { callee := Callee.value (Operand.func 140), args := #[Operand.tmp 86, Operand.tmp 94], argTypes := #[50, 2] }, type := 50, pos := "ref.go:122", after := #[{ on := 5, ground := Ground.data }, { on := 13, ground := Ground.data }], guard := none }) rfl (by rfl) (fun K hK => ?_) Reg.AllG.nil
          go_simp
          (with_reducible refine (CU.out wq33001 hr0 _ WE.out).mono ?_)
          rintro e y33001 ⟨A2, m2, c2, rfl, hm2, q1, hx⟩
          refine hK.out _ _ trivial hx ?_
          clear hK K
          have hr0 := hr0.trans hx
          clear hx
          try simp only [Act.put, List.setIfInBounds_toArray, List.set_cons_zero, List.set_cons_succ]
          refine Reg.wpG_ready (rs := [15]) (by kernel_rfl) (by simp) (fun wq33002 k33002' sq33002 => ?_)
          have hr0 := hr0.trans k33002'
          have q1 := q1.since k33002'
          refine Reg.AllG.first (o := { dst := some 96, op := Op.call { callee := Callee.value (Operand.func 138), args := #[Operand.tmp 81, Operand.tmp 82, Operand.tmp 95], argTypes := #[30, 3, 50] }, type := 30, pos := "ref.go:122", after := #[{ on := 0, ground := Ground.data }, { on := 1, ground := Ground.data }, { on := 14, ground := Ground.data }, { on := 14, ground := Ground.chain }], guard := none }) rfl (by rfl) (fun K hK => ?_) Reg.AllG.nil
          go_simp
          (with_reducible refine (WI.out wq33002 hr0 _ q1).mono ?_)
          rintro e y33002 ⟨A3, n3, c3, rfl, hn3, q2', hx⟩
          refine hK.out _ _ trivial hx ?_
          clear hK K
          have hr0 := hr0.trans hx
          have q1 := q1.since hx
          clear hx
          try simp only [Act.put, List.setIfInBounds_toArray, List.set_cons_zero, List.set_cons_succ]
          refine' Reg.tk (i := 16) (oi := { dst := some 15, op := Op.assign (Operand.tmp 96), type := 30, pos := "ref.go:122", after := #[{ on := 15, ground := Ground.data }, { on := 15, ground := Ground.chain }, { on := 0, ground := Ground.phase }, { on := 1, ground := Ground.phase }, { on := 2, ground := Ground.phase }, { on := 3, ground := Ground.phase }, { on := 4, ground := Ground.phase }, { on := 5, ground := Ground.phase }, { on := 6, ground := Ground.phase }, { on := 7, ground := Ground.phase }, { on := 8, ground := Ground.phase }, { on := 9, ground := Ground.phase }, { on := 10, ground := Ground.phase }, { on := 11, ground := Ground.phase }, { on := 12, ground := Ground.phase }, { on := 13, ground := Ground.phase }, { on := 14, ground := Ground.phase }, { on := 15, ground := Ground.phase }], guard := none }) (v := _) [] [] (Or.inl ⟨by rfl, Or.inl ?hy48⟩) ?rest48
          case hy48 => (intro w' kk ss; have qa := CA.out _ (hr0.trans kk); have qd := CD.out _ (hr0.trans kk); go_simp; first | done | with_reducible rfl)
          try simp only [Act.put, List.setIfInBounds_toArray, List.set_cons_zero, List.set_cons_succ]
          refine Reg.wpG_done (by kernel_rfl) (fun we ke se => ?_) _
          refine NoPanic.normal ?_
          have hr0 := hr0.trans ke
          have q1 := q1.since ke
          have q2' := q2'.since ke
          clear ke
          go_wp2_with (go_at_call 139; (with_reducible refine (EM.out _ _ (hn3 ▸ q2')).mono ?_); rintro e w2 ⟨rfl, k2, -⟩; have K2 := Lib.hid k2; clear k2)
          go_ret2
          exact .yes E1.out rfl hn3 (q2'.since K2.out) (HW.out.trans (hr0.trans K2.out))
        · have E1 := Lib.hid (show R = some D by rw [hR, if_neg c1])
          clear hR hop hE hdm hdj hgd hS hlh HA HM HR ht1 ht2
          go_wp2
          go_ret2
          exact .yes E1.out rfl HND.out.symm (H3.out.since stD HW.out) HW.out
end
section
open Go.RowKit
set_option linter.unusedVariables false
set_option linter.unusedSimpArgs false
open Go.Proofs.Ytoegbgkgenjplaa.Dig Go.Proofs.Ytoegbgkgenjplaa.Lx Go.Proofs.Ytoegbgkgenjplaa.Tk Go.Proofs.Ytoegbgkgenjplaa.Ti Go.Proofs.Ytoegbgkgenjplaa.Zs Go.Proofs.Ytoegbgkgenjplaa.Tr Go.Proofs.Ytoegbgkgenjplaa.Sn
set_option maxRecDepth 20000 in
set_option maxHeartbeats 2000000 in
theorem rkeepIs_any (va vx vd : Value) (a x : List Int) (cn : Int) (D : Ds) (w : World) (h : LinIn w va vx vd a x D) (hc : -1048576 ≤ cn ∧ cn ≤ 1048576) (hdl : D.length ≤ 64) :
    Calls Try.prog 112 #[va, vx, .int .i64 cn, vd] w (RetK ((keepD cn (tms a x D) D).bind fun E => keepD (-cn) (tms (neg a) x E) E) w) := by
  have A1 := Lib.hid (rkeep_any va vx vd a x cn D w h (by omega) hdl)
  have hin := tms_in (a := a) h.pG.rd h.px
  have OP := Lib.hid (fun W (k : Since w W) => ropposite_any va a W (h.pA.since stI k) h.pa h.pw)
  have A2 := Lib.hid (fun E (he : keepD cn (tms a x D) D = some E) vo ve W (k : Since w W) (ho : Sl 1 QI W vo (neg a)) (hE : EAt W ve E) => by
    rw [← amL_eq h.pG hin.1 hin.2] at he
    obtain ⟨q0, q1, q2, q3⟩ := amL_some h.pG hin.1 hin.2 he
    exact rkeep_any vo vx ve (neg a) x (-cn) E W ⟨ho, h.pX.since stI k, hE, q1, isV_len q2.1.symm h.px, by rw [neg_len]; exact h.pl, by rw [neg_len]; exact h.pa, neg_within h.pw⟩ (by omega) (by rw [q2.1]; exact hdl))
  have WC : IntKind.i64.wrap (-cn) = -cn := wrap_id' (by omega) (by omega)
  obtain ⟨A, ca, rfl⟩ := h.pA.form
  obtain ⟨X, xc, rfl⟩ := h.pX.form
  obtain ⟨DA, dc, rfl⟩ := h.pD.form
  clear h hin
  generalize a.length = na at *
  generalize x.length = nx at *
  generalize List.length D = nd at *
  cases hR : keepD cn (tms a x D) D with
  | none =>
    rw [hR] at A1
    clear A2 OP
    show Calls _ _ _ _ (RetK none w)
    go_enter Try.func112, Try.ntmps112
    go_wp2_with (go_at_call 113; (with_reducible refine A1.out.mono ?_); rintro e w1 ⟨A1', n1, c1, rfl, -, k1⟩; have K1 := Lib.hid k1; simp only [Option.isSome]; clear k1)
    go_ret2
    exact .no rfl rfl K1.out
  | some E =>
    have A3 := Lib.hid (A2.out E hR)
    rw [hR] at A1
    clear A2 hR
    show Calls _ _ _ _ (RetK (keepD (-cn) (tms (neg a) x E) E) w)
    generalize keepD (-cn) (tms (neg a) x E) E = R2 at *
    go_enter Try.func112, Try.ntmps112
    go_wp2_with (first
      | (go_at_call 111; (with_reducible refine (OP.out _ K1.out).mono ?_); rintro e w2 ⟨OA, oc, rfl, ho, k2⟩; have HO := Lib.hid ho; have K2 := Lib.hid (K1.out.trans k2); have HE2 := Lib.hid (HE.out.since k2); clear ho k2)
      | (go_at_call 113; (with_reducible refine (A3.out _ _ _ K2.out HO.out HE2.out).mono ?_); rintro e w3 ⟨A3', n3, c3, rfl, h3, k3⟩; have H3 := Lib.hid h3; have K3 := Lib.hid (K2.out.trans k3); clear h3 k3)
      | (go_at_call 113; (with_reducible refine A1.out.mono ?_); rintro e w1 ⟨A1', n1, c1, rfl, h1, k1⟩; have K1 := Lib.hid k1; have HE := Lib.hid (h1 E rfl).2; simp only [Option.isSome]; clear h1 k1))
    go_ret2
    exact ⟨A3', n3, c3, rfl, H3.out, K3.out⟩
/-- the call ends in domains and a number -/
def RetNd (p : Option Ds × Int) (w : World) (e : Ending) (w' : World) : Prop := ∃ A n c, e = .returned (.tuple #[.slice A n c, .int .i64 p.2]) ∧ (p.1.getD []).length = n ∧ EAt w' (.slice A n c) (p.1.getD []) ∧ Since w w'
theorem RetNd.no {p : Int} {w w' : World} (k : Since w w') : RetNd (none, p) w (.returned (.tuple #[.slice none 0 0, .int .i64 p])) w' := ⟨_, 0, 0, rfl, rfl, Sl.nil _ _ _, k⟩
end
end Go.Proofs.Ytoegbgkgenjplaa.Ln
