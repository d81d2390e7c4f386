/- Layer 11 (sense): the document's own truth, truths, signs, none, named. -/
import Derived.Test.YtfcinefmnigacaaUe
namespace Go.Proofs.Ytfcinefmnigacaa.Sn
open Go.RowKit
set_option linter.unusedVariables false
set_option linter.unusedSimpArgs false
open Go.Proofs.Ytfcinefmnigacaa.Dig Go.Proofs.Ytfcinefmnigacaa.Lx Go.Proofs.Ytfcinefmnigacaa.Tk Go.Proofs.Ytfcinefmnigacaa.Ti Go.Proofs.Ytfcinefmnigacaa.Zs Go.Proofs.Ytfcinefmnigacaa.Tr

set_option maxRecDepth 20000 in
set_option maxHeartbeats 2000000 in
theorem rnamed_any (k : Int) (w : World) : Calls Try.prog 58 #[.int .i64 k] w fun e w' => e = .returned (.bool (tak k)) ∧ w' = w := by
  by_cases c1 : k ≥ 1
  · by_cases c2 : k ≤ 6
    · have e : tak k = true := by simp only [tak, Bool.or_eq_true, decide_eq_true_eq]; omega
      rw [e]
      go_enter Try.func58, Try.ntmps58
      go_wp2
      go_ret
      exact ⟨rfl, rfl⟩
    · by_cases c3 : k = 19
      · subst c3
        go_enter Try.func58, Try.ntmps58
        go_wp2
        go_ret
        exact ⟨rfl, rfl⟩
      · have e : tak k = false := by simp only [tak, Bool.or_eq_false_iff, decide_eq_false_iff_not]; omega
        have hz : (k == 19) = false := by rw [beq_eq_false_iff_ne]; exact c3
        rw [e]
        go_enter Try.func58, Try.ntmps58
        go_wp2
        go_ret
        exact ⟨rfl, rfl⟩
  · have e : tak k = false := by simp only [tak, Bool.or_eq_false_iff, decide_eq_false_iff_not]; omega
    have hz : (k == 19) = false := by rw [beq_eq_false_iff_ne]; omega
    rw [e]
    go_enter Try.func58, Try.ntmps58
    go_wp2
    go_ret
    exact ⟨rfl, rfl⟩
set_option maxRecDepth 20000 in
set_option maxHeartbeats 2000000 in
theorem rtruth_any (v : Value) (d : List Rn) (w : World) (h : Sl 2 QR w v d) (hl : d.length ≤ 1100000) :
    Calls Try.prog 59 #[v] w fun e w' => e = .returned (.bool (tru d)) ∧ w' = w := by
  obtain ⟨A, c, rfl⟩ := h.form
  by_cases hz : d.length = 0
  · obtain rfl : d = [] := List.eq_nil_of_length_eq_zero hz
    clear h hl hz
    go_enter Try.func59, Try.ntmps59
    go_wp2
    go_ret
    exact ⟨rfl, rfl⟩
  have hp : 0 < d.length := by omega
  obtain ⟨b, o, rfl, e0, e1⟩ := ends_at h hp
  obtain ⟨n, hn⟩ : ∃ n, n = d.length - 1 := ⟨_, rfl⟩
  have hn2 : d.length = n + 1 := by omega
  have et : tru d = (decide (0 ≤ (d.getD 0 (0, 0)).1) && decide ((d.getD (d.length - 1) (0, 0)).2 ≤ 1)) := by rw [tru, decide_eq_true hp, Bool.true_and]
  rw [et]
  rw [← hn] at e1 ⊢
  rw [hn2] at hl ⊢
  generalize (d.getD 0 (0, 0)).1 = lo at *
  generalize (d.getD n (0, 0)).2 = hi at *
  clear h hp hn hn2 et hz
  have ei : ((n + 1 : Nat) : Int) - 1 = (n : Int) := by omega
  have e2 : w.cell? ⟨b, o + n * 2 + 1, none⟩ = some (.int .i64 hi) := by simpa using e1
  clear e1
  by_cases c1 : lo ≥ 0
  · by_cases c2 : hi ≤ 1
    · have e : (decide (0 ≤ lo) && decide (hi ≤ 1)) = true := by simp only [Bool.and_eq_true, decide_eq_true_eq]; omega
      rw [e]
      go_enter Try.func59, Try.ntmps59
      go_wp2
      go_ret
      exact ⟨rfl, rfl⟩
    · have e : (decide (0 ≤ lo) && decide (hi ≤ 1)) = false := by simp only [Bool.and_eq_false_iff, decide_eq_false_iff_not]; omega
      rw [e]
      go_enter Try.func59, Try.ntmps59
      go_wp2
      go_ret
      exact ⟨rfl, rfl⟩
  · have e : (decide (0 ≤ lo) && decide (hi ≤ 1)) = false := by simp only [Bool.and_eq_false_iff, decide_eq_false_iff_not]; omega
    rw [e]
    go_enter Try.func59, Try.ntmps59
    go_wp2
    go_ret
    exact ⟨rfl, rfl⟩
def sg1 (n : Int) : Bool := decide (n = 1) || decide (n = -1)
def nn0 (n : Int) : Bool := decide (0 ≤ n)
set_option maxRecDepth 20000 in
set_option maxHeartbeats 2000000 in
theorem rsigns_any (v : Value) (l : List Int) (w : World) (h : Sl 1 QI w v l) (hl : l.length ≤ 1100000) :
    Calls Try.prog 73 #[v] w (RetT (l.all sg1) w) := by
  obtain ⟨A, c, rfl⟩ := h.form
  obtain ⟨n, hn⟩ : ∃ n, n = l.length := ⟨_, rfl⟩
  obtain ⟨R, hR⟩ : ∃ R, R = l.all sg1 := ⟨_, rfl⟩
  rw [← hR]
  rw [← hn] at h hl ⊢
  have H := Lib.hid h
  have HN := Lib.hid hn
  have HR := Lib.hid hR
  clear h hn hR
  go_enter Try.func73, Try.ntmps73
  go_wp2
  go_loopw [3] (fun i wr => ∃ k : Nat, i = .int .i64 (k : Int) ∧ k ≤ n ∧ Hid ((l.drop k).all sg1 = R) ∧ Hid (Since w wr)) (fun i _ => n - (intOf i).toNat)
  case atStart => exact ⟨0, rfl, Nat.zero_le _, HR.out.symm, Since.refl _⟩
  case round =>
    obtain ⟨k, rfl, hk, HE, HW⟩ := hrel
    by_cases hkn : k < n
    · have hkl : k < l.length := by have := HN.out; omega
      obtain ⟨g, o, rfl, e0⟩ := elI (H.out.since stI HW.out) hkl
      have hst := HE.out
      rw [dropI hkl, List.all_cons] at hst
      generalize l[k] = y at *
      have ST := Lib.hid hst
      clear hst hkl HE
      have FIN := Lib.hid (fun hy : sg1 y = true => show (l.drop (k + 1)).all sg1 = R by have := ST.out; rw [hy, Bool.true_and] at this; exact this)
      have BAD := Lib.hid (fun hy : sg1 y = false => show false = R by have := ST.out; rw [hy, Bool.false_and] at this; exact this)
      by_cases y1 : y = 1
      · have HE := Lib.hid (FIN.out (by subst y1; rfl))
        have z1 : (y != 1) = false := by subst y1; rfl
        clear y1
        go_wp2
        go_roundw
        case rel => exact ⟨k + 1, by go_num, by omega, HE.out, HW.out⟩
        case measure => simp [intOf]; omega
      · have z1 : (y != 1) = true := by rw [bne_iff_ne]; exact y1
        by_cases y2 : y = -1
        · have HE := Lib.hid (FIN.out (by subst y2; rfl))
          have z2 : (y != -1) = false := by subst y2; rfl
          clear y2 y1
          go_wp2
          go_roundw
          case rel => exact ⟨k + 1, by go_num, by omega, HE.out, HW.out⟩
          case measure => simp [intOf]; omega
        · have z2 : (y != -1) = true := by rw [bne_iff_ne]; exact y2
          have HE := Lib.hid (BAD.out (by simp [sg1, y1, y2]))
          go_wp2
          go_ret
          exact .of HE.out HW.out

    · obtain rfl : k = n := by omega
      have HE2 := Lib.hid (show true = R by rw [← HE.out, List.drop_of_length_le (by have := HN.out; omega)]; rfl)
      go_wp2
      go_ret
      exact .of HE2.out HW.out
set_option maxRecDepth 20000 in
set_option maxHeartbeats 2000000 in
theorem rnone_any (v : Value) (l : List Int) (w : World) (h : Sl 1 QI w v l) (hl : l.length ≤ 1100000) :
    Calls Try.prog 74 #[v] w (RetT (l.all nn0) w) := by
  obtain ⟨A, c, rfl⟩ := h.form
  obtain ⟨n, hn⟩ : ∃ n, n = l.length := ⟨_, rfl⟩
  obtain ⟨R, hR⟩ : ∃ R, R = l.all nn0 := ⟨_, rfl⟩
  rw [← hR]
  rw [← hn] at h hl ⊢
  have H := Lib.hid h
  have HN := Lib.hid hn
  have HR := Lib.hid hR
  clear h hn hR
  go_enter Try.func74, Try.ntmps74
  go_wp2
  go_loopw [3] (fun i wr => ∃ k : Nat, i = .int .i64 (k : Int) ∧ k ≤ n ∧ Hid ((l.drop k).all nn0 = R) ∧ Hid (Since w wr)) (fun i _ => n - (intOf i).toNat)
  case atStart => exact ⟨0, rfl, Nat.zero_le _, HR.out.symm, Since.refl _⟩
  case round =>
    obtain ⟨k, rfl, hk, HE, HW⟩ := hrel
    by_cases hkn : k < n
    · have hkl : k < l.length := by have := HN.out; omega
      obtain ⟨g, o, rfl, e0⟩ := elI (H.out.since stI HW.out) hkl
      have hst := HE.out
      rw [dropI hkl, List.all_cons] at hst
      generalize l[k] = y at *
      have ST := Lib.hid hst
      clear hst hkl HE
      have FIN := Lib.hid (fun hy : nn0 y = true => show (l.drop (k + 1)).all nn0 = R by have := ST.out; rw [hy, Bool.true_and] at this; exact this)
      have BAD := Lib.hid (fun hy : nn0 y = false => show false = R by have := ST.out; rw [hy, Bool.false_and] at this; exact this)
      by_cases y1 : y < 0
      · have HE := Lib.hid (BAD.out (by simp [nn0]; omega))
        go_wp2
        go_ret
        exact .of HE.out HW.out
      · have HE := Lib.hid (FIN.out (by simp [nn0]; omega))
        go_wp2
        go_roundw
        case rel => exact ⟨k + 1, by go_num, by omega, HE.out, HW.out⟩
        case measure => simp [intOf]; omega

    · obtain rfl : k = n := by omega
      have HE2 := Lib.hid (show true = R by rw [← HE.out, List.drop_of_length_le (by have := HN.out; omega)]; rfl)
      go_wp2
      go_ret
      exact .of HE2.out HW.out
set_option maxRecDepth 20000 in
set_option maxHeartbeats 2000000 in
theorem truth_at {v : Value} {d : List Rn} {w : World} (h : Sl 2 QR w v d) (hl : d.length ≤ 1100000) {b : Bool} (hb : tru d = b) (W : World) (k : Since w W) : Calls Try.prog 59 #[v] W (fun e w' => e = .returned (.bool b) ∧ Since W w' ∧ True) := by
  subst hb
  exact (rtruth_any v d W (h.since stR k) hl).mono fun e w' h => ⟨h.1, h.2 ▸ Since.refl _, trivial⟩
set_option maxRecDepth 20000 in
set_option maxHeartbeats 2000000 in
theorem rtruths_any (v vx : Value) (m : Md) (x : List Int) (w : World) (h : ModAt w v m) (hx : Sl 1 QI w vx x) (hin : ∀ y ∈ x, isV m.ds.length y = true) (hok : ∀ d ∈ m.ds, d.length ≤ 1100000) (hl : x.length ≤ 1100000) :
    Calls Try.prog 60 #[v, vx] w (RetT (x.all (fun y => tru (domAt m.ds y))) w) := by
  obtain ⟨vd, vc, rfl, h1, h2⟩ := h
  obtain ⟨ds, cs, ask, goal⟩ := m
  simp only at h1 h2 hin hok ⊢
  obtain ⟨D, dc, rfl⟩ := h1.form
  obtain ⟨C, cc, rfl⟩ := h2.form
  obtain ⟨X, xc, rfl⟩ := hx.form
  obtain ⟨n, hn⟩ : ∃ n, n = x.length := ⟨_, rfl⟩
  obtain ⟨nd, hnd⟩ : ∃ n, n = ds.length := ⟨_, rfl⟩
  obtain ⟨R, hR⟩ : ∃ R, R = x.all (fun y => tru (domAt ds y)) := ⟨_, rfl⟩
  rw [← hR]
  rw [← hn] at hx hl ⊢
  rw [← hnd] at h1 ⊢
  generalize cs.length = nc at *
  have H1 := Lib.hid h1
  have HX := Lib.hid hx
  have HN := Lib.hid hn
  have HND := Lib.hid hnd
  have HR := Lib.hid hR
  have HIN := Lib.hid hin
  have HOK := Lib.hid hok
  have ka := Lib.hid (since_alloc w (.cells #[.slice D nd dc, .slice C nc cc, .int .i64 ask, .int .i64 goal] 33))
  have BX := Lib.hid (fun W (kk : Since (w.alloc (.cells #[.slice D nd dc, .slice C nc cc, .int .i64 ask, .int .i64 goal] 33)) W) => (Bx.fresh w #[.slice D nd dc, .slice C nc cc, .int .i64 ask, .int .i64 goal] 33).since kk)
  clear h1 h2 hx hn hnd hR hin hok
  go_enter Try.func60, Try.ntmps60
  go_wp2
  go_loopw [5] (fun i wr => ∃ k : Nat, i = .int .i64 (k : Int) ∧ k ≤ n ∧ Hid ((x.drop k).all (fun y => tru (domAt ds y)) = R) ∧ Hid (Since (w.alloc (.cells #[.slice D nd dc, .slice C nc cc, .int .i64 ask, .int .i64 goal] 33)) wr)) (fun i _ => n - (intOf i).toNat)
  case atStart => exact ⟨0, rfl, Nat.zero_le _, HR.out.symm, Since.refl _⟩
  case round =>
    obtain ⟨k, rfl, hk, HE, HW⟩ := hrel
    by_cases hkn : k < n
    · have hkl : k < x.length := by have := HN.out; omega
      obtain ⟨g, o, rfl, e0⟩ := elI (HX.out.since stI (ka.out.trans HW.out)) hkl
      have hst := HE.out
      rw [dropI hkl, List.all_cons] at hst
      have hin := HIN.out _ (List.getElem_mem hkl)
      generalize x[k] = y at *
      obtain ⟨q, rfl, hq⟩ := isV_nat hin
      rw [domAt_nat hq] at hst
      obtain ⟨g2, o2, B2, d2, rfl, S2, e2⟩ := elD (H1.out.since stD (ka.out.trans HW.out)) hq
      have hdo := HOK.out _ (List.getElem_mem hq)
      generalize ds[q] = dq at *
      obtain ⟨T, hT⟩ : ∃ T, tru dq = T := ⟨_, rfl⟩
      have TA := Lib.hid (fun W kk => truth_at S2 hdo hT W kk)
      obtain ⟨p, hp⟩ : ∃ p, p = dq.length := ⟨_, rfl⟩
      rw [← hp] at e2 TA
      rw [hT] at hst
      have ST := Lib.hid hst
      have hqn : q < nd := by have := HND.out; omega
      have HC := Lib.hid (fun W (kk : Since wr W) => (show W.cell? ⟨g, o + k, none⟩ = some (.int .i64 (q : Int)) ∧ W.cell? ⟨g2, o2 + q, none⟩ = some (.slice B2 p d2) from ⟨(kk.cell _ (World.block_lt_of_cell? _ _ e0)).trans e0, (kk.cell _ (World.block_lt_of_cell? _ _ e2)).trans e2⟩))
      obtain ⟨b0, b1, b2, b3⟩ := bx4 (BX.out _ HW.out)
      clear hst hkl HE hin hq S2 hdo hT hp e0 e2
      cases T with
      | true =>
        have HE := Lib.hid (show (x.drop (k + 1)).all (fun y => tru (domAt ds y)) = R by have := ST.out; rw [Bool.true_and] at this; exact this)
        clear ST
        go_wp2
        have hr0 : Since wr wr.drew := Since.drew (Since.refl wr)
        refine wp_region_noPanic ?_
        refine Reg.wp_region_G (S := fun _ => True) (fun j => [].contains j) (by kernel_rfl) trivial ?_
        refine' Reg.wpG_take (i := 0) (oi := { dst := some 12, op := Op.fieldAddr 33 (Operand.tmp 2) 0, type := 0, pos := "ref.go:63", after := #[], guard := none }) (v := _) [1, 6, 7, 8, 9] [] rfl rfl (by kernel_rfl) (by kernel_rfl) (by kernel_rfl) (by kernel_rfl) (by kernel_rfl) (by kernel_rfl) (by kernel_rfl) (fun _ _ _ h => h) (Or.inl ⟨by rfl, Or.inl ?hy2⟩) ?rest2
        case hy2 => (intro w' kk ss; obtain ⟨x0, x1, x2, x3⟩ := bx4 (BX.out _ (HW.out.trans (hr0.trans kk))); obtain ⟨u0, u1⟩ := HC.out _ (hr0.trans kk); go_simp; first | done | with_reducible rfl)
        try simp only [Act.put, List.setIfInBounds_toArray, List.set_cons_zero, List.set_cons_succ]
        refine' Reg.wpG_take (i := 1) (oi := { dst := some 13, op := Op.load 30 (Operand.tmp 12), type := 30, pos := "ref.go:63", after := #[{ on := 0, ground := Ground.data }], guard := none }) (v := _) [6, 7, 8, 9] [] rfl rfl (by kernel_rfl) (by kernel_rfl) (by kernel_rfl) (by kernel_rfl) (by kernel_rfl) (by kernel_rfl) (by kernel_rfl) (fun _ _ _ h => h) (Or.inl ⟨by rfl, Or.inl ?hy3⟩) ?rest3
        case hy3 => (intro w' kk ss; obtain ⟨x0, x1, x2, x3⟩ := bx4 (BX.out _ (HW.out.trans (hr0.trans kk))); obtain ⟨u0, u1⟩ := HC.out _ (hr0.trans kk); go_simp; first | done | with_reducible rfl)
        try simp only [Act.put, List.setIfInBounds_toArray, List.set_cons_zero, List.set_cons_succ]
        refine' Reg.wpG_take (i := 2) (oi := { dst := some 14, op := Op.move (Operand.tmp 1), type := 22, pos := "ref.go:63", after := #[], guard := none }) (v := _) [4, 5, 6, 7, 8, 9] [] rfl rfl (by kernel_rfl) (by kernel_rfl) (by kernel_rfl) (by kernel_rfl) (by kernel_rfl) (by kernel_rfl) (by kernel_rfl) (fun _ _ _ h => h) (Or.inl ⟨by rfl, Or.inl ?hy4⟩) ?rest4
        case hy4 => (intro w' kk ss; obtain ⟨x0, x1, x2, x3⟩ := bx4 (BX.out _ (HW.out.trans (hr0.trans kk))); obtain ⟨u0, u1⟩ := HC.out _ (hr0.trans kk); go_simp; first | done | with_reducible rfl)
        try simp only [Act.put, List.setIfInBounds_toArray, List.set_cons_zero, List.set_cons_succ]
        refine' Reg.wpG_take (i := 3) (oi := { dst := some 15, op := Op.move (Operand.tmp 5), type := 3, pos := "ref.go:63", after := #[], guard := none }) (v := _) [4, 5, 6, 7, 8, 9] [] rfl rfl (by kernel_rfl) (by kernel_rfl) (by kernel_rfl) (by kernel_rfl) (by kernel_rfl) (by kernel_rfl) (by kernel_rfl) (fun _ _ _ h => h) (Or.inl ⟨by rfl, Or.inl ?hy5⟩) ?rest5
        case hy5 => (intro w' kk ss; obtain ⟨x0, x1, x2, x3⟩ := bx4 (BX.out _ (HW.out.trans (hr0.trans kk))); obtain ⟨u0, u1⟩ := HC.out _ (hr0.trans kk); go_simp; first | done | with_reducible rfl)
        try simp only [Act.put, List.setIfInBounds_toArray, List.set_cons_zero, List.set_cons_succ]
        refine' Reg.wpG_take (i := 4) (oi := { dst := some 16, op := Op.indexAddr 22 (Operand.tmp 14) (Operand.tmp 15), type := 0, pos := "ref.go:63", after := #[{ on := 2, ground := Ground.data }, { on := 3, ground := Ground.data }], guard := none }) (v := _) [5, 6, 7, 8, 9] [] rfl rfl (by kernel_rfl) (by kernel_rfl) (by kernel_rfl) (by kernel_rfl) (by kernel_rfl) (by kernel_rfl) (by kernel_rfl) (fun _ _ _ h => h) (Or.inl ⟨by rfl, Or.inl ?hy6⟩) ?rest6
        case hy6 => (intro w' kk ss; obtain ⟨x0, x1, x2, x3⟩ := bx4 (BX.out _ (HW.out.trans (hr0.trans kk))); obtain ⟨u0, u1⟩ := HC.out _ (hr0.trans kk); go_simp; first | done | with_reducible rfl)
        try simp only [Act.put, List.setIfInBounds_toArray, List.set_cons_zero, List.set_cons_succ]
        refine' Reg.wpG_take (i := 5) (oi := { dst := some 17, op := Op.load 3 (Operand.tmp 16), type := 3, pos := "ref.go:63", after := #[{ on := 4, ground := Ground.data }], guard := none }) (v := _) [6, 7, 8, 9] [] rfl rfl (by kernel_rfl) (by kernel_rfl) (by kernel_rfl) (by kernel_rfl) (by kernel_rfl) (by kernel_rfl) (by kernel_rfl) (fun _ _ _ h => h) (Or.inl ⟨by rfl, Or.inl ?hy7⟩) ?rest7
        case hy7 => (intro w' kk ss; obtain ⟨x0, x1, x2, x3⟩ := bx4 (BX.out _ (HW.out.trans (hr0.trans kk))); obtain ⟨u0, u1⟩ := HC.out _ (hr0.trans kk); go_simp; first | done | with_reducible rfl)
        try simp only [Act.put, List.setIfInBounds_toArray, List.set_cons_zero, List.set_cons_succ]
        refine' Reg.wpG_take (i := 6) (oi := { dst := some 18, op := Op.indexAddr 30 (Operand.tmp 13) (Operand.tmp 17), type := 0, pos := "ref.go:63", after := #[{ on := 1, ground := Ground.data }, { on := 5, ground := Ground.data }], guard := none }) (v := _) [7, 8, 9] [] rfl rfl (by kernel_rfl) (by kernel_rfl) (by kernel_rfl) (by kernel_rfl) (by kernel_rfl) (by kernel_rfl) (by kernel_rfl) (fun _ _ _ h => h) (Or.inl ⟨by rfl, Or.inl ?hy8⟩) ?rest8
        case hy8 => (intro w' kk ss; obtain ⟨x0, x1, x2, x3⟩ := bx4 (BX.out _ (HW.out.trans (hr0.trans kk))); obtain ⟨u0, u1⟩ := HC.out _ (hr0.trans kk); go_simp; first | done | with_reducible rfl)
        try simp only [Act.put, List.setIfInBounds_toArray, List.set_cons_zero, List.set_cons_succ]
        refine' Reg.wpG_take (i := 7) (oi := { dst := some 19, op := Op.load 47 (Operand.tmp 18), type := 47, pos := "ref.go:63", after := #[{ on := 6, ground := Ground.data }], guard := none }) (v := _) [8, 9] [] rfl rfl (by kernel_rfl) (by kernel_rfl) (by kernel_rfl) (by kernel_rfl) (by kernel_rfl) (by kernel_rfl) (by kernel_rfl) (fun _ _ _ h => h) (Or.inl ⟨by rfl, Or.inl ?hy9⟩) ?rest9
        case hy9 => (intro w' kk ss; obtain ⟨x0, x1, x2, x3⟩ := bx4 (BX.out _ (HW.out.trans (hr0.trans kk))); obtain ⟨u0, u1⟩ := HC.out _ (hr0.trans kk); go_simp; first | done | with_reducible rfl)
        try simp only [Act.put, List.setIfInBounds_toArray, List.set_cons_zero, List.set_cons_succ]
        refine Reg.wpG_take (i := 8) (oi := { dst := some 20, op := Op.call { callee := Callee.value (Operand.func 59), args := #[Operand.tmp 19], argTypes := #[47] }, type := 4, pos := "ref.go:63", after := #[{ on := 7, ground := Ground.data }], guard := none }) (v := .bool true) [9] [] rfl rfl (by kernel_rfl) (by kernel_rfl) (by kernel_rfl) (by kernel_rfl) (by kernel_rfl) (by kernel_rfl) (by kernel_rfl) (fun _ _ _ h => h) (Or.inl ⟨by rfl, Or.inr ⟨59, #[.slice B2 p d2], fun w' kk ss => ⟨?_, ?_⟩⟩⟩) ?_
        · (try dsimp only at ss); go_simp
        · exact TA.out w' (hr0.trans kk)
        try simp only [Act.put, List.setIfInBounds_toArray, List.set_cons_zero, List.set_cons_succ]
        refine' Reg.wpG_take (i := 9) (oi := { dst := some 21, op := Op.unOp UnOp.not 4 (Operand.tmp 20), type := 4, pos := "ref.go:63", after := #[{ on := 8, ground := Ground.data }], guard := none }) (v := _) [] [] rfl rfl (by kernel_rfl) (by kernel_rfl) (by kernel_rfl) (by kernel_rfl) (by kernel_rfl) (by kernel_rfl) (by kernel_rfl) (fun _ _ _ h => h) (Or.inl ⟨by rfl, Or.inl ?hy10⟩) ?rest10
        case hy10 => (intro w' kk ss; obtain ⟨x0, x1, x2, x3⟩ := bx4 (BX.out _ (HW.out.trans (hr0.trans kk))); obtain ⟨u0, u1⟩ := HC.out _ (hr0.trans kk); go_simp; first | done | with_reducible rfl)
        try simp only [Act.put, List.setIfInBounds_toArray, List.set_cons_zero, List.set_cons_succ]
        refine Reg.wpG_done (by kernel_rfl) (fun we ke se => ?_) _
        refine NoPanic.normal ?_
        have hr0 := hr0.trans ke
        clear ke
        go_wp2
        go_roundw
        case rel => exact ⟨k + 1, by go_num, by omega, HE.out, HW.out.trans hr0⟩
        case measure => simp [intOf]; omega
      | false =>
        have HE := Lib.hid (show false = R by have := ST.out; rw [Bool.false_and] at this; exact this)
        clear ST
        go_wp2
        have hr0 : Since wr wr.drew := Since.drew (Since.refl wr)
        refine wp_region_noPanic ?_
        refine Reg.wp_region_G (S := fun _ => True) (fun j => [].contains j) (by kernel_rfl) trivial ?_
        refine' Reg.wpG_take (i := 0) (oi := { dst := some 12, op := Op.fieldAddr 33 (Operand.tmp 2) 0, type := 0, pos := "ref.go:63", after := #[], guard := none }) (v := _) [1, 6, 7, 8, 9] [] rfl rfl (by kernel_rfl) (by kernel_rfl) (by kernel_rfl) (by kernel_rfl) (by kernel_rfl) (by kernel_rfl) (by kernel_rfl) (fun _ _ _ h => h) (Or.inl ⟨by rfl, Or.inl ?hy12⟩) ?rest12
        case hy12 => (intro w' kk ss; obtain ⟨x0, x1, x2, x3⟩ := bx4 (BX.out _ (HW.out.trans (hr0.trans kk))); obtain ⟨u0, u1⟩ := HC.out _ (hr0.trans kk); go_simp; first | done | with_reducible rfl)
        try simp only [Act.put, List.setIfInBounds_toArray, List.set_cons_zero, List.set_cons_succ]
        refine' Reg.wpG_take (i := 1) (oi := { dst := some 13, op := Op.load 30 (Operand.tmp 12), type := 30, pos := "ref.go:63", after := #[{ on := 0, ground := Ground.data }], guard := none }) (v := _) [6, 7, 8, 9] [] rfl rfl (by kernel_rfl) (by kernel_rfl) (by kernel_rfl) (by kernel_rfl) (by kernel_rfl) (by kernel_rfl) (by kernel_rfl) (fun _ _ _ h => h) (Or.inl ⟨by rfl, Or.inl ?hy13⟩) ?rest13
        case hy13 => (intro w' kk ss; obtain ⟨x0, x1, x2, x3⟩ := bx4 (BX.out _ (HW.out.trans (hr0.trans kk))); obtain ⟨u0, u1⟩ := HC.out _ (hr0.trans kk); go_simp; first | done | with_reducible rfl)
        try simp only [Act.put, List.setIfInBounds_toArray, List.set_cons_zero, List.set_cons_succ]
        refine' Reg.wpG_take (i := 2) (oi := { dst := some 14, op := Op.move (Operand.tmp 1), type := 22, pos := "ref.go:63", after := #[], guard := none }) (v := _) [4, 5, 6, 7, 8, 9] [] rfl rfl (by kernel_rfl) (by kernel_rfl) (by kernel_rfl) (by kernel_rfl) (by kernel_rfl) (by kernel_rfl) (by kernel_rfl) (fun _ _ _ h => h) (Or.inl ⟨by rfl, Or.inl ?hy14⟩) ?rest14
        case hy14 => (intro w' kk ss; obtain ⟨x0, x1, x2, x3⟩ := bx4 (BX.out _ (HW.out.trans (hr0.trans kk))); obtain ⟨u0, u1⟩ := HC.out _ (hr0.trans kk); go_simp; first | done | with_reducible rfl)
        try simp only [Act.put, List.setIfInBounds_toArray, List.set_cons_zero, List.set_cons_succ]
        refine' Reg.wpG_take (i := 3) (oi := { dst := some 15, op := Op.move (Operand.tmp 5), type := 3, pos := "ref.go:63", after := #[], guard := none }) (v := _) [4, 5, 6, 7, 8, 9] [] rfl rfl (by kernel_rfl) (by kernel_rfl) (by kernel_rfl) (by kernel_rfl) (by kernel_rfl) (by kernel_rfl) (by kernel_rfl) (fun _ _ _ h => h) (Or.inl ⟨by rfl, Or.inl ?hy15⟩) ?rest15
        case hy15 => (intro w' kk ss; obtain ⟨x0, x1, x2, x3⟩ := bx4 (BX.out _ (HW.out.trans (hr0.trans kk))); obtain ⟨u0, u1⟩ := HC.out _ (hr0.trans kk); go_simp; first | done | with_reducible rfl)
        try simp only [Act.put, List.setIfInBounds_toArray, List.set_cons_zero, List.set_cons_succ]
        refine' Reg.wpG_take (i := 4) (oi := { dst := some 16, op := Op.indexAddr 22 (Operand.tmp 14) (Operand.tmp 15), type := 0, pos := "ref.go:63", after := #[{ on := 2, ground := Ground.data }, { on := 3, ground := Ground.data }], guard := none }) (v := _) [5, 6, 7, 8, 9] [] rfl rfl (by kernel_rfl) (by kernel_rfl) (by kernel_rfl) (by kernel_rfl) (by kernel_rfl) (by kernel_rfl) (by kernel_rfl) (fun _ _ _ h => h) (Or.inl ⟨by rfl, Or.inl ?hy16⟩) ?rest16
        case hy16 => (intro w' kk ss; obtain ⟨x0, x1, x2, x3⟩ := bx4 (BX.out _ (HW.out.trans (hr0.trans kk))); obtain ⟨u0, u1⟩ := HC.out _ (hr0.trans kk); go_simp; first | done | with_reducible rfl)
        try simp only [Act.put, List.setIfInBounds_toArray, List.set_cons_zero, List.set_cons_succ]
        refine' Reg.wpG_take (i := 5) (oi := { dst := some 17, op := Op.load 3 (Operand.tmp 16), type := 3, pos := "ref.go:63", after := #[{ on := 4, ground := Ground.data }], guard := none }) (v := _) [6, 7, 8, 9] [] rfl rfl (by kernel_rfl) (by kernel_rfl) (by kernel_rfl) (by kernel_rfl) (by kernel_rfl) (by kernel_rfl) (by kernel_rfl) (fun _ _ _ h => h) (Or.inl ⟨by rfl, Or.inl ?hy17⟩) ?rest17
        case hy17 => (intro w' kk ss; obtain ⟨x0, x1, x2, x3⟩ := bx4 (BX.out _ (HW.out.trans (hr0.trans kk))); obtain ⟨u0, u1⟩ := HC.out _ (hr0.trans kk); go_simp; first | done | with_reducible rfl)
        try simp only [Act.put, List.setIfInBounds_toArray, List.set_cons_zero, List.set_cons_succ]
        refine' Reg.wpG_take (i := 6) (oi := { dst := some 18, op := Op.indexAddr 30 (Operand.tmp 13) (Operand.tmp 17), type := 0, pos := "ref.go:63", after := #[{ on := 1, ground := Ground.data }, { on := 5, ground := Ground.data }], guard := none }) (v := _) [7, 8, 9] [] rfl rfl (by kernel_rfl) (by kernel_rfl) (by kernel_rfl) (by kernel_rfl) (by kernel_rfl) (by kernel_rfl) (by kernel_rfl) (fun _ _ _ h => h) (Or.inl ⟨by rfl, Or.inl ?hy18⟩) ?rest18
        case hy18 => (intro w' kk ss; obtain ⟨x0, x1, x2, x3⟩ := bx4 (BX.out _ (HW.out.trans (hr0.trans kk))); obtain ⟨u0, u1⟩ := HC.out _ (hr0.trans kk); go_simp; first | done | with_reducible rfl)
        try simp only [Act.put, List.setIfInBounds_toArray, List.set_cons_zero, List.set_cons_succ]
        refine' Reg.wpG_take (i := 7) (oi := { dst := some 19, op := Op.load 47 (Operand.tmp 18), type := 47, pos := "ref.go:63", after := #[{ on := 6, ground := Ground.data }], guard := none }) (v := _) [8, 9] [] rfl rfl (by kernel_rfl) (by kernel_rfl) (by kernel_rfl) (by kernel_rfl) (by kernel_rfl) (by kernel_rfl) (by kernel_rfl) (fun _ _ _ h => h) (Or.inl ⟨by rfl, Or.inl ?hy19⟩) ?rest19
        case hy19 => (intro w' kk ss; obtain ⟨x0, x1, x2, x3⟩ := bx4 (BX.out _ (HW.out.trans (hr0.trans kk))); obtain ⟨u0, u1⟩ := HC.out _ (hr0.trans kk); go_simp; first | done | with_reducible rfl)
        try simp only [Act.put, List.setIfInBounds_toArray, List.set_cons_zero, List.set_cons_succ]
        refine Reg.wpG_take (i := 8) (oi := { dst := some 20, op := Op.call { callee := Callee.value (Operand.func 59), args := #[Operand.tmp 19], argTypes := #[47] }, type := 4, pos := "ref.go:63", after := #[{ on := 7, ground := Ground.data }], guard := none }) (v := .bool false) [9] [] rfl rfl (by kernel_rfl) (by kernel_rfl) (by kernel_rfl) (by kernel_rfl) (by kernel_rfl) (by kernel_rfl) (by kernel_rfl) (fun _ _ _ h => h) (Or.inl ⟨by rfl, Or.inr ⟨59, #[.slice B2 p d2], fun w' kk ss => ⟨?_, ?_⟩⟩⟩) ?_
        · (try dsimp only at ss); go_simp
        · exact TA.out w' (hr0.trans kk)
        try simp only [Act.put, List.setIfInBounds_toArray, List.set_cons_zero, List.set_cons_succ]
        refine' Reg.wpG_take (i := 9) (oi := { dst := some 21, op := Op.unOp UnOp.not 4 (Operand.tmp 20), type := 4, pos := "ref.go:63", after := #[{ on := 8, ground := Ground.data }], guard := none }) (v := _) [] [] rfl rfl (by kernel_rfl) (by kernel_rfl) (by kernel_rfl) (by kernel_rfl) (by kernel_rfl) (by kernel_rfl) (by kernel_rfl) (fun _ _ _ h => h) (Or.inl ⟨by rfl, Or.inl ?hy20⟩) ?rest20
        case hy20 => (intro w' kk ss; obtain ⟨x0, x1, x2, x3⟩ := bx4 (BX.out _ (HW.out.trans (hr0.trans kk))); obtain ⟨u0, u1⟩ := HC.out _ (hr0.trans kk); go_simp; first | done | with_reducible rfl)
        try simp only [Act.put, List.setIfInBounds_toArray, List.set_cons_zero, List.set_cons_succ]
        refine Reg.wpG_done (by kernel_rfl) (fun we ke se => ?_) _
        refine NoPanic.normal ?_
        have hr0 := hr0.trans ke
        clear ke
        go_wp2
        go_ret
        exact .of HE.out (ka.out.trans (HW.out.trans hr0))
    · obtain rfl : k = n := by omega
      have HE2 := Lib.hid (show true = R by rw [← HE.out, List.drop_of_length_le (by have := HN.out; omega)]; rfl)
      go_wp2
      go_ret
      exact .of HE2.out (ka.out.trans HW.out)
section
open Go.RowKit
set_option linter.unusedVariables false
set_option linter.unusedSimpArgs false
open Go.Proofs.Ytfcinefmnigacaa.Dig Go.Proofs.Ytfcinefmnigacaa.Lx Go.Proofs.Ytfcinefmnigacaa.Tk Go.Proofs.Ytfcinefmnigacaa.Ti Go.Proofs.Ytfcinefmnigacaa.Zs Go.Proofs.Ytfcinefmnigacaa.Tr

theorem sgn_free {k : Int} (h : k ≠ 11) (h2 : k ≠ 19) (a : List Int) (c : Int) : sgn k a c = true := by
  have e : a.all (okE k) = true := List.all_eq_true.2 fun n _ => by simp [okE, h, h2]
  rw [sgn, e]; simp [h2]
theorem sgn_11 (a : List Int) (c : Int) : sgn 11 a c = a.all sg1 := by
  have e : okE 11 = sg1 := by
    funext n
    by_cases h1 : n = 1
    · subst h1; rfl
    · by_cases h2 : n = -1
      · subst h2; rfl
      · simp [okE, sg1, h1, h2]
  rw [sgn, e]; simp
theorem sgn_19 (a : List Int) (c : Int) : sgn 19 a c = (a.all nn0 && decide (0 ≤ c)) := by
  have e : okE 19 = nn0 := by
    funext n
    by_cases h1 : n < 0
    · have h2 : ¬ (0 ≤ n) := by omega
      simp [okE, nn0, h1, h2]
    · have h2 : 0 ≤ n := by omega
      simp [okE, nn0, h1, h2]
  rw [sgn, e]; simp
set_option maxRecDepth 20000 in
set_option maxHeartbeats 4000000 in
theorem rshape_any (k : Int) (X : Option Addr) (n xc : Nat) (Y : Option Addr) (m yc : Nat) (a : List Int) (c : Int) (w : World) (h : Sl 1 QI w (.slice Y m yc) a) (hn : n ≤ 1100000) (hm : m ≤ 1100000) :
    Calls Try.prog 57 #[.agg #[.int .i64 k, .slice X n xc, .slice Y m yc, .int .i64 c]] w (RetT (shp k n m && sgn k a c) w) := by
  have hma := h.at_.1
  have SA := Lib.hid (fun b (hb : a.all sg1 = b) W (kk : Since w W) => by have := rsigns_any _ a W (h.since stI kk) (by omega); rw [hb] at this; exact this)
  have NA := Lib.hid (fun b (hb : a.all nn0 = b) W (kk : Since w W) => by have := rnone_any _ a W (h.since stI kk) (by omega); rw [hb] at this; exact this)
  clear hma h
  have ka := Lib.hid (since_alloc w (.cells #[.int .i64 k, .slice X n xc, .slice Y m yc, .int .i64 c] 25))
  have kd := Lib.hid (Since.drew ka.out)
  have BX := Lib.hid (fun W (kk : Since (w.alloc (.cells #[.int .i64 k, .slice X n xc, .slice Y m yc, .int .i64 c] 25)).drew W) => (Bx.fresh w #[.int .i64 k, .slice X n xc, .slice Y m yc, .int .i64 c] 25).since ((Since.drew (Since.refl _)).trans kk))
  by_cases k11 : k = 11
  · subst k11
    obtain ⟨S, hS⟩ : ∃ S, a.all sg1 = S := ⟨_, rfl⟩
    have SB := Lib.hid (SA.out S hS)
    rw [sgn_11, hS]
    clear SA NA hS
    by_cases e : n = m
    · rw [show shp 11 n m = true from decide_eq_true e, Bool.true_and]
      have z : ((n : Int) == (m : Int)) = true := by rw [beq_iff_eq]; omega
      clear e
      go_enter Try.func57, Try.ntmps57
      go_wp2
      go_region
      all_goals go_wp2_with (go_at_call 73; (first | (with_reducible refine (SB.out _ ka.out).mono ?_) | (with_reducible refine (SB.out _ kd.out).mono ?_)); rintro e w1 ⟨rfl, k1⟩)
      all_goals go_ret
      all_goals exact ⟨rfl, by first | exact ka.out.trans k1 | exact kd.out.trans k1⟩
    · rw [show shp 11 n m = false from decide_eq_false e, Bool.false_and]
      have z : ((n : Int) == (m : Int)) = false := by rw [beq_eq_false_iff_ne]; omega
      clear e
      go_enter Try.func57, Try.ntmps57
      go_wp2
      go_region
      all_goals go_wp2
      all_goals go_ret
      all_goals exact ⟨rfl, by first | exact ka.out | exact kd.out⟩
  by_cases k19 : k = 19
  · subst k19
    obtain ⟨S, hS⟩ : ∃ S, a.all nn0 = S := ⟨_, rfl⟩
    have SB := Lib.hid (NA.out S hS)
    rw [sgn_19, hS]
    clear SA NA hS
    by_cases e : m = 2 * n
    · rw [show shp 19 n m = true from decide_eq_true e, Bool.true_and]
      have z : ((m : Int) == 2 * (n : Int)) = true := by rw [beq_iff_eq]; omega
      clear e
      cases S with
      | false =>
        go_enter Try.func57, Try.ntmps57
        go_wp2
        go_region
        all_goals go_wp2_with (go_at_call 74; (first | (with_reducible refine (SB.out _ ka.out).mono ?_) | (with_reducible refine (SB.out _ kd.out).mono ?_)); rintro e w1 ⟨rfl, k1⟩)
        all_goals go_ret
        all_goals exact ⟨rfl, by first | exact ka.out.trans k1 | exact kd.out.trans k1⟩
      | true =>
        by_cases c0 : c ≥ 0
        · have hz : decide (0 ≤ c) = true := decide_eq_true c0
          rw [hz]
          go_enter Try.func57, Try.ntmps57
          go_wp2
          go_region
          all_goals go_wp2_with (go_at_call 74; (first | (with_reducible refine (SB.out _ ka.out).mono ?_) | (with_reducible refine (SB.out _ kd.out).mono ?_)); rintro e w1 ⟨rfl, k1⟩; obtain ⟨b0, b1, b2, b3⟩ := bx4 (BX.out _ k1))
          all_goals go_ret
          all_goals exact ⟨rfl, by first | exact ka.out.trans k1 | exact kd.out.trans k1⟩
        · have hz : decide (0 ≤ c) = false := decide_eq_false c0
          rw [hz]
          go_enter Try.func57, Try.ntmps57
          go_wp2
          go_region
          all_goals go_wp2_with (go_at_call 74; (first | (with_reducible refine (SB.out _ ka.out).mono ?_) | (with_reducible refine (SB.out _ kd.out).mono ?_)); rintro e w1 ⟨rfl, k1⟩; obtain ⟨b0, b1, b2, b3⟩ := bx4 (BX.out _ k1))
          all_goals go_ret
          all_goals exact ⟨rfl, by first | exact ka.out.trans k1 | exact kd.out.trans k1⟩
    · rw [show shp 19 n m = false from decide_eq_false e, Bool.false_and]
      have z : ((m : Int) == 2 * (n : Int)) = false := by rw [beq_eq_false_iff_ne]; omega
      clear e
      go_enter Try.func57, Try.ntmps57
      go_wp2
      go_region
      all_goals go_wp2
      all_goals go_ret
      all_goals exact ⟨rfl, by first | exact ka.out | exact kd.out⟩
  rw [sgn_free k11 k19, Bool.and_true]
  clear SA NA
  rcases kd_or k with hk | hk
  · cases hk
    all_goals first | exact absurd rfl k11 | exact absurd rfl k19 | skip
    all_goals clear k11 k19
    all_goals go_enter Try.func57, Try.ntmps57
    all_goals go_wp2
    all_goals go_region
    all_goals go_wp2
    all_goals go_ret
    all_goals refine RetT.of ?_ (by first | exact ka.out | exact kd.out)
    all_goals (rw [Bool.eq_iff_iff]; simp [shp]; try omega)
  · rw [shp_out hk]
    have ne := ne_lit hk
    have n1 := ne 1 (by decide) (by decide)
    have n2 := ne 2 (by decide) (by decide)
    have n3 := ne 3 (by decide) (by decide)
    have n4 := ne 4 (by decide) (by decide)
    have n5 := ne 5 (by decide) (by decide)
    have n6 := ne 6 (by decide) (by decide)
    have n7 := ne 7 (by decide) (by decide)
    have n8 := ne 8 (by decide) (by decide)
    have n9 := ne 9 (by decide) (by decide)
    have n10 := ne 10 (by decide) (by decide)
    have n11 := ne 11 (by decide) (by decide)
    have n12 := ne 12 (by decide) (by decide)
    have n13 := ne 13 (by decide) (by decide)
    have n14 := ne 14 (by decide) (by decide)
    have n15 := ne 15 (by decide) (by decide)
    have n16 := ne 16 (by decide) (by decide)
    have n17 := ne 17 (by decide) (by decide)
    have n18 := ne 18 (by decide) (by decide)
    have n19 := ne 19 (by decide) (by decide)
    clear ne hk k11 k19
    go_enter Try.func57, Try.ntmps57
    go_wp2
    go_region
    all_goals go_wp2
    all_goals go_ret
    all_goals exact ⟨rfl, by first | exact ka.out | exact kd.out⟩
end
end Go.Proofs.Ytfcinefmnigacaa.Sn
