/- Layer 9 (set): the document's own Of. -/
import Derived.Test.YtdlbfpodgjkimaaEr
namespace Go.Proofs.Ytdlbfpodgjkimaa.Zs
open Go.RowKit
set_option linter.unusedVariables false
set_option linter.unusedSimpArgs false
open Go.Proofs.Ytdlbfpodgjkimaa.Dig Go.Proofs.Ytdlbfpodgjkimaa.Lx Go.Proofs.Ytdlbfpodgjkimaa.Tk Go.Proofs.Ytdlbfpodgjkimaa.Ti

/-- ends in ranges, or in the error of an argument -/
def RetO (r : Option (List Rn)) (w : World) (e : Ending) (w' : World) : Prop := ∃ A m c, e = .returned (.tuple #[.slice A m c, .int .i64 (if r.isSome then 0 else 2)]) ∧ (r.getD []).length = m ∧ Sl 2 QR w' (.slice A m c) (r.getD []) ∧ Since w w'
theorem RetO.no {r : Option (List Rn)} {w w' : World} (h : none = r) (k : Since w w') : RetO r w (.returned (.tuple #[.slice none 0 0, .int .i64 2])) w' := by
  subst h; exact ⟨none, 0, 0, rfl, rfl, Sl.nil _ _ _, k⟩
theorem RetO.yes {r : Option (List Rn)} {d : List Rn} {A : Option Addr} {m c : Nat} {w w' : World} (h : some d = r) (hm : d.length = m) (hS : Sl 2 QR w' (.slice A m c) d) (k : Since w w') : RetO r w (.returned (.tuple #[.slice A m c, .int .i64 0])) w' := by
  subst h; exact ⟨A, m, c, rfl, hm, hS, k⟩
theorem joinT_len (r : Rn) (la : Bool) (d : List Rn) : (joinT r la d).length ≤ d.length + if la then 0 else 1 := by
  induction d generalizing r la with
  | nil => rw [joinT]; cases la <;> simp
  | cons k d ih =>
    rw [joinT]
    split
    · have := ih r la; simp only [List.length_cons]; omega
    · split
      · have := ih r true
        cases la <;> simp at this ⊢ <;> omega
      · have := ih (min r.1 k.1, max r.2 k.2) la; simp only [List.length_cons]; omega
theorem ofD_skip {acc R2 : List Rn} {R : Option (List Rn)} {lo hi : Int} {t : List Rn} (h : ofD acc ((lo, hi) :: t) = R) (c : lo > hi) : ofD acc t = R := by rw [ofD, if_pos c] at h; exact h
theorem ofD_no {acc : List Rn} {R : Option (List Rn)} {lo hi : Int} {t : List Rn} (h : ofD acc ((lo, hi) :: t) = R) (c : ¬ lo > hi) (k : (within lo && within hi) = false) : none = R := by rw [ofD, if_neg c, k] at h; exact h
theorem ofD_more {acc : List Rn} {R : Option (List Rn)} {lo hi : Int} {t : List Rn} (h : ofD acc ((lo, hi) :: t) = R) (c : ¬ lo > hi) (k : (within lo && within hi) = true) : ofD (joinT (lo, hi) false acc) t = R := by rw [ofD, if_neg c, k] at h; exact h
set_option maxRecDepth 20000 in
set_option maxHeartbeats 2000000 in
theorem rof_any (v : Value) (l : List Rn) (w : World) (h : Sl 2 QR w v l) (hl : l.length ≤ 90000) :
    Calls Try.prog 12 #[v] w (RetO (ofD [] l) w) := by
  obtain ⟨A, c, rfl⟩ := h.form
  obtain ⟨R, hR⟩ : ∃ R, R = ofD [] l := ⟨_, rfl⟩
  rw [← hR]
  obtain ⟨n, hn⟩ : ∃ n, n = l.length := ⟨_, rfl⟩
  rw [← hn] at h hl ⊢
  have H := Lib.hid h
  have HN := Lib.hid hn
  have HR := Lib.hid hR
  clear h hn hR
  go_enter Try.func12, Try.ntmps12
  go_wp2
  go_loopw [4, 5] (fun s i wr => ∃ (k : Nat) (A : Option Addr) (m c : Nat) (acc : List Rn), i = .int .i64 (k : Int) ∧ s = .slice A m c ∧ k ≤ n ∧ m ≤ k ∧ Hid (acc.length = m) ∧ Hid (right acc = true) ∧ Hid (Sl 2 QR wr (.slice A m c) acc) ∧ Hid (Since w wr) ∧ Hid (ofD acc (l.drop k) = R)) (fun _ i _ => n - (intOf i).toNat)
  case atStart => exact ⟨0, none, 0, 0, [], rfl, rfl, Nat.zero_le _, Nat.le_refl _, rfl, rfl, Sl.nil _ _ _, Since.refl _, HR.out.symm⟩
  case round =>
    obtain ⟨k, A2, m, d2, acc, rfl, rfl, hk, hm, HX, HG, HA, HW, HE⟩ := hrel
    by_cases hkn : k < n
    · have hkl : k < l.length := by have := HN.out; omega
      obtain ⟨g, o, rfl, e0, e1⟩ := elR (H.out.since stR HW.out) hkl
      have hst := HE.out
      rw [drop_at hkl] at hst
      generalize l[k] = y at *
      obtain ⟨lo, hi⟩ := y
      simp only at hst e0 e1
      have ST := Lib.hid hst
      have HC := Lib.hid (fun W (kk : Since wr W) => (show W.cell? ⟨g, o + k * 2, none⟩ = some (.int .i64 lo) ∧ W.cell? ⟨g, o + k * 2 + 1, none⟩ = some (.int .i64 hi) from ⟨(kk.cell _ (World.block_lt_of_cell? _ _ e0)).trans e0, (kk.cell _ (World.block_lt_of_cell? _ _ e1)).trans e1⟩))
      clear hst hkl HE e0 e1
      go_wp2
      have hr0 : Since wr wr.drew := Since.drew (Since.refl wr)
      refine wp_region_noPanic ?_
      refine Reg.wp_region_G (S := fun _ => True) (fun j => [].contains j) (by kernel_rfl) trivial ?_
      refine' Reg.wpG_take (i := 0) (oi := { dst := some 12, op := Op.move (Operand.tmp 0), type := 22, pos := "ref.go:26", after := #[], guard := none }) (v := _) [2, 3, 4, 10] [] rfl rfl (by kernel_rfl) (by kernel_rfl) (by kernel_rfl) (by kernel_rfl) (by kernel_rfl) (by kernel_rfl) (by kernel_rfl) (fun _ _ _ h => h) (Or.inl ⟨by rfl, Or.inl ?hy1⟩) ?rest1
      case hy1 => (intro w' kk ss; obtain ⟨x0, x1⟩ := HC.out _ (hr0.trans kk); go_simp; first | done | with_reducible rfl)
      try simp only [Act.put, List.setIfInBounds_toArray, List.set_cons_zero, List.set_cons_succ]
      refine' Reg.wpG_take (i := 1) (oi := { dst := some 13, op := Op.move (Operand.tmp 5), type := 3, pos := "ref.go:26", after := #[], guard := none }) (v := _) [2, 3, 4, 10] [] rfl rfl (by kernel_rfl) (by kernel_rfl) (by kernel_rfl) (by kernel_rfl) (by kernel_rfl) (by kernel_rfl) (by kernel_rfl) (fun _ _ _ h => h) (Or.inl ⟨by rfl, Or.inl ?hy2⟩) ?rest2
      case hy2 => (intro w' kk ss; obtain ⟨x0, x1⟩ := HC.out _ (hr0.trans kk); go_simp; first | done | with_reducible rfl)
      try simp only [Act.put, List.setIfInBounds_toArray, List.set_cons_zero, List.set_cons_succ]
      refine' Reg.wpG_take (i := 2) (oi := { dst := some 14, op := Op.indexAddr 22 (Operand.tmp 12) (Operand.tmp 13), type := 0, pos := "ref.go:26", after := #[{ on := 0, ground := Ground.data }, { on := 1, ground := Ground.data }], guard := none }) (v := _) [3, 4, 10] [] rfl rfl (by kernel_rfl) (by kernel_rfl) (by kernel_rfl) (by kernel_rfl) (by kernel_rfl) (by kernel_rfl) (by kernel_rfl) (fun _ _ _ h => h) (Or.inl ⟨by rfl, Or.inl ?hy3⟩) ?rest3
      case hy3 => (intro w' kk ss; obtain ⟨x0, x1⟩ := HC.out _ (hr0.trans kk); go_simp; first | done | with_reducible rfl)
      try simp only [Act.put, List.setIfInBounds_toArray, List.set_cons_zero, List.set_cons_succ]
      refine' Reg.wpG_take (i := 3) (oi := { dst := some 15, op := Op.fieldAddr 32 (Operand.tmp 14) 0, type := 0, pos := "ref.go:26", after := #[{ on := 2, ground := Ground.data }], guard := none }) (v := _) [4, 10] [] rfl rfl (by kernel_rfl) (by kernel_rfl) (by kernel_rfl) (by kernel_rfl) (by kernel_rfl) (by kernel_rfl) (by kernel_rfl) (fun _ _ _ h => h) (Or.inl ⟨by rfl, Or.inl ?hy4⟩) ?rest4
      case hy4 => (intro w' kk ss; obtain ⟨x0, x1⟩ := HC.out _ (hr0.trans kk); go_simp; first | done | with_reducible rfl)
      try simp only [Act.put, List.setIfInBounds_toArray, List.set_cons_zero, List.set_cons_succ]
      refine' Reg.wpG_take (i := 4) (oi := { dst := some 16, op := Op.load 2 (Operand.tmp 15), type := 2, pos := "ref.go:26", after := #[{ on := 3, ground := Ground.data }], guard := none }) (v := _) [10] [] rfl rfl (by kernel_rfl) (by kernel_rfl) (by kernel_rfl) (by kernel_rfl) (by kernel_rfl) (by kernel_rfl) (by kernel_rfl) (fun _ _ _ h => h) (Or.inl ⟨by rfl, Or.inl ?hy5⟩) ?rest5
      case hy5 => (intro w' kk ss; obtain ⟨x0, x1⟩ := HC.out _ (hr0.trans kk); go_simp; first | done | with_reducible rfl)
      try simp only [Act.put, List.setIfInBounds_toArray, List.set_cons_zero, List.set_cons_succ]
      refine' Reg.wpG_take (i := 5) (oi := { dst := some 17, op := Op.move (Operand.tmp 0), type := 22, pos := "ref.go:26", after := #[], guard := none }) (v := _) [7, 8, 9, 10] [] rfl rfl (by kernel_rfl) (by kernel_rfl) (by kernel_rfl) (by kernel_rfl) (by kernel_rfl) (by kernel_rfl) (by kernel_rfl) (fun _ _ _ h => h) (Or.inl ⟨by rfl, Or.inl ?hy6⟩) ?rest6
      case hy6 => (intro w' kk ss; obtain ⟨x0, x1⟩ := HC.out _ (hr0.trans kk); go_simp; first | done | with_reducible rfl)
      try simp only [Act.put, List.setIfInBounds_toArray, List.set_cons_zero, List.set_cons_succ]
      refine' Reg.wpG_take (i := 6) (oi := { dst := some 18, op := Op.move (Operand.tmp 5), type := 3, pos := "ref.go:26", after := #[], guard := none }) (v := _) [7, 8, 9, 10] [] rfl rfl (by kernel_rfl) (by kernel_rfl) (by kernel_rfl) (by kernel_rfl) (by kernel_rfl) (by kernel_rfl) (by kernel_rfl) (fun _ _ _ h => h) (Or.inl ⟨by rfl, Or.inl ?hy7⟩) ?rest7
      case hy7 => (intro w' kk ss; obtain ⟨x0, x1⟩ := HC.out _ (hr0.trans kk); go_simp; first | done | with_reducible rfl)
      try simp only [Act.put, List.setIfInBounds_toArray, List.set_cons_zero, List.set_cons_succ]
      refine' Reg.wpG_take (i := 7) (oi := { dst := some 19, op := Op.indexAddr 22 (Operand.tmp 17) (Operand.tmp 18), type := 0, pos := "ref.go:26", after := #[{ on := 5, ground := Ground.data }, { on := 6, ground := Ground.data }], guard := none }) (v := _) [8, 9, 10] [] rfl rfl (by kernel_rfl) (by kernel_rfl) (by kernel_rfl) (by kernel_rfl) (by kernel_rfl) (by kernel_rfl) (by kernel_rfl) (fun _ _ _ h => h) (Or.inl ⟨by rfl, Or.inl ?hy8⟩) ?rest8
      case hy8 => (intro w' kk ss; obtain ⟨x0, x1⟩ := HC.out _ (hr0.trans kk); go_simp; first | done | with_reducible rfl)
      try simp only [Act.put, List.setIfInBounds_toArray, List.set_cons_zero, List.set_cons_succ]
      refine' Reg.wpG_take (i := 8) (oi := { dst := some 20, op := Op.fieldAddr 32 (Operand.tmp 19) 1, type := 0, pos := "ref.go:26", after := #[{ on := 7, ground := Ground.data }], guard := none }) (v := _) [9, 10] [] rfl rfl (by kernel_rfl) (by kernel_rfl) (by kernel_rfl) (by kernel_rfl) (by kernel_rfl) (by kernel_rfl) (by kernel_rfl) (fun _ _ _ h => h) (Or.inl ⟨by rfl, Or.inl ?hy9⟩) ?rest9
      case hy9 => (intro w' kk ss; obtain ⟨x0, x1⟩ := HC.out _ (hr0.trans kk); go_simp; first | done | with_reducible rfl)
      try simp only [Act.put, List.setIfInBounds_toArray, List.set_cons_zero, List.set_cons_succ]
      refine' Reg.wpG_take (i := 9) (oi := { dst := some 21, op := Op.load 2 (Operand.tmp 20), type := 2, pos := "ref.go:26", after := #[{ on := 8, ground := Ground.data }], guard := none }) (v := _) [10] [] rfl rfl (by kernel_rfl) (by kernel_rfl) (by kernel_rfl) (by kernel_rfl) (by kernel_rfl) (by kernel_rfl) (by kernel_rfl) (fun _ _ _ h => h) (Or.inl ⟨by rfl, Or.inl ?hy10⟩) ?rest10
      case hy10 => (intro w' kk ss; obtain ⟨x0, x1⟩ := HC.out _ (hr0.trans kk); go_simp; first | done | with_reducible rfl)
      try simp only [Act.put, List.setIfInBounds_toArray, List.set_cons_zero, List.set_cons_succ]
      refine' Reg.wpG_take (i := 10) (oi := { dst := some 22, op := Op.binOp BinOp.gtr 2 (Operand.tmp 16) (Operand.tmp 21) 2, type := 4, pos := "ref.go:26", after := #[{ on := 4, ground := Ground.data }, { on := 9, ground := Ground.data }], guard := none }) (v := _) [] [] rfl rfl (by kernel_rfl) (by kernel_rfl) (by kernel_rfl) (by kernel_rfl) (by kernel_rfl) (by kernel_rfl) (by kernel_rfl) (fun _ _ _ h => h) (Or.inl ⟨by rfl, Or.inl ?hy11⟩) ?rest11
      case hy11 => (intro w' kk ss; obtain ⟨x0, x1⟩ := HC.out _ (hr0.trans kk); go_simp; first | done | with_reducible rfl)
      try simp only [Act.put, List.setIfInBounds_toArray, List.set_cons_zero, List.set_cons_succ]
      refine Reg.wpG_done (by kernel_rfl) (fun w5 ke se => ?_) _
      refine NoPanic.normal ?_
      have hr0 := hr0.trans ke
      clear ke
      have HA5 := Lib.hid (HA.out.since stR hr0)
      have HW5 := Lib.hid (HW.out.trans hr0)
      obtain ⟨x0, x1⟩ := HC.out _ hr0
      clear HC HA HW hr0
      by_cases c1 : lo > hi
      · have HE := Lib.hid (ofD_skip (R2 := []) ST.out c1)
        go_wp2
        go_roundw
        case rel => exact ⟨k + 1, A2, m, d2, acc, by go_num, rfl, by omega, by omega, HX.out, HG.out, HA5.out, HW5.out, HE.out⟩
        case measure => simp [intOf]; omega
      · have WL := Lib.hid (within_any lo)
        have WH := Lib.hid (within_any hi)
        cases hwl : within lo with
        | false =>
          have HE := Lib.hid (ofD_no ST.out c1 (by rw [hwl]; rfl))
          rw [hwl] at WL
          clear ST hwl
          go_wp2_with (go_at_call 36; (with_reducible refine (WL.out _).mono ?_); rintro e w6 ⟨rfl, rfl⟩)
          go_ret2
          exact .no HE.out HW5.out
        | true =>
          cases hwh : within hi with
          | false =>
            have HE := Lib.hid (ofD_no ST.out c1 (by rw [hwl, hwh]; rfl))
            rw [hwl] at WL
            rw [hwh] at WH
            clear ST hwl hwh
            go_wp2_with (first | (go_at_call 36; (with_reducible refine (WL.out _).mono ?_); rintro e w6 ⟨rfl, rfl⟩) | (go_at_call 36; (with_reducible refine (WH.out _).mono ?_); rintro e w6 ⟨rfl, rfl⟩))
            go_ret2
            exact .no HE.out HW5.out
          | true =>
            have HE := Lib.hid (ofD_more ST.out c1 (by rw [hwl, hwh]; rfl))
            have ql := (within_iff lo).1 hwl
            have qh := (within_iff hi).1 hwh
            rw [hwl] at WL
            rw [hwh] at WH
            have J := Lib.hid (rjoined_any (.slice A2 m d2) acc (lo, hi) w5 HA5.out (by have := HX.out; omega) (right_full HG.out) ⟨ql.1, ql.2, qh.1, qh.2⟩)
            have HJ := Lib.hid (show right (joinT (lo, hi) false acc) = true from (joinT_ok HG.out (by simp only; omega) (by simp only [mx]; omega) (by simp only [mx]; omega)).1)
            have HJL := Lib.hid (show (joinT (lo, hi) false acc).length ≤ m + 1 from HX.out ▸ joinT_len (lo, hi) false acc)
            clear ST hwl hwh
            obtain ⟨acc2, hacc⟩ : ∃ x, x = joinT (lo, hi) false acc := ⟨_, rfl⟩
            rw [← hacc] at HE J HJ HJL
            clear hacc
            go_wp2_with (first | (go_at_call 36; (with_reducible refine (WL.out _).mono ?_); rintro e w6 ⟨rfl, rfl⟩) | (go_at_call 36; (with_reducible refine (WH.out _).mono ?_); rintro e w6 ⟨rfl, rfl⟩) | (go_at_call 37; (with_reducible refine J.out.mono ?_); rintro e w7 ⟨A3, m3, c3, rfl, hm3, h3, k3⟩))
            go_roundw
            case rel => exact ⟨k + 1, A3, m3, c3, acc2, by go_num, rfl, by omega, by have := HJL.out; omega, hm3, HJ.out, h3, HW5.out.trans k3, HE.out⟩
            case measure => simp [intOf]; omega
    · obtain rfl : k = n := by omega
      have HE2 := Lib.hid (show some acc = R by rw [← HE.out, List.drop_of_length_le (by have := HN.out; omega)]; rfl)
      go_wp2
      go_ret2
      exact .yes HE2.out HX.out HA.out HW.out
end Go.Proofs.Ytdlbfpodgjkimaa.Zs
