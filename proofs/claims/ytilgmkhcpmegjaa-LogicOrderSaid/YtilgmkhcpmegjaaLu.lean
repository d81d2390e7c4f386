/- Layer 12 (linear): the law's own Smaller, Under. -/
import Derived.Test.YtilgmkhcpmegjaaQbt
import Derived.Test.YtilgmkhcpmegjaaQat
import Derived.Test.YtilgmkhcpmegjaaQbl
namespace Go.Proofs.Ytilgmkhcpmegjaa.Ln
open Go.RowKit
set_option linter.unusedVariables false
set_option linter.unusedSimpArgs false
open Go.Proofs.Ytilgmkhcpmegjaa.Dig Go.Proofs.Ytilgmkhcpmegjaa.Lx Go.Proofs.Ytilgmkhcpmegjaa.Tk Go.Proofs.Ytilgmkhcpmegjaa.Ti Go.Proofs.Ytilgmkhcpmegjaa.Zs Go.Proofs.Ytilgmkhcpmegjaa.Tr Go.Proofs.Ytilgmkhcpmegjaa.Sn
/-- ranges that lie there -/
def RAu (w : World) (v : Value) (d : List Rn) : Prop := Sl 2 QR w v d
theorem RAu.since {w w' : World} {v : Value} {d : List Rn} (h : RAu w v d) (k : Since w w') : RAu w' v d := Sl.since stR h k
/-- a domain that does not lie in the row R -/
def QE (R : Value) (w : World) (d : List Rn) (u : List Value) : Prop := ∃ v, u = [v] ∧ Sl 2 QR w v d ∧ ∀ b, v.ownBlock = some b → b < w.heap.size ∧ R.ownBlock ≠ some b
theorem QE.since {R : Value} {w w' : World} {d : List Rn} {u : List Value} (h : QE R w d u) (k : Since w w') : QE R w' d u := by
  obtain ⟨v, h1, h2, h3⟩ := h
  exact ⟨v, h1, h2.since stR k, fun b hb => ⟨Nat.lt_of_lt_of_le (h3 b hb).1 k.size, (h3 b hb).2⟩⟩
theorem QE.app {R R' : Value} {w w' : World} {d : List Rn} {u : List Value} (h : QE R w d u) (k : Wide R R' w w') : QE R' w' d u := by
  obtain ⟨v, h1, h2, h3⟩ := h
  refine ⟨v, h1, Sl.kept (G := fun b => R.ownBlock = some b) (Q := QR) (Q' := QR) k.1 (fun b hb => hb) (fun _ _ h => h) h2 ?_, fun b hb => ⟨Nat.lt_of_lt_of_le (h3 b hb).1 k.1.size, fun e => ?_⟩⟩
  · rintro b o n c rfl hn e
    exact (h3 b rfl).2 e
  · rcases k.2 with e2 | e2
    · exact (h3 b hb).2 (e2 ▸ e)
    · rw [e] at e2
      injection e2 with e2
      have := (h3 b hb).1
      omega
/-- domains in a row of the call's own, that lie elsewhere -/
def RqU (w0 w : World) (v : Value) (xs : Ds) : Prop := Rq 43 (QE v w) w0 w v xs
theorem RqU.nil {w0 w : World} (h : Since w0 w) : RqU w0 w (.slice none 0 0) [] := Rq.nil _ _ h
theorem RqU.s {w0 w : World} {v : Value} {xs : Ds} (h : RqU w0 w v xs) : Since w0 w := Rq.s h
theorem RqU.sl {w0 w : World} {v : Value} {xs : Ds} (h : RqU w0 w v xs) : Sl 1 QD w v xs := by
  obtain ⟨A, c, h1, h2, h3⟩ := Rq.sl h
  refine ⟨A, c, h1, h2, fun hl => ?_⟩
  obtain ⟨b, o, h4, h5⟩ := h3 hl
  refine ⟨b, o, h4, fun i x hx => ?_⟩
  obtain ⟨u, ⟨v', e1, e2, e3⟩, h7, h8⟩ := h5 i x hx
  exact ⟨u, ⟨v', e1, e2⟩, h7, h8⟩
theorem RqU.since {w0 w w' : World} {v : Value} {xs : Ds} (h : RqU w0 w v xs) (k : Since w w') : RqU w0 w' v xs := by
  obtain ⟨cs, h1, h2, h3⟩ := h
  exact ⟨cs, owns_since h1 k, h2.mono fun x u hu => QE.since hu k, h3.trans k⟩
theorem RqU.app {w0 w : World} {v : Value} {xs : Ds} (H : RqU w0 w v xs) (hl : xs.length ≤ 1000000) (x : List Rn) (y : Value) (hQ : QE v w x [y]) (h1 : y.oneCell' = true) (g d : Nat) (hb : w.cell? ⟨g, 0, none⟩ = some y)
    {ops : Array Oper} {rest : List Oper} {o : Oper} {a : Act} {R : Exit → Act → World → Prop} (hw : Region.wanted o (yielded ops a.tmps) = true) (s z : Operand)
    (ho : o.op = .call { callee := .builtin .append, args := #[s, z], argTypes := #[26, 26] }) (hs : a.eval s = v) (hx : a.eval z = .slice (some ⟨g, 0, none⟩) 1 d)
    (h : ∀ A c w', RqU w0 w' (.slice A (xs.length + 1) c) (xs ++ [x]) → wpList Try.prog ops R rest (a.put o.dst (.slice A (xs.length + 1) c)) w') : wpList Try.prog ops R (o :: rest) a w :=
  wpList_appW kD2 H hl x y hQ h1 g d hb hw s z ho hs hx fun A c w' h3 q3 => h A c w' (by
    obtain ⟨cs, q1, q2, q4⟩ := h3
    exact ⟨cs, q1, q2.mono fun x u hu => QE.app hu q3, q4⟩)
theorem sl_lt {w : World} {v : Value} {d : List Rn} (h : Sl 2 QR w v d) (hd : d ≠ []) {b : Nat} (hb : v.ownBlock = some b) : b < w.heap.size := by
  obtain ⟨A, c, rfl⟩ := h.form
  obtain ⟨g, o, rfl, e0, -⟩ := elR h (i := 0) (List.length_pos_iff.2 hd)
  injection hb with hb
  subst hb
  exact World.block_lt_of_cell? _ _ e0
/-- what two sets have, whatever the second list is -/
theorem rmeet_wide (v1 v2 : Value) (d c : List Rn) (w : World) (h1 : Sl 2 QR w v1 d) (h2 : Sl 2 QR w v2 c) (hd : right d = true) (hl2 : c.length ≤ 9223372036854775807) (hb2 : Bd c) :
    Calls Try.prog 76 #[v1, v2] w (RetF (meet d c) w) := by
  have hl1 := right_len hd
  have hb1 : Bd d := okF_bd hd (Int.le_refl _)
  cases hr : right c with
  | true => exact rmeet_new v1 v2 d c w h1 h2 hl1 (right_len hr) hb1 hb2
  | false =>
    have R1 := Lib.hid (rright_at h1 hl1 hb1 hd)
    have R2 := Lib.hid (fun W (k : Since w W) => by have := rright_long v2 c W (h2.since stR k) hl2 hb2; rw [hr] at this; exact this)
    have E := Lib.hid (show meet d c = [] by rw [meet, hr, Bool.and_false]; rfl)
    obtain ⟨A, ca, rfl⟩ := h1.form
    obtain ⟨B, cb, rfl⟩ := h2.form
    clear h1 h2 hb1 hb2 hr hd
    go_enter Try.func76, Try.ntmps76
    go_wp2_with (first | (go_at_call 73; (with_reducible refine (R1.out _ (Since.refl _)).mono ?_); rintro e w1 ⟨rfl, k1⟩; have K1 := Lib.hid k1; clear k1) | (go_at_call 73; (with_reducible refine (R2.out _ K1.out).mono ?_); rintro e w2 ⟨rfl, k2⟩; have K2 := Lib.hid (K1.out.trans k2); clear k2))
    go_ret
    exact .none E.out K2.out
set_option maxRecDepth 20000 in
set_option maxHeartbeats 3000000 in
theorem smaller_any (v1 v2 : Value) (D C : Ds) (w : World) (h1 : Sl 1 QD w v1 D) (h2 : Sl 1 QD w v2 C) (hl : C.length = D.length) (hdl : D.length ≤ 100) (hG : Gd D) (hb : ∀ c ∈ C, Bd c ∧ c.length ≤ 9223372036854775807) :
    Calls Try.prog 23 #[v1, v2] w (RetD (sml D C) w) := by
  obtain ⟨A, ca, rfl⟩ := h1.form
  obtain ⟨B, cb, rfl⟩ := h2.form
  obtain ⟨n, hn⟩ : ∃ n, n = D.length := ⟨_, rfl⟩
  rw [hl] at h2 ⊢
  have hT : ∀ k (hk : k < D.length) (hk2 : k < C.length), (sml D C).take (k + 1) = (sml D C).take k ++ [smlE D[k] C[k]] := fun k hk hk2 => by
    have h := List.take_succ_eq_append_getElem (l := sml D C) (i := k) (by rw [sml_len hl]; exact hk)
    rw [sml_at hl hk] at h
    exact h
  have HT := Lib.hid hT
  have HL := Lib.hid hl
  have HSL := Lib.hid (sml_len hl)
  rw [← hn] at h1 h2 hdl ⊢
  have H1 := Lib.hid h1
  have H2 := Lib.hid h2
  have HN := Lib.hid hn
  have HG := Lib.hid hG
  have HB := Lib.hid hb
  generalize sml D C = S at *
  clear h1 h2 hn hG hb hl hT
  go_enter Try.func23, Try.ntmps23
  go_wp2
  go_loopw [5, 10] (fun s i wr => ∃ (k : Nat) (OB : Option Addr) (oc : Nat) (xs : Ds), i = .int .i64 (k : Int) ∧ s = .slice OB k oc ∧ k ≤ n ∧ Hid (xs = S.take k) ∧ Hid (xs.length = k) ∧ Hid (RqU w wr (.slice OB k oc) xs)) (fun _ i _ => n - (intOf i).toNat)
  case atStart => exact ⟨0, none, 0, [], rfl, rfl, Nat.zero_le _, rfl, rfl, RqU.nil (Since.refl _)⟩
  case round =>
    obtain ⟨k, OB, oc, xs, rfl, rfl, hk, HX, HXL, HR⟩ := hrel
    by_cases hkn : k < n
    · have hkl : k < D.length := by have := HN.out; omega
      have hkc : k < C.length := by have := HL.out; omega
      obtain ⟨g, o, D1, d1, rfl, hS, e1⟩ := elD (H1.out.since stD HR.out.s) hkl
      obtain ⟨g2, o2, D2, d2, rfl, hS2, e2⟩ := elD (H2.out.since stD HR.out.s) hkc
      have T := Lib.hid (HT.out k hkl hkc)
      have hg := HG.out _ (List.getElem_mem hkl)
      obtain ⟨g9, o9, D9, d9, hA9, hS9, e9⟩ := elD H1.out hkl
      injection hA9 with hA9
      injection hA9 with hg9 ho9
      subst hg9 ho9
      have e8 := (HR.out.s.cell _ (World.block_lt_of_cell? _ _ e9)).trans e9
      rw [e8] at e1
      injection e1 with e1
      injection e1 with h91 _ h92
      subst h91 h92
      have e1 := e8
      have hlt := fun b hb => sl_lt hS9 hg.2 (b := b) hb
      have hbc := HB.out _ (List.getElem_mem hkc)
      have hx9 : xs.length ≤ 1000000 := by have := HXL.out; omega
      generalize D[k] = y at *
      generalize C[k] = c at *
      obtain ⟨q, hq⟩ : ∃ q, q = c.length := ⟨_, rfl⟩
      have hq9 : q ≤ 9223372036854775807 := by rw [hq]; exact hbc.2
      rw [← hq] at e2 hS2
      obtain ⟨p, hp⟩ : ∃ p, p = y.length := ⟨_, rfl⟩
      rw [← hp] at e1 hS hlt
      have CA := Lib.hid (fun W (kk : Since wr W) => show W.cell? ⟨g, o + k, none⟩ = some (.slice D9 p d9) from (kk.cell _ (World.block_lt_of_cell? _ _ e1)).trans e1)
      have CC := Lib.hid (fun W (kk : Since wr W) => show W.cell? ⟨g2, o2 + k, none⟩ = some (.slice D2 q d2) from (kk.cell _ (World.block_lt_of_cell? _ _ e2)).trans e2)
      have ME := Lib.hid (fun W (kk : Since wr W) => (rmeet_wide _ _ y c W (hS.since stR kk) (hS2.since stR kk) hg.1 hbc.2 hbc.1).mono fun _ _ h => by
        obtain ⟨A, m, c, h1, h2, h3, h4⟩ := newR_of h
        exact (show ∃ A m c, _ ∧ _ ∧ NewR wr _ _ _ ∧ _ from ⟨A, m, c, h1, h2, ⟨h3.1, fun b hb => ⟨Nat.le_trans kk.size (h3.2 b hb).1, (h3.2 b hb).2⟩⟩, h4⟩))
      have LT := Lib.hid hlt
      have HSy := Lib.hid hS
      have HQ := Lib.hid hq
      have EY := Lib.hid (fun (h : meet y c = [] ∨ 100 < q) => show smlE y c = y by rw [smlE, if_pos (hq ▸ h)])
      have EM := Lib.hid (fun (h : ¬ (meet y c = [] ∨ 100 < q)) => show smlE y c = meet y c by rw [smlE, if_neg (hq ▸ h)])
      generalize hme : meet y c = m at *
      clear hS hS2 hS9 hkl hkc hg hbc hq hp hlt e8 e9
      go_wp2
      have hr0 : Since wr wr.drew := Since.drew (Since.refl wr)
      refine wp_region_noPanic ?_
      refine Reg.wp_region_G (S := fun _ => True) (fun j => [].contains j) (by kernel_rfl) trivial ?_
      refine' Reg.tk3 (i := 0) (v := _) (some 13) [2, 3, 8, 9] [] rfl (Or.inl ⟨by rfl, Or.inl ?hy2⟩) ?rest2
      case hy2 => (intro w' kk ss; have qa := CA.out _ (hr0.trans kk); have qc := CC.out _ (hr0.trans kk); go_simp; first | done | with_reducible rfl)
      try simp only [Act.put, List.setIfInBounds_toArray, List.set_cons_zero, List.set_cons_succ]
      refine' Reg.tk3 (i := 1) (v := _) (some 14) [2, 3, 8, 9] [] rfl (Or.inl ⟨by rfl, Or.inl ?hy3⟩) ?rest3
      case hy3 => (intro w' kk ss; have qa := CA.out _ (hr0.trans kk); have qc := CC.out _ (hr0.trans kk); go_simp; first | done | with_reducible rfl)
      try simp only [Act.put, List.setIfInBounds_toArray, List.set_cons_zero, List.set_cons_succ]
      refine' Reg.tk3 (i := 2) (v := _) (some 15) [3, 8, 9] [] rfl (Or.inl ⟨by rfl, Or.inl ?hy4⟩) ?rest4
      case hy4 => (intro w' kk ss; have qa := CA.out _ (hr0.trans kk); have qc := CC.out _ (hr0.trans kk); go_simp; first | done | with_reducible rfl)
      try simp only [Act.put, List.setIfInBounds_toArray, List.set_cons_zero, List.set_cons_succ]
      refine' Reg.tk3 (i := 3) (v := _) (some 16) [8, 9] [] rfl (Or.inl ⟨by rfl, Or.inl ?hy5⟩) ?rest5
      case hy5 => (intro w' kk ss; have qa := CA.out _ (hr0.trans kk); have qc := CC.out _ (hr0.trans kk); go_simp; first | done | with_reducible rfl)
      try simp only [Act.put, List.setIfInBounds_toArray, List.set_cons_zero, List.set_cons_succ]
      refine' Reg.tk3 (i := 4) (v := _) (some 17) [6, 7, 8, 9] [] rfl (Or.inl ⟨by rfl, Or.inl ?hy6⟩) ?rest6
      case hy6 => (intro w' kk ss; have qa := CA.out _ (hr0.trans kk); have qc := CC.out _ (hr0.trans kk); go_simp; first | done | with_reducible rfl)
      try simp only [Act.put, List.setIfInBounds_toArray, List.set_cons_zero, List.set_cons_succ]
      refine' Reg.tk3 (i := 5) (v := _) (some 18) [6, 7, 8, 9] [] rfl (Or.inl ⟨by rfl, Or.inl ?hy7⟩) ?rest7
      case hy7 => (intro w' kk ss; have qa := CA.out _ (hr0.trans kk); have qc := CC.out _ (hr0.trans kk); go_simp; first | done | with_reducible rfl)
      try simp only [Act.put, List.setIfInBounds_toArray, List.set_cons_zero, List.set_cons_succ]
      refine' Reg.tk3 (i := 6) (v := _) (some 19) [7, 8, 9] [] rfl (Or.inl ⟨by rfl, Or.inl ?hy8⟩) ?rest8
      case hy8 => (intro w' kk ss; have qa := CA.out _ (hr0.trans kk); have qc := CC.out _ (hr0.trans kk); go_simp; first | done | with_reducible rfl)
      try simp only [Act.put, List.setIfInBounds_toArray, List.set_cons_zero, List.set_cons_succ]
      refine' Reg.tk3 (i := 7) (v := _) (some 20) [8, 9] [] rfl (Or.inl ⟨by rfl, Or.inl ?hy9⟩) ?rest9
      case hy9 => (intro w' kk ss; have qa := CA.out _ (hr0.trans kk); have qc := CC.out _ (hr0.trans kk); go_simp; first | done | with_reducible rfl)
      try simp only [Act.put, List.setIfInBounds_toArray, List.set_cons_zero, List.set_cons_succ]
      refine Reg.wpG_ready (rs := [8]) (by kernel_rfl) (by simp) (fun wq1001 k1001' sq1001 => ?_)
      have hr0 := hr0.trans k1001'
      refine Reg.AllG.first (o := { dst := some 21, op := Op.call { callee := Callee.value (Operand.func 76), args := #[Operand.tmp 16, Operand.tmp 20], argTypes := #[43, 43] }, type := 43, pos := "law.go:138", after := #[{ on := 3, ground := Ground.data }, { on := 7, ground := Ground.data }], guard := none }) rfl (by rfl) (fun K hK => ?_) Reg.AllG.nil
      go_simp
      (with_reducible refine (ME.out wq1001 hr0).mono ?_)
      rintro e y1001 ⟨MA, mm, mc, rfl, hm2, q1, hx⟩
      refine hK.out _ _ trivial hx ?_
      clear hK K
      have hr0 := hr0.trans hx
      clear hx
      try simp only [Act.put, List.setIfInBounds_toArray, List.set_cons_zero, List.set_cons_succ]
      refine' Reg.tk3 (i := 9) (v := _) (some 7) [] [] rfl (Or.inl ⟨by rfl, Or.inl ?hy10⟩) ?rest10
      case hy10 => (intro w' kk ss; have qa := CA.out _ (hr0.trans kk); have qc := CC.out _ (hr0.trans kk); go_simp; first | done | with_reducible rfl)
      try simp only [Act.put, List.setIfInBounds_toArray, List.set_cons_zero, List.set_cons_succ]
      refine Reg.wpG_done (by kernel_rfl) (fun we ke se => ?_) _
      refine NoPanic.normal ?_
      have hr0 := hr0.trans ke
      have q1 := q1.since ke
      clear ke
      obtain ⟨c1, c2⟩ : we.cell? ⟨g, o + k, none⟩ = some (.slice D9 p d9) ∧ we.cell? ⟨g2, o2 + k, none⟩ = some (.slice D2 q d2) := ⟨CA.out _ hr0, CC.out _ hr0⟩
      have HRy := Lib.hid (fun box => HR.out.since (hr0.trans (since_alloc we box)))
      have NE := Lib.hid (fun (h : mm = 0) => show m = [] from List.eq_nil_of_length_eq_zero (by rw [hm2]; exact h))
      have NN := Lib.hid (fun (h : 0 < mm) (e : m = []) => show False by rw [e] at hm2; simp at hm2; omega)
      have QM := Lib.hid (fun box => show QE (.slice OB k oc) (we.alloc box) m [.slice MA mm mc] from ⟨_, rfl, q1.1.since stR (since_alloc _ _), fun b hb => ⟨Nat.lt_of_lt_of_le (q1.2 b hb).2.1 (since_alloc we box).size, fun e => by have h1 := (Rq.lt HR.out b e).2; have h2 := (q1.2 b hb).1; omega⟩⟩)
      have QY := Lib.hid (fun box => show QE (.slice OB k oc) (we.alloc box) y [.slice D9 p d9] from ⟨_, rfl, (HSy.out.since stR hr0).since stR (since_alloc _ _), fun b hb => ⟨Nat.lt_of_lt_of_le (LT.out b hb) (HR.out.s.trans (hr0.trans (since_alloc we box))).size, fun e => by have h1 := (Rq.lt HR.out b e).1; have h2 := LT.out b hb; omega⟩⟩)
      clear hr0 q1 hm2
      by_cases hz : mm = 0
      case pos =>
        have E1 := Lib.hid (show S.take (k + 1) = S.take k ++ [y] by rw [T.out, EY.out (.inl (NE.out hz))])
        subst hz
        go_wp2_with (at_builtin; refine RqU.app (HRy.out _) hx9 y (.slice D9 p d9) (QY.out _) rfl we.heap.size 1 ((Bx.fresh we _ _).cell 0) (by rfl) _ _ rfl rfl rfl ?_; intro A3 c3 w3 h3)
        go_roundw
        case rel => exact ⟨k + 1, A3, c3, xs ++ [y], by go_num, by rw [HXL.out], by omega, Lib.hid (by rw [HX.out]; exact E1.out.symm), Lib.hid (by rw [List.length_append, HXL.out]; rfl), Lib.hid (by rw [HXL.out] at h3; exact h3)⟩
        case measure => simp [intOf]; omega
      have hmp : 0 < mm := by omega
      by_cases hq1 : 100 < q
      · have E1 := Lib.hid (show S.take (k + 1) = S.take k ++ [y] by rw [T.out, EY.out (.inr hq1)])
        go_wp2_with (at_builtin; refine RqU.app (HRy.out _) hx9 y (.slice D9 p d9) (QY.out _) rfl we.heap.size 1 ((Bx.fresh we _ _).cell 0) (by rfl) _ _ rfl rfl rfl ?_; intro A3 c3 w3 h3)
        go_roundw
        case rel => exact ⟨k + 1, A3, c3, xs ++ [y], by go_num, by rw [HXL.out], by omega, Lib.hid (by rw [HX.out]; exact E1.out.symm), Lib.hid (by rw [List.length_append, HXL.out]; rfl), Lib.hid (by rw [HXL.out] at h3; exact h3)⟩
        case measure => simp [intOf]; omega
      · have hq2 : (q : Int) ≤ 100 := by omega
        have hq3 : ¬ (q : Int) > 100 := by omega
        have hz0 : ¬ (mm : Int) = 0 := by omega
        have hz1 : ((mm : Int) == 0) = false := by rw [beq_eq_false_iff_ne]; omega
        have E1 := Lib.hid (show S.take (k + 1) = S.take k ++ [m] by rw [T.out, EM.out (fun h => h.elim (NN.out hmp) hq1)])
        go_wp2_with (at_builtin; refine RqU.app (HRy.out _) hx9 m (.slice MA mm mc) (QM.out _) rfl we.heap.size 1 ((Bx.fresh we _ _).cell 0) (by rfl) _ _ rfl rfl rfl ?_; intro A3 c3 w3 h3)
        go_roundw
        case rel => exact ⟨k + 1, A3, c3, xs ++ [m], by go_num, by rw [HXL.out], by omega, Lib.hid (by rw [HX.out]; exact E1.out.symm), Lib.hid (by rw [List.length_append, HXL.out]; rfl), Lib.hid (by rw [HXL.out] at h3; exact h3)⟩
        case measure => simp [intOf]; omega
    · obtain rfl : k = n := by omega
      have E := Lib.hid (show xs = S by rw [HX.out, List.take_of_length_le (by rw [HSL.out]; have := HN.out; omega)])
      go_wp2
      go_ret
      have e := E.out
      subst e
      exact ⟨_, _, _, rfl, HXL.out, HR.out.sl, HR.out.s⟩
set_option maxRecDepth 20000 in
set_option maxHeartbeats 3000000 in
theorem under_yes (v1 v2 : Value) (E' E : Ds) (w : World) (h1 : Sl 1 QD w v1 E') (h2 : Sl 1 QD w v2 E) (hs : Sub E' E) (hl : E.length ≤ 100) (hG' : Gd E') (hG : Gd E) :
    Calls Try.prog 24 #[v1, v2] w (RetT true w) := by
  obtain ⟨A, ca, rfl⟩ := h1.form
  obtain ⟨B, cb, rfl⟩ := h2.form
  obtain ⟨n, hn⟩ : ∃ n, n = E.length := ⟨_, rfl⟩
  have hsl := hs.1
  rw [hsl] at h1 ⊢
  rw [← hn] at h1 h2 hl ⊢
  have H1 := Lib.hid h1
  have H2 := Lib.hid h2
  have HN := Lib.hid hn
  have HSL := Lib.hid hsl
  have HS := Lib.hid hs.2
  have HG := Lib.hid hG
  have HG' := Lib.hid hG'
  clear h1 h2 hn hG hG' hs hsl
  go_enter Try.func24, Try.ntmps24
  go_wp2
  go_loopw [13] (fun i wr => ∃ (k : Nat), i = .int .i64 (k : Int) ∧ k ≤ n ∧ Hid (Since w wr)) (fun i _ => n - (intOf i).toNat)
  case atStart => exact ⟨0, rfl, Nat.zero_le _, Since.refl _⟩
  case round =>
    obtain ⟨k, rfl, hk, HW⟩ := hrel
    by_cases hkn : k < n
    · have hkE : k < E.length := by have := HN.out; omega
      have hkl : k < E'.length := by have := HSL.out; omega
      obtain ⟨g, o, D1, d1, rfl, hS, e1⟩ := elD (H1.out.since stD HW.out) hkl
      obtain ⟨g2, o2, D2, d2, rfl, hS2, e2⟩ := elD (H2.out.since stD HW.out) hkE
      have hg := HG.out _ (List.getElem_mem hkE)
      have hg' := HG'.out _ (List.getElem_mem hkl)
      have hsub : ∀ v, mem E'[k] v → mem E[k] v := fun v hv => by
        have := HS.out (k : Int) (by omega) v
        rw [domAt_lt (by exact hkl), domAt_lt (by exact hkE)] at this
        exact this hv
      have hme : meet E'[k] E[k] = E'[k] := meet_sub hg'.1 hg.1 hsub
      generalize E'[k] = y at *
      generalize E[k] = c at *
      have ME := Lib.hid (fun W (kk : Since wr W) => by
        have := (rmeet_wide _ _ y c W (hS.since stR kk) (hS2.since stR kk) hg'.1 (by have := right_len hg.1; omega) (okF_bd hg.1 (Int.le_refl _))).mono fun _ _ h => newR_of h
        rw [hme] at this
        exact this)
      have SA := Lib.hid (fun W (kk : Since wr W) v1 (hv : RAu W v1 y) => show Calls Try.prog 75 #[v1, .slice D1 y.length d1] W (fun e w' => e = .returned (.bool true) ∧ Since W w' ∧ True) by
        have h9 := right_len hg'.1
        have := rsame_any v1 _ y y W hv (hS.since stR kk) h9 h9 (okF_bd hg'.1 (Int.le_refl _)) (okF_bd hg'.1 (Int.le_refl _))
        rw [show same y y = true by rw [same, hg'.1]; simp] at this
        exact this.mono fun e w' h => ⟨h.1, h.2, trivial⟩)
      generalize y.length = p at *
      generalize c.length = q at *
      have CA := Lib.hid (fun W (kk : Since wr W) => show W.cell? ⟨g, o + k, none⟩ = some (.slice D1 p d1) from (kk.cell _ (World.block_lt_of_cell? _ _ e1)).trans e1)
      have CC := Lib.hid (fun W (kk : Since wr W) => show W.cell? ⟨g2, o2 + k, none⟩ = some (.slice D2 q d2) from (kk.cell _ (World.block_lt_of_cell? _ _ e2)).trans e2)
      clear hS hS2 hkl hkE hg hg' hsub hme e1 e2
      go_wp2
      have hr0 : Since wr wr.drew := Since.drew (Since.refl wr)
      refine wp_region_noPanic ?_
      refine Reg.wp_region_G (S := fun _ => True) (fun j => [].contains j) (by kernel_rfl) trivial ?_
      refine' Reg.tk3 (i := 0) (v := _) (some 16) [2, 3, 8, 13, 14] [] rfl (Or.inl ⟨by rfl, Or.inl ?hy12⟩) ?rest12
      case hy12 => (intro w' kk ss; have qa := CA.out _ (hr0.trans kk); have qc := CC.out _ (hr0.trans kk); go_simp; first | done | with_reducible rfl)
      try simp only [Act.put, List.setIfInBounds_toArray, List.set_cons_zero, List.set_cons_succ]
      refine' Reg.tk3 (i := 1) (v := _) (some 17) [2, 3, 8, 13, 14] [] rfl (Or.inl ⟨by rfl, Or.inl ?hy13⟩) ?rest13
      case hy13 => (intro w' kk ss; have qa := CA.out _ (hr0.trans kk); have qc := CC.out _ (hr0.trans kk); go_simp; first | done | with_reducible rfl)
      try simp only [Act.put, List.setIfInBounds_toArray, List.set_cons_zero, List.set_cons_succ]
      refine' Reg.tk3 (i := 2) (v := _) (some 18) [3, 8, 13, 14] [] rfl (Or.inl ⟨by rfl, Or.inl ?hy14⟩) ?rest14
      case hy14 => (intro w' kk ss; have qa := CA.out _ (hr0.trans kk); have qc := CC.out _ (hr0.trans kk); go_simp; first | done | with_reducible rfl)
      try simp only [Act.put, List.setIfInBounds_toArray, List.set_cons_zero, List.set_cons_succ]
      refine' Reg.tk3 (i := 3) (v := _) (some 19) [8, 13, 14] [] rfl (Or.inl ⟨by rfl, Or.inl ?hy15⟩) ?rest15
      case hy15 => (intro w' kk ss; have qa := CA.out _ (hr0.trans kk); have qc := CC.out _ (hr0.trans kk); go_simp; first | done | with_reducible rfl)
      try simp only [Act.put, List.setIfInBounds_toArray, List.set_cons_zero, List.set_cons_succ]
      refine' Reg.tk3 (i := 4) (v := _) (some 20) [6, 7, 8, 13, 14] [] rfl (Or.inl ⟨by rfl, Or.inl ?hy16⟩) ?rest16
      case hy16 => (intro w' kk ss; have qa := CA.out _ (hr0.trans kk); have qc := CC.out _ (hr0.trans kk); go_simp; first | done | with_reducible rfl)
      try simp only [Act.put, List.setIfInBounds_toArray, List.set_cons_zero, List.set_cons_succ]
      refine' Reg.tk3 (i := 5) (v := _) (some 21) [6, 7, 8, 13, 14] [] rfl (Or.inl ⟨by rfl, Or.inl ?hy17⟩) ?rest17
      case hy17 => (intro w' kk ss; have qa := CA.out _ (hr0.trans kk); have qc := CC.out _ (hr0.trans kk); go_simp; first | done | with_reducible rfl)
      try simp only [Act.put, List.setIfInBounds_toArray, List.set_cons_zero, List.set_cons_succ]
      refine' Reg.tk3 (i := 6) (v := _) (some 22) [7, 8, 13, 14] [] rfl (Or.inl ⟨by rfl, Or.inl ?hy18⟩) ?rest18
      case hy18 => (intro w' kk ss; have qa := CA.out _ (hr0.trans kk); have qc := CC.out _ (hr0.trans kk); go_simp; first | done | with_reducible rfl)
      try simp only [Act.put, List.setIfInBounds_toArray, List.set_cons_zero, List.set_cons_succ]
      refine' Reg.tk3 (i := 7) (v := _) (some 23) [8, 13, 14] [] rfl (Or.inl ⟨by rfl, Or.inl ?hy19⟩) ?rest19
      case hy19 => (intro w' kk ss; have qa := CA.out _ (hr0.trans kk); have qc := CC.out _ (hr0.trans kk); go_simp; first | done | with_reducible rfl)
      try simp only [Act.put, List.setIfInBounds_toArray, List.set_cons_zero, List.set_cons_succ]
      refine' Reg.tk3 (i := 9) (v := _) (some 25) [11, 12, 13, 14] [] rfl (Or.inl ⟨by rfl, Or.inl ?hy20⟩) ?rest20
      case hy20 => (intro w' kk ss; have qa := CA.out _ (hr0.trans kk); have qc := CC.out _ (hr0.trans kk); go_simp; first | done | with_reducible rfl)
      try simp only [Act.put, List.setIfInBounds_toArray, List.set_cons_zero, List.set_cons_succ]
      refine' Reg.tk3 (i := 10) (v := _) (some 26) [11, 12, 13, 14] [] rfl (Or.inl ⟨by rfl, Or.inl ?hy21⟩) ?rest21
      case hy21 => (intro w' kk ss; have qa := CA.out _ (hr0.trans kk); have qc := CC.out _ (hr0.trans kk); go_simp; first | done | with_reducible rfl)
      try simp only [Act.put, List.setIfInBounds_toArray, List.set_cons_zero, List.set_cons_succ]
      refine' Reg.tk3 (i := 11) (v := _) (some 27) [12, 13, 14] [] rfl (Or.inl ⟨by rfl, Or.inl ?hy22⟩) ?rest22
      case hy22 => (intro w' kk ss; have qa := CA.out _ (hr0.trans kk); have qc := CC.out _ (hr0.trans kk); go_simp; first | done | with_reducible rfl)
      try simp only [Act.put, List.setIfInBounds_toArray, List.set_cons_zero, List.set_cons_succ]
      refine' Reg.tk3 (i := 12) (v := _) (some 28) [13, 14] [] rfl (Or.inl ⟨by rfl, Or.inl ?hy23⟩) ?rest23
      case hy23 => (intro w' kk ss; have qa := CA.out _ (hr0.trans kk); have qc := CC.out _ (hr0.trans kk); go_simp; first | done | with_reducible rfl)
      try simp only [Act.put, List.setIfInBounds_toArray, List.set_cons_zero, List.set_cons_succ]
      refine Reg.wpG_ready (rs := [8]) (by kernel_rfl) (by simp) (fun wq11001 k11001' sq11001 => ?_)
      have hr0 := hr0.trans k11001'
      refine Reg.AllG.first (o := { dst := some 24, op := Op.call { callee := Callee.value (Operand.func 76), args := #[Operand.tmp 19, Operand.tmp 23], argTypes := #[43, 43] }, type := 43, pos := "law.go:62", after := #[{ on := 3, ground := Ground.data }, { on := 7, ground := Ground.data }], guard := none }) rfl (by rfl) (fun K hK => ?_) Reg.AllG.nil
      go_simp
      (with_reducible refine (ME.out wq11001 hr0).mono ?_)
      rintro e y11001 ⟨MA, mm, mc, rfl, -, q0, hx⟩
      have q1 : RAu _ (.slice MA mm mc) y := q0.1
      clear q0
      refine hK.out _ _ trivial hx ?_
      clear hK K
      have hr0 := hr0.trans hx
      clear hx
      try simp only [Act.put, List.setIfInBounds_toArray, List.set_cons_zero, List.set_cons_succ]
      refine Reg.wpG_ready (rs := [13]) (by kernel_rfl) (by simp) (fun wq11002 k11002' sq11002 => ?_)
      have hr0 := hr0.trans k11002'
      have q1 := q1.since k11002'
      refine Reg.AllG.first (o := { dst := some 29, op := Op.call { callee := Callee.value (Operand.func 75), args := #[Operand.tmp 24, Operand.tmp 28], argTypes := #[43, 43] }, type := 4, pos := "law.go:62", after := #[{ on := 8, ground := Ground.data }, { on := 12, ground := Ground.data }, { on := 8, ground := Ground.chain }], guard := none }) rfl (by rfl) (fun K hK => ?_) Reg.AllG.nil
      go_simp
      (with_reducible refine (SA.out wq11002 hr0 _ q1).mono ?_)
      rintro e y11002 ⟨rfl, hx, -⟩
      refine hK.out _ _ trivial hx ?_
      clear hK K
      have hr0 := hr0.trans hx
      have q1 := q1.since hx
      clear hx
      try simp only [Act.put, List.setIfInBounds_toArray, List.set_cons_zero, List.set_cons_succ]
      refine' Reg.tk3 (i := 14) (v := _) (some 30) [] [] rfl (Or.inl ⟨by rfl, Or.inl ?hy24⟩) ?rest24
      case hy24 => (intro w' kk ss; have qa := CA.out _ (hr0.trans kk); have qc := CC.out _ (hr0.trans kk); go_simp; first | done | with_reducible rfl)
      try simp only [Act.put, List.setIfInBounds_toArray, List.set_cons_zero, List.set_cons_succ]
      refine Reg.wpG_done (by kernel_rfl) (fun we ke se => ?_) _
      refine NoPanic.normal ?_
      have hr0 := hr0.trans ke
      have q1 := q1.since ke
      clear ke
      go_wp2
      go_roundw
      case rel => exact ⟨k + 1, by go_num, by omega, Lib.hid (HW.out.trans hr0)⟩
      case measure => simp [intOf]; omega
    · obtain rfl : k = n := by omega
      go_wp2
      go_ret
      exact ⟨rfl, HW.out⟩
end Go.Proofs.Ytilgmkhcpmegjaa.Ln
