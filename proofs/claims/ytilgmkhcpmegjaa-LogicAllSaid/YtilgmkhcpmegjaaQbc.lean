/- Layer 11 (sense): a list of integers copied by append, and stored into. Layer 11 (sense), pure: a list moved p -/
import Derived.Test.YtilgmkhcpmegjaaKf
set_option linter.unusedVariables false
set_option linter.unusedSimpArgs false
section
namespace Go.Proofs.Ytilgmkhcpmegjaa.Sn
open Go.RowKit
open Go.Proofs.Ytilgmkhcpmegjaa.Dig Go.Proofs.Ytilgmkhcpmegjaa.Lx Go.Proofs.Ytilgmkhcpmegjaa.Tk Go.Proofs.Ytilgmkhcpmegjaa.Ti Go.Proofs.Ytilgmkhcpmegjaa.Zs Go.Proofs.Ytilgmkhcpmegjaa.Tr
/-- the cells begin with these integers -/
def Beg (cur : Array Value) (l : List Int) : Prop := ∀ (i : Nat) (x : Int), l[i]? = some x → cur[i]? = some (Value.int IntKind.i64 x)
theorem sl_bx {W : World} {g : Nat} {cur : Array Value} {e : TypeId} {l : List Int} {n c : Nat} (h : Bx W g cur e) (hn : l.length = n) (hc : n ≤ c) (hh : Beg cur l) : Sl 1 QI W (.slice (some ⟨g, 0, none⟩) n c) l := by
  subst hn
  refine ⟨some ⟨g, 0, none⟩, c, rfl, hc, fun _ => ⟨g, 0, rfl, fun i x hx => ⟨[.int .i64 x], rfl, rfl, fun j y hy => ?_⟩⟩⟩
  match j, hy with
  | 0, hy =>
    cases hy
    rw [show 0 + i * 1 + 0 = i by omega, h.cell i]
    exact hh i x hx
  | j + 1, hy => simp at hy
theorem cur_set {cur : Array Value} {l : List Int} (hh : Beg cur l) {k : Nat} (hk : k < l.length) (y : Int) : Beg (cur.setIfInBounds k (Value.int IntKind.i64 y)) (l.set k y) := by
  intro i x hx
  have hks : k < cur.size := by
    have := hh k l[k] (by simp [hk])
    apply Decidable.byContradiction; intro hn
    rw [Array.getElem?_eq_none (by omega)] at this; cases this
  by_cases e : i = k
  · subst e
    rw [List.getElem?_set_self hk] at hx
    cases hx
    simp [hks]
  · rw [List.getElem?_set_ne (by omega)] at hx
    rw [Array.getElem?_setIfInBounds_ne (by omega)]
    exact hh i x hx
end Go.Proofs.Ytilgmkhcpmegjaa.Sn
end
section
namespace Go.Proofs.Ytilgmkhcpmegjaa.Sn
open Go.RowKit
open Go.Proofs.Ytilgmkhcpmegjaa.Dig Go.Proofs.Ytilgmkhcpmegjaa.Lx Go.Proofs.Ytilgmkhcpmegjaa.Tk Go.Proofs.Ytilgmkhcpmegjaa.Ti Go.Proofs.Ytilgmkhcpmegjaa.Zs Go.Proofs.Ytilgmkhcpmegjaa.Tr
section
open Go.Proofs.Ytilgmkhcpmegjaa.Zs
section
open Go.RowKit
open Go.Proofs.Ytilgmkhcpmegjaa.Dig Go.Proofs.Ytilgmkhcpmegjaa.Lx Go.Proofs.Ytilgmkhcpmegjaa.Tk Go.Proofs.Ytilgmkhcpmegjaa.Ti Go.Proofs.Ytilgmkhcpmegjaa.Zs Go.Proofs.Ytilgmkhcpmegjaa.Tr
def Rz (e : TypeId) (n : Nat) (w : World) (v : Value) (xs : List Int) : Prop := ∃ cs, w.ownsRow n e 1 v xs.length cs ∧ Rws 1 QI0 xs cs
theorem Rz.of {e : TypeId} {w1 w : World} {v : Value} {xs : List Int} (h : Rq e QI0 w1 w v xs) : Rz e w1.heap.size w v xs := by
  obtain ⟨cs, h1, h2, -⟩ := h
  exact ⟨cs, h1, h2⟩
theorem Rz.set {e : TypeId} {n : Nat} {w : World} {v : Value} {xs : List Int} (h : Rz e n w v xs) {a : Addr} (ha : a.block < n) (u : Value) : Rz e n (w.setCell a u) v xs := by
  obtain ⟨cs, h1, h2⟩ := h
  exact ⟨cs, ownsRow_setCell_below h1 ha u, h2⟩
theorem Rz.since {e : TypeId} {n : Nat} {w w' : World} {v : Value} {xs : List Int} (h : Rz e n w v xs) (k : Since w w') : Rz e n w' v xs := by
  obtain ⟨cs, h1, h2⟩ := h
  exact ⟨cs, owns_since h1 k, h2⟩
theorem Rz.sl {e : TypeId} {n : Nat} {w : World} {v : Value} {xs : List Int} (h : Rz e n w v xs) : Sl 1 QI w v xs := by
  obtain ⟨cs, h1, h2⟩ := h
  have : Sl 1 (fun _ => QI0) w v xs := Sl.own h1 h2 rfl
  exact this
def Rb (w0 w : World) (v : Value) (xs : List Int) : Prop := ∃ b1, Since w0 b1 ∧ Rq 2 QI0 b1 w v xs
theorem Rb.since {w0 w w' : World} {v : Value} {xs : List Int} (h : Rb w0 w v xs) (k : Since w w') : Rb w0 w' v xs := by
  obtain ⟨b1, h1, h2⟩ := h
  exact ⟨b1, h1, h2.since k⟩
end
end
end Go.Proofs.Ytilgmkhcpmegjaa.Sn
end
section
namespace Go.Proofs.Ytilgmkhcpmegjaa.Sn
open Go.Proofs.Ytilgmkhcpmegjaa.Zs
theorem bit_iff (x : Int) : bit x = true ↔ x = 0 ∨ x = 1 := by simp only [bit, Bool.and_eq_true, decide_eq_true_eq]; omega
theorem count_all {v : List Int} (h : ∀ x ∈ v, x = 0 ∨ x = 1) : (v.count 1 == v.length) = !v.contains 0 := by
  induction v with
  | nil => rfl
  | cons y v ih =>
    have hi := ih fun x hx => h x (List.mem_cons_of_mem _ hx)
    have hle : v.count 1 ≤ v.length := List.count_le_length
    rcases h y List.mem_cons_self with rfl | rfl
    · simp; omega
    · simp at hi ⊢
      rw [hi]
theorem count_some (v : List Int) : decide (0 < v.count 1) = v.contains 1 := by
  rw [Bool.eq_iff_iff, decide_eq_true_eq, List.count_pos_iff, List.contains_iff_mem]
def clauseE (p : Int × Int) : Bool := (decide (p.1 = 1) && decide (p.2 = 1)) || (decide (p.1 = -1) && decide (p.2 = 0))
theorem clause_lits {a v : List Int} (ha : a.all (okE 11) = true) (hv : v.all bit = true) : (a.zip v).any clauseE = lits a v := by
  rw [lits]
  induction a generalizing v with
  | nil => rfl
  | cons x a ih =>
    cases v with
    | nil => rfl
    | cons y v =>
      rw [List.all_cons, Bool.and_eq_true] at ha hv
      rw [List.zip_cons_cons, List.any_cons, List.any_cons, ih ha.2 hv.2]
      congr 1
      have h1 := ha.1
      simp only [okE, Bool.not_eq_true', Bool.or_eq_false_iff, Bool.and_eq_false_iff, decide_eq_false_iff_not] at h1
      have h2 : x = 1 ∨ x = -1 := by
        rcases h1.1 with h | h
        · rcases h with h | h <;> simp at h; exact Or.inl h
        · simp at h; exact Or.inr h
      rcases (bit_iff y).1 hv.1 with rfl | rfl <;> rcases h2 with rfl | rfl <;> rfl
end Go.Proofs.Ytilgmkhcpmegjaa.Sn
end
section
namespace Go.Proofs.Ytilgmkhcpmegjaa.Sn
open Go.RowKit
open Go.Proofs.Ytilgmkhcpmegjaa.Dig Go.Proofs.Ytilgmkhcpmegjaa.Lx Go.Proofs.Ytilgmkhcpmegjaa.Tk Go.Proofs.Ytilgmkhcpmegjaa.Ti Go.Proofs.Ytilgmkhcpmegjaa.Zs Go.Proofs.Ytilgmkhcpmegjaa.Tr
theorem vals_snoc2 {x a : List Int} {j : Nat} (h : j < x.length) : vals (x.take j) a ++ [valAt a x[j]] = vals (x.take (j + 1)) a := by
  rw [List.take_succ_eq_append_getElem h, vals, vals, List.map_append]; rfl
set_option maxRecDepth 20000 in
set_option maxHeartbeats 3000000 in
theorem rvalues_any (v va : Value) (c : Cn) (a : List Int) (w : World) (h : ConAt w v c) (ha : Sl 1 QI w va a) (hx : c.x.length ≤ 100000) (hin : inR c.x a = true) :
    Calls Try.prog 115 #[v, va] w (fun e w' => ∃ B bc, e = .returned (.slice B c.x.length bc) ∧ Rq 2 QI0 w w' (.slice B c.x.length bc) (vals c.x a)) := by
  obtain ⟨vx, vy, rfl, h1, h2⟩ := h
  obtain ⟨ck, cx, ca, cc⟩ := c
  simp only at h1 h2 hx hin ⊢
  obtain ⟨X, xc, rfl⟩ := h1.form
  obtain ⟨Y, yc, rfl⟩ := h2.form
  obtain ⟨A, ac, rfl⟩ := ha.form
  obtain ⟨nx, hnx⟩ : ∃ n, n = cx.length := ⟨_, rfl⟩
  obtain ⟨na, hna⟩ : ∃ n, n = ca.length := ⟨_, rfl⟩
  obtain ⟨nl, hnl⟩ : ∃ n, n = a.length := ⟨_, rfl⟩
  rw [← hnx] at h1 hx ⊢
  rw [← hna] at h2 ⊢
  rw [← hnl] at ha ⊢
  have H1 := Lib.hid h1
  have H3 := Lib.hid ha
  have HNX := Lib.hid hnx
  have HNL := Lib.hid hnl
  have HIN := Lib.hid hin
  obtain ⟨w0, hw0⟩ : ∃ w0, w0 = w.alloc (.cells #[.int .i64 ck, .slice X nx xc, .slice Y na yc, .int .i64 cc] 25) := ⟨_, rfl⟩
  have ka := Lib.hid (show Since w w0 by rw [hw0]; exact since_alloc w _)
  have BC := Lib.hid (show Bx w0 w.heap.size #[.int .i64 ck, .slice X nx xc, .slice Y na yc, .int .i64 cc] 25 by rw [hw0]; exact Bx.fresh w _ _)
  have HW0 := Lib.hid hw0
  clear h1 h2 ha hnx hna hnl hin hw0
  go_enter Try.func115, Try.ntmps115
  go_wp2
  rw [← HW0.out]
  clear HW0
  go_loopw [5, 6] (fun s i wr => ∃ (j : Nat) (B : Option Addr) (bc : Nat), i = .int .i64 (j : Int) ∧ s = .slice B j bc ∧ j ≤ nx ∧ Hid (Rq 2 QI0 w0 wr (.slice B j bc) (vals (cx.take j) a))) (fun _ i _ => nx - (intOf i).toNat)
  case atStart => exact ⟨0, none, 0, rfl, rfl, Nat.zero_le _, Rq.nil _ _ (Since.refl _)⟩
  case round =>
    obtain ⟨j, B, bc, rfl, rfl, hj, HQ⟩ := hrel
    obtain ⟨b0, b1, b2, b3⟩ := bx4 (BC.out.since HQ.out.s)
    by_cases hjn : j < nx
    · have hjx : j < cx.length := by have := HNX.out; omega
      obtain ⟨g, o, rfl, e0⟩ := elI (H1.out.since stI (ka.out.trans HQ.out.s)) hjx
      have hin := List.all_eq_true.1 HIN.out _ (List.getElem_mem hjx)
      have hs := vals_snoc2 (a := a) hjx
      generalize cx[j] = y at *
      obtain ⟨q, rfl, hq⟩ := isV_nat hin
      obtain ⟨g2, o2, rfl, e2⟩ := elI (H3.out.since stI (ka.out.trans HQ.out.s)) hq
      have hva : valAt a (q : Int) = a[q] := by simp [valAt, hq]
      rw [hva] at hs
      have hqn : q < nl := by have := HNL.out; omega
      generalize a[q] = z at *
      have HS := Lib.hid hs
      have HLJ := Lib.hid (show (vals (cx.take j) a).length = j by rw [vals_len, List.length_take]; omega)
      have HLX := Lib.hid (show (vals (cx.take j) a).length ≤ 1000000 by rw [HLJ.out]; omega)
      clear hs hva hin hjx
      go_wp2_with (at_builtin; refine wpList_appQ nL (HQ.out.since (since_alloc _ _)) HLX.out z (.int .i64 z) rfl rfl wr.heap.size 1 ((Bx.fresh wr _ _).cell 0) (by rfl) _ _ rfl rfl rfl ?_; rw [HLJ.out]; intro A2 c2 w6 h2 q2; have H2 := Lib.hid h2; clear h2 q2)
      go_roundw
      case rel => exact ⟨j + 1, A2, c2, by go_num, by first | rfl | go_num, by omega, by rw [HS.out] at H2; exact H2⟩
      case measure => simp [intOf]; omega
    · obtain rfl : nx = j := by omega
      have HT := Lib.hid (show cx.take nx = cx from List.take_of_length_le (by have := HNX.out; omega))
      go_wp2
      go_ret
      exact ⟨_, _, rfl, by have := HQ.out; rw [HT.out] at this; obtain ⟨cs, h1, h2, h3⟩ := this; exact ⟨cs, ⟨h1.1, h1.2.imp id fun ⟨g, cap, cur, e1, e2, e3⟩ => ⟨g, cap, cur, e1, Nat.le_trans ka.out.size e2, e3⟩⟩, h2, ka.out.trans h3⟩⟩
theorem count_snoc {l : List Int} {j : Nat} (h : j < l.length) (n : Int) : (l.take (j + 1)).count n = (l.take j).count n + (if l[j] == n then 1 else 0) := by
  rw [List.take_succ_eq_append_getElem h, List.count_append, List.count_singleton]
set_option maxRecDepth 20000 in
set_option maxHeartbeats 2000000 in
theorem rcount_any (vl : Value) (l : List Int) (n : Int) (w : World) (h : Sl 1 QI w vl l) (hl : l.length ≤ 1100000) :
    Calls Try.prog 119 #[vl, .int .i64 n] w (fun e w' => e = .returned (.int .i64 (l.count n : Int)) ∧ Since w w' ∧ True) := by
  obtain ⟨A, ac, rfl⟩ := h.form
  obtain ⟨nl, hnl⟩ : ∃ n, n = l.length := ⟨_, rfl⟩
  obtain ⟨R, hR⟩ : ∃ R, R = l.count n := ⟨_, rfl⟩
  rw [← hR]
  rw [← hnl] at h hl ⊢
  have H := Lib.hid h
  have HNL := Lib.hid hnl
  have HR := Lib.hid hR
  clear h hnl hR
  go_enter Try.func119, Try.ntmps119
  go_wp2
  go_loopw [5, 6] (fun s i wr => ∃ (j m : Nat), i = .int .i64 (j : Int) ∧ s = .int .i64 (m : Int) ∧ j ≤ nl ∧ m ≤ j ∧ Hid (m = (l.take j).count n) ∧ Hid (Since w wr)) (fun _ i _ => nl - (intOf i).toNat)
  case atStart => exact ⟨0, 0, rfl, rfl, Nat.zero_le _, Nat.le_refl _, rfl, Since.refl _⟩
  case round =>
    obtain ⟨j, m, rfl, rfl, hj, hmj, HM, HW⟩ := hrel
    by_cases hjn : j < nl
    · have hjl : j < l.length := by have := HNL.out; omega
      obtain ⟨g, o, rfl, e0⟩ := elI (H.out.since stI HW.out) hjl
      have hs := count_snoc hjl n
      generalize l[j] = y at *
      have HS := Lib.hid hs
      clear hs hjl
      by_cases hy : y = n
      · have HT := Lib.hid (show m + 1 = (l.take (j + 1)).count n by rw [HS.out, hy, HM.out]; simp)
        clear HS HM
        subst hy
        go_wp2
        go_roundw
        case rel => exact ⟨j + 1, m + 1, by go_num, by go_num, by omega, by omega, HT.out, HW.out⟩
        case measure => simp [intOf]; omega
      · have HT := Lib.hid (show m = (l.take (j + 1)).count n by rw [HS.out, HM.out]; simp [hy])
        have hyb : (y == n) = false := by simpa using hy
        clear HS HM
        go_wp2
        go_roundw
        case rel => exact ⟨j + 1, m, by go_num, rfl, by omega, by omega, HT.out, HW.out⟩
        case measure => simp [intOf]; omega
    · obtain rfl : nl = j := by omega
      have HT := Lib.hid (show m = R by have := HM.out; rw [List.take_of_length_le (by have := HNL.out; omega)] at this; rw [this, HR.out])
      clear HM
      go_wp2
      go_ret
      exact ⟨by rw [HT.out]; rfl, HW.out, trivial⟩
set_option maxRecDepth 20000 in
set_option maxHeartbeats 3000000 in
theorem rclause_any (v vv : Value) (c : Cn) (l : List Int) (w : World) (h : ConAt w v c) (hv : Sl 1 QI w vv l) (hn : c.a.length = l.length) (hl : l.length ≤ 100000) :
    Calls Try.prog 118 #[v, vv] w (RetT ((c.a.zip l).any clauseE) w) := by
  obtain ⟨vx, vy, rfl, h1, h2⟩ := h
  obtain ⟨ck, cx, ca, cc⟩ := c
  simp only at h1 h2 hn ⊢
  obtain ⟨X, xc, rfl⟩ := h1.form
  obtain ⟨Y, yc, rfl⟩ := h2.form
  obtain ⟨V, vc, rfl⟩ := hv.form
  obtain ⟨R, hR⟩ : ∃ R, R = (ca.zip l).any clauseE := ⟨_, rfl⟩
  rw [← hR]
  obtain ⟨na, hna⟩ : ∃ n, n = ca.length := ⟨_, rfl⟩
  obtain ⟨nv, hnv⟩ : ∃ n, n = l.length := ⟨_, rfl⟩
  generalize cx.length = nx at *
  rw [← hna] at h2 ⊢
  rw [← hnv] at hv hl ⊢
  have hnn : na = nv := by omega
  have H2 := Lib.hid h2
  have H3 := Lib.hid hv
  have HNA := Lib.hid hna
  have HNV := Lib.hid hnv
  have HNN := Lib.hid hnn
  have HR := Lib.hid hR.symm
  have ka := Lib.hid (since_alloc w (.cells #[.int .i64 ck, .slice X nx xc, .slice Y na yc, .int .i64 cc] 25))
  have BC := Lib.hid (Bx.fresh w #[.int .i64 ck, .slice X nx xc, .slice Y na yc, .int .i64 cc] 25)
  clear h1 h2 hv hna hnv hn hR hnn
  go_enter Try.func118, Try.ntmps118
  go_wp2
  go_loopw [5] (fun i wr => ∃ j : Nat, i = .int .i64 (j : Int) ∧ j ≤ nv ∧ Hid (((ca.zip l).drop j).any clauseE = R) ∧ Hid (Since (w.alloc (.cells #[.int .i64 ck, .slice X nx xc, .slice Y na yc, .int .i64 cc] 25)) wr)) (fun i _ => nv - (intOf i).toNat)
  case atStart => exact ⟨0, rfl, Nat.zero_le _, HR.out, Since.refl _⟩
  case round =>
    obtain ⟨j, rfl, hj, HE, HW⟩ := hrel
    obtain ⟨b0, b1, b2, b3⟩ := bx4 (BC.out.since HW.out)
    by_cases hjn : j < nv
    · have hja : j < ca.length := by have := HNA.out; have := HNN.out; omega
      have hjv : j < l.length := by have := HNV.out; omega
      have hjna : j < na := by have := HNN.out; omega
      obtain ⟨g, o, rfl, e0⟩ := elI (H2.out.since stI (ka.out.trans HW.out)) hja
      obtain ⟨g', o', rfl, e1⟩ := elI (H3.out.since stI (ka.out.trans HW.out)) hjv
      have hst := HE.out
      rw [zip_at hja hjv, List.any_cons] at hst
      generalize ca[j] = y at *
      generalize l[j] = m at *
      have ST := Lib.hid hst
      clear hst hja hjv HE
      by_cases y1 : y = 1
      · subst y1
        by_cases m1 : m = 1
        · subst m1
          have HE := Lib.hid (show true = R by rw [← ST.out]; rfl)
          clear ST
          go_wp2
          go_ret
          exact .of HE.out (ka.out.trans HW.out)
        · have HE := Lib.hid (show ((ca.zip l).drop (j + 1)).any clauseE = R by rw [← ST.out]; simp [clauseE, m1])
          clear ST
          go_wp2
          go_roundw
          case rel => exact ⟨j + 1, by go_num, by omega, HE.out, HW.out⟩
          case measure => simp [intOf]; omega
      · by_cases y2 : y = -1
        · subst y2
          by_cases m1 : m = 0
          · subst m1
            have HE := Lib.hid (show true = R by rw [← ST.out]; rfl)
            clear ST
            go_wp2
            go_ret
            exact .of HE.out (ka.out.trans HW.out)
          · have HE := Lib.hid (show ((ca.zip l).drop (j + 1)).any clauseE = R by rw [← ST.out]; simp [clauseE, m1])
            clear ST
            go_wp2
            go_roundw
            case rel => exact ⟨j + 1, by go_num, by omega, HE.out, HW.out⟩
            case measure => simp [intOf]; omega
        · have HE := Lib.hid (show ((ca.zip l).drop (j + 1)).any clauseE = R by rw [← ST.out]; simp [clauseE, y1, y2])
          clear ST
          go_wp2
          go_roundw
          case rel => exact ⟨j + 1, by go_num, by omega, HE.out, HW.out⟩
          case measure => simp [intOf]; omega
    · obtain rfl : nv = j := by omega
      have HE2 := Lib.hid (show false = R by rw [← HE.out, List.drop_of_length_le (by rw [List.length_zip]; have := HNV.out; omega)]; rfl)
      go_wp2
      go_ret
      exact .of HE2.out (ka.out.trans HW.out)
end Go.Proofs.Ytilgmkhcpmegjaa.Sn
end
