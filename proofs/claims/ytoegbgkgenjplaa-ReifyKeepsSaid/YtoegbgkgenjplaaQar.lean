/- Layer 11 (sense): the landed place. Layer 11 (sense): a list of integers copied by append, and stored into. La -/
import Derived.Test.YtoegbgkgenjplaaKf
set_option linter.unusedVariables false
set_option linter.unusedSimpArgs false
section
namespace Go.Proofs.Ytoegbgkgenjplaa.Sn
open Go.RowKit
open Go.Proofs.Ytoegbgkgenjplaa.Dig Go.Proofs.Ytoegbgkgenjplaa.Lx Go.Proofs.Ytoegbgkgenjplaa.Tk Go.Proofs.Ytoegbgkgenjplaa.Ti Go.Proofs.Ytoegbgkgenjplaa.Zs Go.Proofs.Ytoegbgkgenjplaa.Tr
theorem wp_appW {P : Program} {α : Type} {Q : α → List Value → Prop} {w1 w : World} {t e : TypeId} (K1 : Kind1 P t e) {v : Value} {xs : List α} (H : Rq e Q w1 w v xs) (hl : xs.length ≤ 1000000) (x : α) (y : Value) (hQ : Q x [y]) (h1 : y.oneCell' = true) (g d : Nat) (hb : w.cell? ⟨g, 0, none⟩ = some y)
    {o : Oper} {a : Act} {K : Act → World → Prop} {R : Exit → Act → World → Prop} (s z : Operand)
    (ho : o.op = .call { callee := .builtin .append, args := #[s, z], argTypes := #[t, t] }) (hs : a.eval s = v) (hx : a.eval z = .slice (some ⟨g, 0, none⟩) 1 d)
    (h : ∀ A c w', Rq e Q w1 w' (.slice A (xs.length + 1) c) (xs ++ [x]) → Wide v (.slice A (xs.length + 1) c) w w' → K (a.put o.dst (.slice A (xs.length + 1) c)) w') : o.wp P a w K R := by
  obtain ⟨i, zv, bytes, hi, hz0, hz1, hz2, hz3, hz4⟩ := K1.inf
  obtain ⟨cs, hown, hrows, hsi⟩ := H
  have hsz := hsi.size
  have hmul : (xs.length + 1) * bytes ≤ (xs.length + 1) * 24 := Nat.mul_le_mul_left _ hz3
  refine wp_append_at w s z t ho w1.heap.size e i zv 1 bytes K1.ht hi hz0 hz1 hz2 hz4 (by decide) v xs.length cs hs hown ⟨g, 0, none⟩ 1 d [y] hx rfl ?_ ?_ ?_ ?_ hsz fun v' w' h2 h3 h4 => ?_
  · intro j u hj
    rw [add_at, Nat.zero_add]
    match j, hj with
    | 0, hj => cases hj; exact hb
    | j + 1, hj => simp at hj
  · intro u hu; simp at hu; subst hu; exact h1
  · unfold maxLen; omega
  · omega
  · obtain ⟨A, c', rfl⟩ := owns_slice h2
    refine h A c' w' ⟨cs ++ [y], ?_, hrows.snoc hQ rfl, ?_⟩ ⟨h3, h4⟩
    · rw [List.length_append]; exact h2
    · exact Below.grown hsi h3 hsz (fun g hg => (hown.lt g hg).1)
theorem Wide.not {v v' : Value} {w w' : World} (k : Wide v v' w w') {b : Nat} (hb : b < w.heap.size) (h : v.ownBlock ≠ some b) : v'.ownBlock ≠ some b := by
  rcases k.2 with e | e
  · rw [e]; exact h
  · rw [e]; intro e2; injection e2 with e2; omega
/-- ends in a constraint with its values beside it, or in none -/
def RetPl (R : Bool) (c : Cn) (vs : List Int) (w : World) (e : Ending) (w' : World) : Prop :=
  if R = true then ∃ u, e = .returned (.tuple #[u, .bool true]) ∧ PlAt w' u c.k c.x c.a c.c vs ∧ Since w w'
  else e = .returned (.tuple #[.agg #[.int .i64 0, .slice none 0 0, .slice none 0 0, .int .i64 0, .slice none 0 0], .bool false]) ∧ Since w w'
theorem RetPl.no {R : Bool} {c : Cn} {vs : List Int} {w w' : World} (h : false = R) (k : Since w w') : RetPl R c vs w (.returned (.tuple #[.agg #[.int .i64 0, .slice none 0 0, .slice none 0 0, .int .i64 0, .slice none 0 0], .bool false])) w' := by
  subst h; exact ⟨rfl, k⟩
end Go.Proofs.Ytoegbgkgenjplaa.Sn
end
section
namespace Go.Proofs.Ytoegbgkgenjplaa.Sn
open Go.RowKit
open Go.Proofs.Ytoegbgkgenjplaa.Dig Go.Proofs.Ytoegbgkgenjplaa.Lx Go.Proofs.Ytoegbgkgenjplaa.Tk Go.Proofs.Ytoegbgkgenjplaa.Ti Go.Proofs.Ytoegbgkgenjplaa.Zs Go.Proofs.Ytoegbgkgenjplaa.Tr
/-- the cells begin with these integers -/
def Beg (cur : Array Value) (l : List Int) : Prop := ∀ (i : Nat) (x : Int), l[i]? = some x → cur[i]? = some (Value.int IntKind.i64 x)
theorem sl_bx {W : World} {g : Nat} {cur : Array Value} {e : TypeId} {l : List Int} {n c : Nat} (h : Bx W g cur e) (hn : l.length = n) (hc : n ≤ c) (hh : Beg cur l) : Sl 1 QI W (.slice (some ⟨g, 0, none⟩) n c) l := by
  subst hn
  refine ⟨some ⟨g, 0, none⟩, c, rfl, hc, fun _ => ⟨g, 0, rfl, fun i x hx => ⟨[.int .i64 x], rfl, rfl, fun j y hy => ?_⟩⟩⟩
  match j, hy with
  | 0, hy =>
    cases hy
    rw [show 0 + i * 1 + 0 = i by omega, h.cell i]
    exact hh i x hx
  | j + 1, hy => simp at hy
theorem cur_set {cur : Array Value} {l : List Int} (hh : Beg cur l) {k : Nat} (hk : k < l.length) (y : Int) : Beg (cur.setIfInBounds k (Value.int IntKind.i64 y)) (l.set k y) := by
  intro i x hx
  have hks : k < cur.size := by
    have := hh k l[k] (by simp [hk])
    apply Decidable.byContradiction; intro hn
    rw [Array.getElem?_eq_none (by omega)] at this; cases this
  by_cases e : i = k
  · subst e
    rw [List.getElem?_set_self hk] at hx
    cases hx
    simp [hks]
  · rw [List.getElem?_set_ne (by omega)] at hx
    rw [Array.getElem?_setIfInBounds_ne (by omega)]
    exact hh i x hx
end Go.Proofs.Ytoegbgkgenjplaa.Sn
end
section
namespace Go.Proofs.Ytoegbgkgenjplaa.Sn
open Go.RowKit
open Go.Proofs.Ytoegbgkgenjplaa.Dig Go.Proofs.Ytoegbgkgenjplaa.Lx Go.Proofs.Ytoegbgkgenjplaa.Tk Go.Proofs.Ytoegbgkgenjplaa.Ti Go.Proofs.Ytoegbgkgenjplaa.Zs Go.Proofs.Ytoegbgkgenjplaa.Tr
def smC (c : Cn) : Bool := decide (c.x.length ≤ 200) && decide (c.a.length ≤ 200)
def smallM (m : Md) : Bool := decide (m.ds.length ≤ 200) && decide (m.cs.length ≤ 200) && m.ds.all (fun d => decide (d.length ≤ 400)) && m.cs.all smC
theorem smallM_sz {m : Md} (h : smallM m = true) : (∀ d ∈ m.ds, d.length ≤ 1100000) ∧ (∀ c ∈ m.cs, c.x.length ≤ 1100000 ∧ c.a.length ≤ 1100000) := by
  simp only [smallM, Bool.and_eq_true, List.all_eq_true, decide_eq_true_eq] at h
  refine ⟨fun d hd => by have := h.1.2 d hd; omega, fun c hc => ?_⟩
  have := h.2 c hc
  simp only [smC, Bool.and_eq_true, decide_eq_true_eq] at this
  omega
set_option maxRecDepth 20000 in
set_option maxHeartbeats 4000000 in
theorem small_any (v : Value) (m : Md) (w : World) (h : ModAt w v m) (hd : m.ds.length ≤ 9223372036854775807) (hc : m.cs.length ≤ 9223372036854775807) (hdd : ∀ d ∈ m.ds, d.length ≤ 9223372036854775807) (hcc : ∀ c ∈ m.cs, c.x.length ≤ 9223372036854775807 ∧ c.a.length ≤ 9223372036854775807) :
    Calls Try.prog 18 #[v] w (RetT (smallM m) w) := by
  obtain ⟨vd, vc, rfl, h1, h2⟩ := h
  obtain ⟨ds, cs, ask, goal⟩ := m
  simp only at h1 h2 hd hc hdd hcc ⊢
  obtain ⟨D, dc, rfl⟩ := h1.form
  obtain ⟨C, cc, rfl⟩ := h2.form
  obtain ⟨nd, hnd⟩ : ∃ n, n = ds.length := ⟨_, rfl⟩
  obtain ⟨nc, hnc⟩ : ∃ n, n = cs.length := ⟨_, rfl⟩
  obtain ⟨R, hR⟩ : ∃ R, R = smallM ⟨ds, cs, ask, goal⟩ := ⟨_, rfl⟩
  have HR := Lib.hid (show (decide (nd ≤ 200) && decide (nc ≤ 200) && ds.all (fun d => decide (d.length ≤ 400)) && cs.all smC) = R by rw [hR, hnd, hnc]; rfl)
  rw [← hR]
  rw [← hnd] at h1 hd ⊢
  rw [← hnc] at h2 hc ⊢
  have H1 := Lib.hid h1
  have H2 := Lib.hid h2
  have HND := Lib.hid hnd
  have HNC := Lib.hid hnc
  have HDD := Lib.hid hdd
  have HCC := Lib.hid hcc
  have ka := Lib.hid (since_alloc w (.cells #[.slice D nd dc, .slice C nc cc, .int .i64 ask, .int .i64 goal] 33))
  have BX := Lib.hid (fun W (kk : Since (w.alloc (.cells #[.slice D nd dc, .slice C nc cc, .int .i64 ask, .int .i64 goal] 33)) W) => (Bx.fresh w #[.slice D nd dc, .slice C nc cc, .int .i64 ask, .int .i64 goal] 33).since kk)
  clear h1 h2 hnd hnc hR hdd hcc
  by_cases cd : nd ≤ 200
  case neg =>
    have E := Lib.hid (show false = R by rw [← HR.out, decide_eq_false cd]; rfl)
    go_enter Try.func18, Try.ntmps18
    go_wp2
    go_ret
    exact .of E.out ka.out
  by_cases cn : nc ≤ 200
  case neg =>
    have E := Lib.hid (show false = R by rw [← HR.out, decide_eq_false cn, Bool.and_false]; rfl)
    go_enter Try.func18, Try.ntmps18
    go_wp2
    go_ret
    exact .of E.out ka.out
  have HR2 := Lib.hid (show (ds.all (fun d => decide (d.length ≤ 400)) && cs.all smC) = R by rw [← HR.out, decide_eq_true cd, decide_eq_true cn]; rfl)
  clear HR
  go_enter Try.func18, Try.ntmps18
  go_wp2
  go_loopw [20] (fun i wr => ∃ k : Nat, i = .int .i64 (k : Int) ∧ k ≤ nd ∧ Hid (((ds.drop k).all (fun d => decide (d.length ≤ 400)) && cs.all smC) = R) ∧ Hid (Since (w.alloc (.cells #[.slice D nd dc, .slice C nc cc, .int .i64 ask, .int .i64 goal] 33)) wr)) (fun i _ => nd - (intOf i).toNat)
  case atStart => exact ⟨0, rfl, Nat.zero_le _, HR2.out, Since.refl _⟩
  case round =>
    obtain ⟨k, rfl, hk, HE, HW⟩ := hrel
    obtain ⟨b0, b1, b2, b3⟩ := bx4 (BX.out _ HW.out)
    by_cases hkn : k < nd
    · have hkl : k < ds.length := by have := HND.out; omega
      obtain ⟨g, o, B2, d2, rfl, S2, e2⟩ := elD (H1.out.since stD (ka.out.trans HW.out)) hkl
      have hst := HE.out
      rw [List.drop_eq_getElem_cons hkl, List.all_cons] at hst
      have hsz := HDD.out _ (List.getElem_mem hkl)
      generalize ds[k] = y at *
      obtain ⟨p, hp⟩ : ∃ p, p = y.length := ⟨_, rfl⟩
      rw [← hp] at e2 hst hsz
      have ST := Lib.hid hst
      clear hst hkl HE S2 hp
      by_cases hy : p ≤ 400
      · have HE := Lib.hid (show ((ds.drop (k + 1)).all (fun d => decide (d.length ≤ 400)) && cs.all smC) = R by have := ST.out; rw [decide_eq_true hy, Bool.true_and] at this; exact this)
        clear ST
        go_wp2
        go_roundw
        case rel => exact ⟨k + 1, by go_num, by omega, HE.out, HW.out⟩
        case measure => simp [intOf]; omega
      · have HE := Lib.hid (show false = R by have := ST.out; rw [decide_eq_false hy, Bool.false_and, Bool.false_and] at this; exact this)
        clear ST
        go_wp2
        go_ret
        exact .of HE.out (ka.out.trans HW.out)
    · obtain rfl : k = nd := by omega
      have HB := Lib.hid (show cs.all smC = R by rw [← HE.out, List.drop_of_length_le (by have := HND.out; omega)]; rfl)
      clear HE
      rename World => w5
      go_wp2
      go_loopw [31] (fun i wr => ∃ j : Nat, i = .int .i64 (j : Int) ∧ j ≤ nc ∧ Hid ((cs.drop j).all smC = R) ∧ Hid (Since w5 wr)) (fun i _ => nc - (intOf i).toNat)
      case atStart => exact ⟨0, rfl, Nat.zero_le _, HB.out, Since.refl _⟩
      case round =>
        obtain ⟨j, rfl, hj, HE, HV⟩ := hrel
        by_cases hjn : j < nc
        · have hjl : j < cs.length := by have := HNC.out; omega
          obtain ⟨g, o, X, xc, Y, yc, rfl, S1, S2, e0, e1, e2, e3⟩ := elC (H2.out.since stC (ka.out.trans (HW.out.trans HV.out))) hjl
          have hst := HE.out
          rw [List.drop_eq_getElem_cons hjl, List.all_cons] at hst
          have hsz := HCC.out _ (List.getElem_mem hjl)
          generalize cs[j] = y at *
          obtain ⟨yk, yx, ya, y_c⟩ := y
          simp only [smC] at S1 S2 e0 e1 e2 e3 hsz hst
          obtain ⟨hz1, hz2⟩ := hsz
          obtain ⟨p1, hp1⟩ : ∃ p, p = yx.length := ⟨_, rfl⟩
          obtain ⟨p2, hp2⟩ : ∃ p, p = ya.length := ⟨_, rfl⟩
          rw [← hp1] at e1 hz1
          rw [← hp2] at e2 hz2
          rw [← hp1, ← hp2] at hst
          have ST := Lib.hid hst
          have kb := Lib.hid (since_alloc wr (.cells #[.int .i64 yk, .slice X p1 xc, .slice Y p2 yc, .int .i64 y_c] 25))
          clear hst hjl HE S1 S2 hp1 hp2
          by_cases c1 : p1 ≤ 200
          · by_cases c2 : p2 ≤ 200
            · have HE := Lib.hid (show (cs.drop (j + 1)).all smC = R by have := ST.out; rw [decide_eq_true c1, decide_eq_true c2, Bool.true_and, Bool.true_and] at this; exact this)
              clear ST
              go_wp2
              go_roundw
              case rel => exact ⟨j + 1, by go_num, by omega, HE.out, HV.out.trans kb.out⟩
              case measure => simp [intOf]; omega
            · have HE := Lib.hid (show false = R by have := ST.out; rw [decide_eq_false c2, Bool.and_false, Bool.false_and] at this; exact this)
              clear ST
              go_wp2
              go_ret
              exact .of HE.out (ka.out.trans (HW.out.trans (HV.out.trans kb.out)))
          · have HE := Lib.hid (show false = R by have := ST.out; rw [decide_eq_false c1, Bool.false_and, Bool.false_and] at this; exact this)
            clear ST
            go_wp2
            go_ret
            exact .of HE.out (ka.out.trans (HW.out.trans (HV.out.trans kb.out)))
        · obtain rfl : j = nc := by omega
          have HE2 := Lib.hid (show true = R by rw [← HE.out, List.drop_of_length_le (by have := HNC.out; omega)]; rfl)
          go_wp2
          go_ret
          exact .of HE2.out (ka.out.trans (HW.out.trans HV.out))
end Go.Proofs.Ytoegbgkgenjplaa.Sn
end
section
namespace Go.Proofs.Ytoegbgkgenjplaa.Sn
open Go.RowKit
open Go.Proofs.Ytoegbgkgenjplaa.Dig Go.Proofs.Ytoegbgkgenjplaa.Lx Go.Proofs.Ytoegbgkgenjplaa.Tk Go.Proofs.Ytoegbgkgenjplaa.Ti Go.Proofs.Ytoegbgkgenjplaa.Zs Go.Proofs.Ytoegbgkgenjplaa.Tr
section
open Go.Proofs.Ytoegbgkgenjplaa.Zs
def negL (l : List Int) : List Int := l.map fun x => -x
theorem sm_neg (a v : List Int) : sm (negL a) v = -sm a v := by
  rw [sm, sm]
  induction a generalizing v with
  | nil => rfl
  | cons x a ih =>
    cases v with
    | nil => rfl
    | cons y v =>
      simp only [negL, List.map_cons, List.zip_cons_cons, smF]
      have := ih v
      simp only [negL] at this
      rw [this, Int.neg_mul]; omega
section
open Go.RowKit
open Go.Proofs.Ytoegbgkgenjplaa.Dig Go.Proofs.Ytoegbgkgenjplaa.Lx Go.Proofs.Ytoegbgkgenjplaa.Tk Go.Proofs.Ytoegbgkgenjplaa.Ti Go.Proofs.Ytoegbgkgenjplaa.Zs Go.Proofs.Ytoegbgkgenjplaa.Tr
def Rz (e : TypeId) (n : Nat) (w : World) (v : Value) (xs : List Int) : Prop := ∃ cs, w.ownsRow n e 1 v xs.length cs ∧ Rws 1 QI0 xs cs
theorem Rz.of {e : TypeId} {w1 w : World} {v : Value} {xs : List Int} (h : Rq e QI0 w1 w v xs) : Rz e w1.heap.size w v xs := by
  obtain ⟨cs, h1, h2, -⟩ := h
  exact ⟨cs, h1, h2⟩
theorem Rz.set {e : TypeId} {n : Nat} {w : World} {v : Value} {xs : List Int} (h : Rz e n w v xs) {a : Addr} (ha : a.block < n) (u : Value) : Rz e n (w.setCell a u) v xs := by
  obtain ⟨cs, h1, h2⟩ := h
  exact ⟨cs, ownsRow_setCell_below h1 ha u, h2⟩
theorem Rz.since {e : TypeId} {n : Nat} {w w' : World} {v : Value} {xs : List Int} (h : Rz e n w v xs) (k : Since w w') : Rz e n w' v xs := by
  obtain ⟨cs, h1, h2⟩ := h
  exact ⟨cs, owns_since h1 k, h2⟩
theorem Rz.sl {e : TypeId} {n : Nat} {w : World} {v : Value} {xs : List Int} (h : Rz e n w v xs) : Sl 1 QI w v xs := by
  obtain ⟨cs, h1, h2⟩ := h
  have : Sl 1 (fun _ => QI0) w v xs := Sl.own h1 h2 rfl
  exact this
def Rb (w0 w : World) (v : Value) (xs : List Int) : Prop := ∃ b1, Since w0 b1 ∧ Rq 2 QI0 b1 w v xs
theorem Rb.since {w0 w w' : World} {v : Value} {xs : List Int} (h : Rb w0 w v xs) (k : Since w w') : Rb w0 w' v xs := by
  obtain ⟨b1, h1, h2⟩ := h
  exact ⟨b1, h1, h2.since k⟩
end
end
end Go.Proofs.Ytoegbgkgenjplaa.Sn
end
section
namespace Go.Proofs.Ytoegbgkgenjplaa.Sn
open Go.Proofs.Ytoegbgkgenjplaa.Zs
theorem bit_iff (x : Int) : bit x = true ↔ x = 0 ∨ x = 1 := by simp only [bit, Bool.and_eq_true, decide_eq_true_eq]; omega
end Go.Proofs.Ytoegbgkgenjplaa.Sn
end
section
namespace Go.Proofs.Ytoegbgkgenjplaa.Sn
open Go.RowKit
open Go.Proofs.Ytoegbgkgenjplaa.Dig Go.Proofs.Ytoegbgkgenjplaa.Lx Go.Proofs.Ytoegbgkgenjplaa.Tk Go.Proofs.Ytoegbgkgenjplaa.Ti Go.Proofs.Ytoegbgkgenjplaa.Zs Go.Proofs.Ytoegbgkgenjplaa.Tr
theorem vals_snoc2 {x a : List Int} {j : Nat} (h : j < x.length) : vals (x.take j) a ++ [valAt a x[j]] = vals (x.take (j + 1)) a := by
  rw [List.take_succ_eq_append_getElem h, vals, vals, List.map_append]; rfl
set_option maxRecDepth 20000 in
set_option maxHeartbeats 3000000 in
theorem rvalues_any (v va : Value) (c : Cn) (a : List Int) (w : World) (h : ConAt w v c) (ha : Sl 1 QI w va a) (hx : c.x.length ≤ 100000) (hin : inR c.x a = true) :
    Calls Try.prog 45 #[v, va] w (fun e w' => ∃ B bc, e = .returned (.slice B c.x.length bc) ∧ Rq 2 QI0 w w' (.slice B c.x.length bc) (vals c.x a)) := by
  obtain ⟨vx, vy, rfl, h1, h2⟩ := h
  obtain ⟨ck, cx, ca, cc⟩ := c
  simp only at h1 h2 hx hin ⊢
  obtain ⟨X, xc, rfl⟩ := h1.form
  obtain ⟨Y, yc, rfl⟩ := h2.form
  obtain ⟨A, ac, rfl⟩ := ha.form
  obtain ⟨nx, hnx⟩ : ∃ n, n = cx.length := ⟨_, rfl⟩
  obtain ⟨na, hna⟩ : ∃ n, n = ca.length := ⟨_, rfl⟩
  obtain ⟨nl, hnl⟩ : ∃ n, n = a.length := ⟨_, rfl⟩
  rw [← hnx] at h1 hx ⊢
  rw [← hna] at h2 ⊢
  rw [← hnl] at ha ⊢
  have H1 := Lib.hid h1
  have H3 := Lib.hid ha
  have HNX := Lib.hid hnx
  have HNL := Lib.hid hnl
  have HIN := Lib.hid hin
  obtain ⟨w0, hw0⟩ : ∃ w0, w0 = w.alloc (.cells #[.int .i64 ck, .slice X nx xc, .slice Y na yc, .int .i64 cc] 25) := ⟨_, rfl⟩
  have ka := Lib.hid (show Since w w0 by rw [hw0]; exact since_alloc w _)
  have BC := Lib.hid (show Bx w0 w.heap.size #[.int .i64 ck, .slice X nx xc, .slice Y na yc, .int .i64 cc] 25 by rw [hw0]; exact Bx.fresh w _ _)
  have HW0 := Lib.hid hw0
  clear h1 h2 ha hnx hna hnl hin hw0
  go_enter Try.func45, Try.ntmps45
  go_wp2
  rw [← HW0.out]
  clear HW0
  go_loopw [5, 6] (fun s i wr => ∃ (j : Nat) (B : Option Addr) (bc : Nat), i = .int .i64 (j : Int) ∧ s = .slice B j bc ∧ j ≤ nx ∧ Hid (Rq 2 QI0 w0 wr (.slice B j bc) (vals (cx.take j) a))) (fun _ i _ => nx - (intOf i).toNat)
  case atStart => exact ⟨0, none, 0, rfl, rfl, Nat.zero_le _, Rq.nil _ _ (Since.refl _)⟩
  case round =>
    obtain ⟨j, B, bc, rfl, rfl, hj, HQ⟩ := hrel
    obtain ⟨b0, b1, b2, b3⟩ := bx4 (BC.out.since HQ.out.s)
    by_cases hjn : j < nx
    · have hjx : j < cx.length := by have := HNX.out; omega
      obtain ⟨g, o, rfl, e0⟩ := elI (H1.out.since stI (ka.out.trans HQ.out.s)) hjx
      have hin := List.all_eq_true.1 HIN.out _ (List.getElem_mem hjx)
      have hs := vals_snoc2 (a := a) hjx
      generalize cx[j] = y at *
      obtain ⟨q, rfl, hq⟩ := isV_nat hin
      obtain ⟨g2, o2, rfl, e2⟩ := elI (H3.out.since stI (ka.out.trans HQ.out.s)) hq
      have hva : valAt a (q : Int) = a[q] := by simp [valAt, hq]
      rw [hva] at hs
      have hqn : q < nl := by have := HNL.out; omega
      generalize a[q] = z at *
      have HS := Lib.hid hs
      have HLJ := Lib.hid (show (vals (cx.take j) a).length = j by rw [vals_len, List.length_take]; omega)
      have HLX := Lib.hid (show (vals (cx.take j) a).length ≤ 1000000 by rw [HLJ.out]; omega)
      clear hs hva hin hjx
      go_wp2_with (at_builtin; refine wpList_appQ nL (HQ.out.since (since_alloc _ _)) HLX.out z (.int .i64 z) rfl rfl wr.heap.size 1 ((Bx.fresh wr _ _).cell 0) (by rfl) _ _ rfl rfl rfl ?_; rw [HLJ.out]; intro A2 c2 w6 h2 q2; have H2 := Lib.hid h2; clear h2 q2)
      go_roundw
      case rel => exact ⟨j + 1, A2, c2, by go_num, by first | rfl | go_num, by omega, by rw [HS.out] at H2; exact H2⟩
      case measure => simp [intOf]; omega
    · obtain rfl : nx = j := by omega
      have HT := Lib.hid (show cx.take nx = cx from List.take_of_length_le (by have := HNX.out; omega))
      go_wp2
      go_ret
      exact ⟨_, _, rfl, by have := HQ.out; rw [HT.out] at this; obtain ⟨cs, h1, h2, h3⟩ := this; exact ⟨cs, ⟨h1.1, h1.2.imp id fun ⟨g, cap, cur, e1, e2, e3⟩ => ⟨g, cap, cur, e1, Nat.le_trans ka.out.size e2, e3⟩⟩, h2, ka.out.trans h3⟩⟩
end Go.Proofs.Ytoegbgkgenjplaa.Sn
end
