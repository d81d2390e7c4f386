/- Layer 11 (sense): a constraint with its values beside it: the landed hasSum, last, flag, others, sum, someLite -/
import Derived.Test.YtilgmkhcpmegjaaUc
import Derived.Test.YtilgmkhcpmegjaaUm
set_option linter.unusedVariables false
set_option linter.unusedSimpArgs false
section
namespace Go.Proofs.Ytilgmkhcpmegjaa.Sn
open Go.RowKit
open Go.Proofs.Ytilgmkhcpmegjaa.Dig Go.Proofs.Ytilgmkhcpmegjaa.Lx Go.Proofs.Ytilgmkhcpmegjaa.Tk Go.Proofs.Ytilgmkhcpmegjaa.Ti Go.Proofs.Ytilgmkhcpmegjaa.Zs Go.Proofs.Ytilgmkhcpmegjaa.Tr
/-- a constraint with its values, by value -/
def PlAt (w : World) (u : Value) (k : Int) (x a : List Int) (c : Int) (v : List Int) : Prop :=
  ∃ X xc Y yc V vc, u = .agg #[.int .i64 k, .slice X x.length xc, .slice Y a.length yc, .int .i64 c, .slice V v.length vc] ∧ Sl 1 QI w (.slice X x.length xc) x ∧ Sl 1 QI w (.slice Y a.length yc) a ∧ Sl 1 QI w (.slice V v.length vc) v
theorem PlAt.since {w w' : World} {u : Value} {k : Int} {x a : List Int} {c : Int} {v : List Int} (h : PlAt w u k x a c v) (s : Since w w') : PlAt w' u k x a c v := by
  obtain ⟨X, xc, Y, yc, V, vc, h1, h2, h3, h4⟩ := h
  exact ⟨X, xc, Y, yc, V, vc, h1, h2.since stI s, h3.since stI s, h4.since stI s⟩
theorem slTakeI {w : World} {b : Option Addr} {n c : Nat} {xs : List Int} (h : Sl 1 QI w (.slice b n c) xs) (k : Nat) (hk : k ≤ n) : Sl 1 QI w (.slice b k c) (xs.take k) := by
  obtain ⟨A, c', h1, h2, h3⟩ := h
  injection h1 with e0 e1 e2
  subst e0 e1 e2
  have hl : (xs.take k).length = k := by rw [List.length_take]; omega
  refine ⟨b, c, by rw [hl], by omega, fun h0 => ?_⟩
  obtain ⟨g, o, rfl, h5⟩ := h3 (by omega)
  refine ⟨g, o, rfl, fun i x hx => ?_⟩
  have hi : i < k := by
    apply Decidable.byContradiction; intro hn
    rw [List.getElem?_eq_none (by omega)] at hx; cases hx
  rw [List.getElem?_take_of_lt hi] at hx
  exact h5 i x hx
theorem wrap_id' {x : Int} (h1 : -9223372036854775808 ≤ x) (h2 : x ≤ 9223372036854775807) : IntKind.i64.wrap x = x := by simp [IntKind.wrap, IntKind.bits, IntKind.signed]; omega
theorem zip_at {a v : List Int} {k : Nat} (ha : k < a.length) (hv : k < v.length) : (a.zip v).drop k = (a[k], v[k]) :: (a.zip v).drop (k + 1) := by
  have h : k < (a.zip v).length := by rw [List.length_zip]; omega
  rw [List.drop_eq_getElem_cons h, List.getElem_zip]
end Go.Proofs.Ytilgmkhcpmegjaa.Sn
end
section
namespace Go.Proofs.Ytilgmkhcpmegjaa.Sn
open Go.RowKit
open Go.Proofs.Ytilgmkhcpmegjaa.Dig Go.Proofs.Ytilgmkhcpmegjaa.Lx Go.Proofs.Ytilgmkhcpmegjaa.Tk Go.Proofs.Ytilgmkhcpmegjaa.Ti Go.Proofs.Ytilgmkhcpmegjaa.Zs Go.Proofs.Ytilgmkhcpmegjaa.Tr
theorem bx4' {W : World} {g : Nat} {z0 z1 z2 z3 : Value} {t : TypeId} (h : Bx W g #[z0, z1, z2, z3] t) : W.frozen? ⟨g, 0, none⟩ = false ∧ W.frozen? ⟨g, 1, none⟩ = false ∧ W.frozen? ⟨g, 2, none⟩ = false ∧ W.frozen? ⟨g, 3, none⟩ = false := ⟨h.no 0, h.no 1, h.no 2, h.no 3⟩
/-- one constraint in a new block -/
theorem con_lit (W : World) (c : Cn) (X Y : Value) (hx : Sl 1 QI W X c.x) (ha : Sl 1 QI W Y c.a) : Sl 4 QC (W.alloc (.cells #[.int .i64 c.k, X, Y, .int .i64 c.c] 25)) (.slice (some ⟨W.heap.size, 0, none⟩) 1 1) [c] := by
  have hb := Bx.fresh W #[.int .i64 c.k, X, Y, .int .i64 c.c] 25
  have ks := since_alloc W (.cells #[.int .i64 c.k, X, Y, .int .i64 c.c] 25)
  refine ⟨some ⟨W.heap.size, 0, none⟩, 1, rfl, Nat.le_refl _, fun _ => ⟨W.heap.size, 0, rfl, fun i x hi => ?_⟩⟩
  match i, hi with
  | 0, hi =>
    cases hi
    refine ⟨_, ⟨X, Y, rfl, hx.since stI ks, ha.since stI ks⟩, rfl, fun j y hy => ?_⟩
    match j, hy with
    | 0, hy => cases hy; exact hb.cell 0
    | 1, hy => cases hy; exact hb.cell 1
    | 2, hy => cases hy; exact hb.cell 2
    | 3, hy => cases hy; exact hb.cell 3
    | j + 4, hy => simp at hy
  | i + 1, hi => simp at hi
theorem two_new (W : World) (y : Int) {g : Nat} (hg : W.heap.size = g) : ((W.alloc (.cells #[.int .i64 y, .int .i64 y] 46)).alloc (.cells #[.slice (some ⟨g, 0, none⟩) 1 1] 43)).cell? ⟨g + 1, 0, none⟩ = some (.slice (some ⟨g, 0, none⟩) 1 1) ∧
    Bx ((W.alloc (.cells #[.int .i64 y, .int .i64 y] 46)).alloc (.cells #[.slice (some ⟨g, 0, none⟩) 1 1] 43)) g #[.int .i64 y, .int .i64 y] 46 := by
  have h1 := Bx.fresh (W.alloc (.cells #[.int .i64 y, .int .i64 y] 46)) #[.slice (some ⟨g, 0, none⟩) 1 1] 43
  have e : (W.alloc (.cells #[.int .i64 y, .int .i64 y] 46)).heap.size = g + 1 := by simp [hg]
  rw [e] at h1
  exact ⟨h1.cell 0, Bx.new (since_alloc _ _) hg⟩
theorem Two.farX {w1 w : World} {B : Nat → Prop} {X D : Value} {jx jd : Nat} {v : List Int} (h : Two w1 w B X D jx jd v) : X.ownBlock ≠ some w.heap.size := fun e => by have := (h.1.lt _ e).2; omega
theorem Two.farD {w1 w : World} {B : Nat → Prop} {X D : Value} {jx jd : Nat} {v : List Int} (h : Two w1 w B X D jx jd v) : D.ownBlock ≠ some w.heap.size := fun e => by have := (h.2.1.lt _ e).2; omega
theorem Two.farB {w1 w : World} {B : Nat → Prop} {X D : Value} {jx jd : Nat} {v : List Int} (h : Two w1 w B X D jx jd v) : ¬ B w.heap.size := fun e => by have := (h.2.2.2 _ e).1; omega
end Go.Proofs.Ytilgmkhcpmegjaa.Sn
end
section
namespace Go.Proofs.Ytilgmkhcpmegjaa.Sn
open Go.RowKit
open Go.Proofs.Ytilgmkhcpmegjaa.Dig Go.Proofs.Ytilgmkhcpmegjaa.Lx Go.Proofs.Ytilgmkhcpmegjaa.Tk Go.Proofs.Ytilgmkhcpmegjaa.Ti Go.Proofs.Ytilgmkhcpmegjaa.Zs Go.Proofs.Ytilgmkhcpmegjaa.Tr
theorem Wide.not {v v' : Value} {w w' : World} (k : Wide v v' w w') {b : Nat} (hb : b < w.heap.size) (h : v.ownBlock ≠ some b) : v'.ownBlock ≠ some b := by
  rcases k.2 with e | e
  · rw [e]; exact h
  · rw [e]; intro e2; injection e2 with e2; omega
/-- ends in a constraint with its values beside it, or in none -/
def RetPl (R : Bool) (c : Cn) (vs : List Int) (w : World) (e : Ending) (w' : World) : Prop :=
  if R = true then ∃ u, e = .returned (.tuple #[u, .bool true]) ∧ PlAt w' u c.k c.x c.a c.c vs ∧ Since w w'
  else e = .returned (.tuple #[.agg #[.int .i64 0, .slice none 0 0, .slice none 0 0, .int .i64 0, .slice none 0 0], .bool false]) ∧ Since w w'
theorem RetPl.no {R : Bool} {c : Cn} {vs : List Int} {w w' : World} (h : false = R) (k : Since w w') : RetPl R c vs w (.returned (.tuple #[.agg #[.int .i64 0, .slice none 0 0, .slice none 0 0, .int .i64 0, .slice none 0 0], .bool false])) w' := by
  subst h; exact ⟨rfl, k⟩
end Go.Proofs.Ytilgmkhcpmegjaa.Sn
end
section
namespace Go.Proofs.Ytilgmkhcpmegjaa.Sn
open Go.RowKit
open Go.Proofs.Ytilgmkhcpmegjaa.Dig Go.Proofs.Ytilgmkhcpmegjaa.Lx Go.Proofs.Ytilgmkhcpmegjaa.Tk Go.Proofs.Ytilgmkhcpmegjaa.Ti Go.Proofs.Ytilgmkhcpmegjaa.Zs Go.Proofs.Ytilgmkhcpmegjaa.Tr
def smC (c : Cn) : Bool := decide (c.x.length ≤ 200) && decide (c.a.length ≤ 200)
def smallM (m : Md) : Bool := decide (m.ds.length ≤ 200) && decide (m.cs.length ≤ 200) && m.ds.all (fun d => decide (d.length ≤ 400)) && m.cs.all smC
theorem smallM_sz {m : Md} (h : smallM m = true) : (∀ d ∈ m.ds, d.length ≤ 1100000) ∧ (∀ c ∈ m.cs, c.x.length ≤ 1100000 ∧ c.a.length ≤ 1100000) := by
  simp only [smallM, Bool.and_eq_true, List.all_eq_true, decide_eq_true_eq] at h
  refine ⟨fun d hd => by have := h.1.2 d hd; omega, fun c hc => ?_⟩
  have := h.2 c hc
  simp only [smC, Bool.and_eq_true, decide_eq_true_eq] at this
  omega
set_option maxRecDepth 20000 in
set_option maxHeartbeats 4000000 in
theorem small_any (v : Value) (m : Md) (w : World) (h : ModAt w v m) (hd : m.ds.length ≤ 9223372036854775807) (hc : m.cs.length ≤ 9223372036854775807) (hdd : ∀ d ∈ m.ds, d.length ≤ 9223372036854775807) (hcc : ∀ c ∈ m.cs, c.x.length ≤ 9223372036854775807 ∧ c.a.length ≤ 9223372036854775807) :
    Calls Try.prog 60 #[v] w (RetT (smallM m) w) := by
  obtain ⟨vd, vc, rfl, h1, h2⟩ := h
  obtain ⟨ds, cs, ask, goal⟩ := m
  simp only at h1 h2 hd hc hdd hcc ⊢
  obtain ⟨D, dc, rfl⟩ := h1.form
  obtain ⟨C, cc, rfl⟩ := h2.form
  obtain ⟨nd, hnd⟩ : ∃ n, n = ds.length := ⟨_, rfl⟩
  obtain ⟨nc, hnc⟩ : ∃ n, n = cs.length := ⟨_, rfl⟩
  obtain ⟨R, hR⟩ : ∃ R, R = smallM ⟨ds, cs, ask, goal⟩ := ⟨_, rfl⟩
  have HR := Lib.hid (show (decide (nd ≤ 200) && decide (nc ≤ 200) && ds.all (fun d => decide (d.length ≤ 400)) && cs.all smC) = R by rw [hR, hnd, hnc]; rfl)
  rw [← hR]
  rw [← hnd] at h1 hd ⊢
  rw [← hnc] at h2 hc ⊢
  have H1 := Lib.hid h1
  have H2 := Lib.hid h2
  have HND := Lib.hid hnd
  have HNC := Lib.hid hnc
  have HDD := Lib.hid hdd
  have HCC := Lib.hid hcc
  have ka := Lib.hid (since_alloc w (.cells #[.slice D nd dc, .slice C nc cc, .int .i64 ask, .int .i64 goal] 79))
  have BX := Lib.hid (fun W (kk : Since (w.alloc (.cells #[.slice D nd dc, .slice C nc cc, .int .i64 ask, .int .i64 goal] 79)) W) => (Bx.fresh w #[.slice D nd dc, .slice C nc cc, .int .i64 ask, .int .i64 goal] 79).since kk)
  clear h1 h2 hnd hnc hR hdd hcc
  by_cases cd : nd ≤ 200
  case neg =>
    have E := Lib.hid (show false = R by rw [← HR.out, decide_eq_false cd]; rfl)
    go_enter Try.func60, Try.ntmps60
    go_wp2
    go_ret
    exact .of E.out ka.out
  by_cases cn : nc ≤ 200
  case neg =>
    have E := Lib.hid (show false = R by rw [← HR.out, decide_eq_false cn, Bool.and_false]; rfl)
    go_enter Try.func60, Try.ntmps60
    go_wp2
    go_ret
    exact .of E.out ka.out
  have HR2 := Lib.hid (show (ds.all (fun d => decide (d.length ≤ 400)) && cs.all smC) = R by rw [← HR.out, decide_eq_true cd, decide_eq_true cn]; rfl)
  clear HR
  go_enter Try.func60, Try.ntmps60
  go_wp2
  go_loopw [20] (fun i wr => ∃ k : Nat, i = .int .i64 (k : Int) ∧ k ≤ nd ∧ Hid (((ds.drop k).all (fun d => decide (d.length ≤ 400)) && cs.all smC) = R) ∧ Hid (Since (w.alloc (.cells #[.slice D nd dc, .slice C nc cc, .int .i64 ask, .int .i64 goal] 79)) wr)) (fun i _ => nd - (intOf i).toNat)
  case atStart => exact ⟨0, rfl, Nat.zero_le _, HR2.out, Since.refl _⟩
  case round =>
    obtain ⟨k, rfl, hk, HE, HW⟩ := hrel
    obtain ⟨b0, b1, b2, b3⟩ := bx4 (BX.out _ HW.out)
    by_cases hkn : k < nd
    · have hkl : k < ds.length := by have := HND.out; omega
      obtain ⟨g, o, B2, d2, rfl, S2, e2⟩ := elD (H1.out.since stD (ka.out.trans HW.out)) hkl
      have hst := HE.out
      rw [List.drop_eq_getElem_cons hkl, List.all_cons] at hst
      have hsz := HDD.out _ (List.getElem_mem hkl)
      generalize ds[k] = y at *
      obtain ⟨p, hp⟩ : ∃ p, p = y.length := ⟨_, rfl⟩
      rw [← hp] at e2 hst hsz
      have ST := Lib.hid hst
      clear hst hkl HE S2 hp
      by_cases hy : p ≤ 400
      · have HE := Lib.hid (show ((ds.drop (k + 1)).all (fun d => decide (d.length ≤ 400)) && cs.all smC) = R by have := ST.out; rw [decide_eq_true hy, Bool.true_and] at this; exact this)
        clear ST
        go_wp2
        go_roundw
        case rel => exact ⟨k + 1, by go_num, by omega, HE.out, HW.out⟩
        case measure => simp [intOf]; omega
      · have HE := Lib.hid (show false = R by have := ST.out; rw [decide_eq_false hy, Bool.false_and, Bool.false_and] at this; exact this)
        clear ST
        go_wp2
        go_ret
        exact .of HE.out (ka.out.trans HW.out)
    · obtain rfl : k = nd := by omega
      have HB := Lib.hid (show cs.all smC = R by rw [← HE.out, List.drop_of_length_le (by have := HND.out; omega)]; rfl)
      clear HE
      rename World => w5
      go_wp2
      go_loopw [31] (fun i wr => ∃ j : Nat, i = .int .i64 (j : Int) ∧ j ≤ nc ∧ Hid ((cs.drop j).all smC = R) ∧ Hid (Since w5 wr)) (fun i _ => nc - (intOf i).toNat)
      case atStart => exact ⟨0, rfl, Nat.zero_le _, HB.out, Since.refl _⟩
      case round =>
        obtain ⟨j, rfl, hj, HE, HV⟩ := hrel
        by_cases hjn : j < nc
        · have hjl : j < cs.length := by have := HNC.out; omega
          obtain ⟨g, o, X, xc, Y, yc, rfl, S1, S2, e0, e1, e2, e3⟩ := elC (H2.out.since stC (ka.out.trans (HW.out.trans HV.out))) hjl
          have hst := HE.out
          rw [List.drop_eq_getElem_cons hjl, List.all_cons] at hst
          have hsz := HCC.out _ (List.getElem_mem hjl)
          generalize cs[j] = y at *
          obtain ⟨yk, yx, ya, y_c⟩ := y
          simp only [smC] at S1 S2 e0 e1 e2 e3 hsz hst
          obtain ⟨hz1, hz2⟩ := hsz
          obtain ⟨p1, hp1⟩ : ∃ p, p = yx.length := ⟨_, rfl⟩
          obtain ⟨p2, hp2⟩ : ∃ p, p = ya.length := ⟨_, rfl⟩
          rw [← hp1] at e1 hz1
          rw [← hp2] at e2 hz2
          rw [← hp1, ← hp2] at hst
          have ST := Lib.hid hst
          have kb := Lib.hid (since_alloc wr (.cells #[.int .i64 yk, .slice X p1 xc, .slice Y p2 yc, .int .i64 y_c] 25))
          clear hst hjl HE S1 S2 hp1 hp2
          by_cases c1 : p1 ≤ 200
          · by_cases c2 : p2 ≤ 200
            · have HE := Lib.hid (show (cs.drop (j + 1)).all smC = R by have := ST.out; rw [decide_eq_true c1, decide_eq_true c2, Bool.true_and, Bool.true_and] at this; exact this)
              clear ST
              go_wp2
              go_roundw
              case rel => exact ⟨j + 1, by go_num, by omega, HE.out, HV.out.trans kb.out⟩
              case measure => simp [intOf]; omega
            · have HE := Lib.hid (show false = R by have := ST.out; rw [decide_eq_false c2, Bool.and_false, Bool.false_and] at this; exact this)
              clear ST
              go_wp2
              go_ret
              exact .of HE.out (ka.out.trans (HW.out.trans (HV.out.trans kb.out)))
          · have HE := Lib.hid (show false = R by have := ST.out; rw [decide_eq_false c1, Bool.false_and, Bool.false_and] at this; exact this)
            clear ST
            go_wp2
            go_ret
            exact .of HE.out (ka.out.trans (HW.out.trans (HV.out.trans kb.out)))
        · obtain rfl : j = nc := by omega
          have HE2 := Lib.hid (show true = R by rw [← HE.out, List.drop_of_length_le (by have := HNC.out; omega)]; rfl)
          go_wp2
          go_ret
          exact .of HE2.out (ka.out.trans (HW.out.trans HV.out))
end Go.Proofs.Ytilgmkhcpmegjaa.Sn
end
