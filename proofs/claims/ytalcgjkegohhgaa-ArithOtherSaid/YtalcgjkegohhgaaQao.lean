/- Layer 11 (sense): the landed place. Layer 11 (sense): a list of integers copied by append, and stored into. La -/
import Derived.Test.YtalcgjkegohhgaaQam
set_option linter.unusedVariables false
set_option linter.unusedSimpArgs false
section
namespace Go.Proofs.Ytalcgjkegohhgaa.Sn
open Go.RowKit
open Go.Proofs.Ytalcgjkegohhgaa.Dig Go.Proofs.Ytalcgjkegohhgaa.Lx Go.Proofs.Ytalcgjkegohhgaa.Tk Go.Proofs.Ytalcgjkegohhgaa.Ti Go.Proofs.Ytalcgjkegohhgaa.Zs Go.Proofs.Ytalcgjkegohhgaa.Tr
theorem Wide.not {v v' : Value} {w w' : World} (k : Wide v v' w w') {b : Nat} (hb : b < w.heap.size) (h : v.ownBlock ≠ some b) : v'.ownBlock ≠ some b := by
  rcases k.2 with e | e
  · rw [e]; exact h
  · rw [e]; intro e2; injection e2 with e2; omega
/-- ends in a constraint with its values beside it, or in none -/
def RetPl (R : Bool) (c : Cn) (vs : List Int) (w : World) (e : Ending) (w' : World) : Prop :=
  if R = true then ∃ u, e = .returned (.tuple #[u, .bool true]) ∧ PlAt w' u c.k c.x c.a c.c vs ∧ Since w w'
  else e = .returned (.tuple #[.agg #[.int .i64 0, .slice none 0 0, .slice none 0 0, .int .i64 0, .slice none 0 0], .bool false]) ∧ Since w w'
theorem RetPl.no {R : Bool} {c : Cn} {vs : List Int} {w w' : World} (h : false = R) (k : Since w w') : RetPl R c vs w (.returned (.tuple #[.agg #[.int .i64 0, .slice none 0 0, .slice none 0 0, .int .i64 0, .slice none 0 0], .bool false])) w' := by
  subst h; exact ⟨rfl, k⟩
end Go.Proofs.Ytalcgjkegohhgaa.Sn
end
section
namespace Go.Proofs.Ytalcgjkegohhgaa.Sn
open Go.RowKit
open Go.Proofs.Ytalcgjkegohhgaa.Dig Go.Proofs.Ytalcgjkegohhgaa.Lx Go.Proofs.Ytalcgjkegohhgaa.Tk Go.Proofs.Ytalcgjkegohhgaa.Ti Go.Proofs.Ytalcgjkegohhgaa.Zs Go.Proofs.Ytalcgjkegohhgaa.Tr
/-- the cells begin with these integers -/
def Beg (cur : Array Value) (l : List Int) : Prop := ∀ (i : Nat) (x : Int), l[i]? = some x → cur[i]? = some (Value.int IntKind.i64 x)
theorem sl_bx {W : World} {g : Nat} {cur : Array Value} {e : TypeId} {l : List Int} {n c : Nat} (h : Bx W g cur e) (hn : l.length = n) (hc : n ≤ c) (hh : Beg cur l) : Sl 1 QI W (.slice (some ⟨g, 0, none⟩) n c) l := by
  subst hn
  refine ⟨some ⟨g, 0, none⟩, c, rfl, hc, fun _ => ⟨g, 0, rfl, fun i x hx => ⟨[.int .i64 x], rfl, rfl, fun j y hy => ?_⟩⟩⟩
  match j, hy with
  | 0, hy =>
    cases hy
    rw [show 0 + i * 1 + 0 = i by omega, h.cell i]
    exact hh i x hx
  | j + 1, hy => simp at hy
theorem cur_set {cur : Array Value} {l : List Int} (hh : Beg cur l) {k : Nat} (hk : k < l.length) (y : Int) : Beg (cur.setIfInBounds k (Value.int IntKind.i64 y)) (l.set k y) := by
  intro i x hx
  have hks : k < cur.size := by
    have := hh k l[k] (by simp [hk])
    apply Decidable.byContradiction; intro hn
    rw [Array.getElem?_eq_none (by omega)] at this; cases this
  by_cases e : i = k
  · subst e
    rw [List.getElem?_set_self hk] at hx
    cases hx
    simp [hks]
  · rw [List.getElem?_set_ne (by omega)] at hx
    rw [Array.getElem?_setIfInBounds_ne (by omega)]
    exact hh i x hx
end Go.Proofs.Ytalcgjkegohhgaa.Sn
end
section
namespace Go.Proofs.Ytalcgjkegohhgaa.Sn
open Go.RowKit
open Go.Proofs.Ytalcgjkegohhgaa.Dig Go.Proofs.Ytalcgjkegohhgaa.Lx Go.Proofs.Ytalcgjkegohhgaa.Tk Go.Proofs.Ytalcgjkegohhgaa.Ti Go.Proofs.Ytalcgjkegohhgaa.Zs Go.Proofs.Ytalcgjkegohhgaa.Tr
def smC (c : Cn) : Bool := decide (c.x.length ≤ 200) && decide (c.a.length ≤ 200)
def smallM (m : Md) : Bool := decide (m.ds.length ≤ 200) && decide (m.cs.length ≤ 200) && m.ds.all (fun d => decide (d.length ≤ 400)) && m.cs.all smC
theorem smallM_sz {m : Md} (h : smallM m = true) : (∀ d ∈ m.ds, d.length ≤ 1100000) ∧ (∀ c ∈ m.cs, c.x.length ≤ 1100000 ∧ c.a.length ≤ 1100000) := by
  simp only [smallM, Bool.and_eq_true, List.all_eq_true, decide_eq_true_eq] at h
  refine ⟨fun d hd => by have := h.1.2 d hd; omega, fun c hc => ?_⟩
  have := h.2 c hc
  simp only [smC, Bool.and_eq_true, decide_eq_true_eq] at this
  omega
set_option maxRecDepth 20000 in
set_option maxHeartbeats 4000000 in
theorem small_any (v : Value) (m : Md) (w : World) (h : ModAt w v m) (hd : m.ds.length ≤ 9223372036854775807) (hc : m.cs.length ≤ 9223372036854775807) (hdd : ∀ d ∈ m.ds, d.length ≤ 9223372036854775807) (hcc : ∀ c ∈ m.cs, c.x.length ≤ 9223372036854775807 ∧ c.a.length ≤ 9223372036854775807) :
    Calls Try.prog 40 #[v] w (RetT (smallM m) w) := by
  obtain ⟨vd, vc, rfl, h1, h2⟩ := h
  obtain ⟨ds, cs, ask, goal⟩ := m
  simp only at h1 h2 hd hc hdd hcc ⊢
  obtain ⟨D, dc, rfl⟩ := h1.form
  obtain ⟨C, cc, rfl⟩ := h2.form
  obtain ⟨nd, hnd⟩ : ∃ n, n = ds.length := ⟨_, rfl⟩
  obtain ⟨nc, hnc⟩ : ∃ n, n = cs.length := ⟨_, rfl⟩
  obtain ⟨R, hR⟩ : ∃ R, R = smallM ⟨ds, cs, ask, goal⟩ := ⟨_, rfl⟩
  have HR := Lib.hid (show (decide (nd ≤ 200) && decide (nc ≤ 200) && ds.all (fun d => decide (d.length ≤ 400)) && cs.all smC) = R by rw [hR, hnd, hnc]; rfl)
  rw [← hR]
  rw [← hnd] at h1 hd ⊢
  rw [← hnc] at h2 hc ⊢
  have H1 := Lib.hid h1
  have H2 := Lib.hid h2
  have HND := Lib.hid hnd
  have HNC := Lib.hid hnc
  have HDD := Lib.hid hdd
  have HCC := Lib.hid hcc
  have ka := Lib.hid (since_alloc w (.cells #[.slice D nd dc, .slice C nc cc, .int .i64 ask, .int .i64 goal] 64))
  have BX := Lib.hid (fun W (kk : Since (w.alloc (.cells #[.slice D nd dc, .slice C nc cc, .int .i64 ask, .int .i64 goal] 64)) W) => (Bx.fresh w #[.slice D nd dc, .slice C nc cc, .int .i64 ask, .int .i64 goal] 64).since kk)
  clear h1 h2 hnd hnc hR hdd hcc
  by_cases cd : nd ≤ 200
  case neg =>
    have E := Lib.hid (show false = R by rw [← HR.out, decide_eq_false cd]; rfl)
    go_enter Try.func40, Try.ntmps40
    go_wp2
    go_ret
    exact .of E.out ka.out
  by_cases cn : nc ≤ 200
  case neg =>
    have E := Lib.hid (show false = R by rw [← HR.out, decide_eq_false cn, Bool.and_false]; rfl)
    go_enter Try.func40, Try.ntmps40
    go_wp2
    go_ret
    exact .of E.out ka.out
  have HR2 := Lib.hid (show (ds.all (fun d => decide (d.length ≤ 400)) && cs.all smC) = R by rw [← HR.out, decide_eq_true cd, decide_eq_true cn]; rfl)
  clear HR
  go_enter Try.func40, Try.ntmps40
  go_wp2
  go_loopw [20] (fun i wr => ∃ k : Nat, i = .int .i64 (k : Int) ∧ k ≤ nd ∧ Hid (((ds.drop k).all (fun d => decide (d.length ≤ 400)) && cs.all smC) = R) ∧ Hid (Since (w.alloc (.cells #[.slice D nd dc, .slice C nc cc, .int .i64 ask, .int .i64 goal] 64)) wr)) (fun i _ => nd - (intOf i).toNat)
  case atStart => exact ⟨0, rfl, Nat.zero_le _, HR2.out, Since.refl _⟩
  case round =>
    obtain ⟨k, rfl, hk, HE, HW⟩ := hrel
    obtain ⟨b0, b1, b2, b3⟩ := bx4 (BX.out _ HW.out)
    by_cases hkn : k < nd
    · have hkl : k < ds.length := by have := HND.out; omega
      obtain ⟨g, o, B2, d2, rfl, S2, e2⟩ := elD (H1.out.since stD (ka.out.trans HW.out)) hkl
      have hst := HE.out
      rw [List.drop_eq_getElem_cons hkl, List.all_cons] at hst
      have hsz := HDD.out _ (List.getElem_mem hkl)
      generalize ds[k] = y at *
      obtain ⟨p, hp⟩ : ∃ p, p = y.length := ⟨_, rfl⟩
      rw [← hp] at e2 hst hsz
      have ST := Lib.hid hst
      clear hst hkl HE S2 hp
      by_cases hy : p ≤ 400
      · have HE := Lib.hid (show ((ds.drop (k + 1)).all (fun d => decide (d.length ≤ 400)) && cs.all smC) = R by have := ST.out; rw [decide_eq_true hy, Bool.true_and] at this; exact this)
        clear ST
        go_wp2
        go_roundw
        case rel => exact ⟨k + 1, by go_num, by omega, HE.out, HW.out⟩
        case measure => simp [intOf]; omega
      · have HE := Lib.hid (show false = R by have := ST.out; rw [decide_eq_false hy, Bool.false_and, Bool.false_and] at this; exact this)
        clear ST
        go_wp2
        go_ret
        exact .of HE.out (ka.out.trans HW.out)
    · obtain rfl : k = nd := by omega
      have HB := Lib.hid (show cs.all smC = R by rw [← HE.out, List.drop_of_length_le (by have := HND.out; omega)]; rfl)
      clear HE
      rename World => w5
      go_wp2
      go_loopw [31] (fun i wr => ∃ j : Nat, i = .int .i64 (j : Int) ∧ j ≤ nc ∧ Hid ((cs.drop j).all smC = R) ∧ Hid (Since w5 wr)) (fun i _ => nc - (intOf i).toNat)
      case atStart => exact ⟨0, rfl, Nat.zero_le _, HB.out, Since.refl _⟩
      case round =>
        obtain ⟨j, rfl, hj, HE, HV⟩ := hrel
        by_cases hjn : j < nc
        · have hjl : j < cs.length := by have := HNC.out; omega
          obtain ⟨g, o, X, xc, Y, yc, rfl, S1, S2, e0, e1, e2, e3⟩ := elC (H2.out.since stC (ka.out.trans (HW.out.trans HV.out))) hjl
          have hst := HE.out
          rw [List.drop_eq_getElem_cons hjl, List.all_cons] at hst
          have hsz := HCC.out _ (List.getElem_mem hjl)
          generalize cs[j] = y at *
          obtain ⟨yk, yx, ya, y_c⟩ := y
          simp only [smC] at S1 S2 e0 e1 e2 e3 hsz hst
          obtain ⟨hz1, hz2⟩ := hsz
          obtain ⟨p1, hp1⟩ : ∃ p, p = yx.length := ⟨_, rfl⟩
          obtain ⟨p2, hp2⟩ : ∃ p, p = ya.length := ⟨_, rfl⟩
          rw [← hp1] at e1 hz1
          rw [← hp2] at e2 hz2
          rw [← hp1, ← hp2] at hst
          have ST := Lib.hid hst
          have kb := Lib.hid (since_alloc wr (.cells #[.int .i64 yk, .slice X p1 xc, .slice Y p2 yc, .int .i64 y_c] 58))
          clear hst hjl HE S1 S2 hp1 hp2
          by_cases c1 : p1 ≤ 200
          · by_cases c2 : p2 ≤ 200
            · have HE := Lib.hid (show (cs.drop (j + 1)).all smC = R by have := ST.out; rw [decide_eq_true c1, decide_eq_true c2, Bool.true_and, Bool.true_and] at this; exact this)
              clear ST
              go_wp2
              go_roundw
              case rel => exact ⟨j + 1, by go_num, by omega, HE.out, HV.out.trans kb.out⟩
              case measure => simp [intOf]; omega
            · have HE := Lib.hid (show false = R by have := ST.out; rw [decide_eq_false c2, Bool.and_false, Bool.false_and] at this; exact this)
              clear ST
              go_wp2
              go_ret
              exact .of HE.out (ka.out.trans (HW.out.trans (HV.out.trans kb.out)))
          · have HE := Lib.hid (show false = R by have := ST.out; rw [decide_eq_false c1, Bool.false_and, Bool.false_and] at this; exact this)
            clear ST
            go_wp2
            go_ret
            exact .of HE.out (ka.out.trans (HW.out.trans (HV.out.trans kb.out)))
        · obtain rfl : j = nc := by omega
          have HE2 := Lib.hid (show true = R by rw [← HE.out, List.drop_of_length_le (by have := HNC.out; omega)]; rfl)
          go_wp2
          go_ret
          exact .of HE2.out (ka.out.trans (HW.out.trans HV.out))
end Go.Proofs.Ytalcgjkegohhgaa.Sn
end
