/- Layer 11 (sense): a constraint with its values beside it: the landed hasSum, last, flag, others, sum, someLite -/
import Derived.Test.YtoegbgkgenjplaaUc
import Derived.Test.YtoegbgkgenjplaaUm
set_option linter.unusedVariables false
set_option linter.unusedSimpArgs false
section
namespace Go.Proofs.Ytoegbgkgenjplaa.Sn
open Go.RowKit
open Go.Proofs.Ytoegbgkgenjplaa.Dig Go.Proofs.Ytoegbgkgenjplaa.Lx Go.Proofs.Ytoegbgkgenjplaa.Tk Go.Proofs.Ytoegbgkgenjplaa.Ti Go.Proofs.Ytoegbgkgenjplaa.Zs Go.Proofs.Ytoegbgkgenjplaa.Tr
theorem bx5 {W : World} {g : Nat} {z0 z1 z2 z3 z4 : Value} {t : TypeId} (h : Bx W g #[z0, z1, z2, z3, z4] t) : W.cell? ⟨g, 0, none⟩ = some z0 ∧ W.cell? ⟨g, 1, none⟩ = some z1 ∧ W.cell? ⟨g, 2, none⟩ = some z2 ∧ W.cell? ⟨g, 3, none⟩ = some z3 ∧ W.cell? ⟨g, 4, none⟩ = some z4 := ⟨h.cell 0, h.cell 1, h.cell 2, h.cell 3, h.cell 4⟩
/-- a constraint with its values, by value -/
def PlAt (w : World) (u : Value) (k : Int) (x a : List Int) (c : Int) (v : List Int) : Prop :=
  ∃ X xc Y yc V vc, u = .agg #[.int .i64 k, .slice X x.length xc, .slice Y a.length yc, .int .i64 c, .slice V v.length vc] ∧ Sl 1 QI w (.slice X x.length xc) x ∧ Sl 1 QI w (.slice Y a.length yc) a ∧ Sl 1 QI w (.slice V v.length vc) v
theorem PlAt.since {w w' : World} {u : Value} {k : Int} {x a : List Int} {c : Int} {v : List Int} (h : PlAt w u k x a c v) (s : Since w w') : PlAt w' u k x a c v := by
  obtain ⟨X, xc, Y, yc, V, vc, h1, h2, h3, h4⟩ := h
  exact ⟨X, xc, Y, yc, V, vc, h1, h2.since stI s, h3.since stI s, h4.since stI s⟩
theorem mulB {x y : Int} (hx : within x = true) (hy : within y = true) : -1099511627776 ≤ x * y ∧ x * y ≤ 1099511627776 := by
  rw [within_iff'] at hx hy
  have h : (x * y).natAbs ≤ 1048576 * 1048576 := by rw [Int.natAbs_mul]; exact Nat.mul_le_mul (by omega) (by omega)
  omega
theorem wrap_id' {x : Int} (h1 : -9223372036854775808 ≤ x) (h2 : x ≤ 9223372036854775807) : IntKind.i64.wrap x = x := by simp [IntKind.wrap, IntKind.bits, IntKind.signed]; omega
theorem zip_at {a v : List Int} {k : Nat} (ha : k < a.length) (hv : k < v.length) : (a.zip v).drop k = (a[k], v[k]) :: (a.zip v).drop (k + 1) := by
  have h : k < (a.zip v).length := by rw [List.length_zip]; omega
  rw [List.drop_eq_getElem_cons h, List.getElem_zip]
set_option maxRecDepth 20000 in
set_option maxHeartbeats 2000000 in
theorem sum_any (u : Value) (k : Int) (x a : List Int) (c : Int) (v : List Int) (w : World) (h : PlAt w u k x a c v) (hn : a.length ≤ v.length) (hl : v.length ≤ 1000) (ha : a.all within = true) (hv : v.all within = true) :
    Calls Try.prog 41 #[u] w (fun e w' => e = .returned (.int .i64 (sm a v)) ∧ Since w w') := by
  obtain ⟨X, xc, Y, yc, V, vc, rfl, h1, h2, h3⟩ := h
  obtain ⟨R, hR⟩ : ∃ R, R = sm a v := ⟨_, rfl⟩
  obtain ⟨na, hna⟩ : ∃ n, n = a.length := ⟨_, rfl⟩
  obtain ⟨nv, hnv⟩ : ∃ n, n = v.length := ⟨_, rfl⟩
  rw [← hR]
  have HR := Lib.hid (show smF (a.zip v) = R from hR.symm)
  rw [← hna] at h2 hn ⊢
  rw [← hnv] at h3 hn hl ⊢
  generalize x.length = nx at *
  have ka := Lib.hid (since_alloc w (.cells #[.int .i64 k, .slice X nx xc, .slice Y na yc, .int .i64 c, .slice V nv vc] 56))
  have BX := Lib.hid (fun W (kk : Since (w.alloc (.cells #[.int .i64 k, .slice X nx xc, .slice Y na yc, .int .i64 c, .slice V nv vc] 56)) W) => (Bx.fresh w #[.int .i64 k, .slice X nx xc, .slice Y na yc, .int .i64 c, .slice V nv vc] 56).since kk)
  have H2 := Lib.hid h2
  have H3 := Lib.hid h3
  have HNA := Lib.hid hna
  have HNV := Lib.hid hnv
  have HA := Lib.hid (List.all_eq_true.1 ha)
  have HV := Lib.hid (List.all_eq_true.1 hv)
  clear h1 h2 h3 hna hnv hR ha hv
  go_enter Try.func41, Try.ntmps41
  go_wp2
  go_loopw [3, 10] (fun s i wr => ∃ (j : Nat) (z : Int), i = .int .i64 (j : Int) ∧ s = .int .i64 z ∧ j ≤ na ∧ -1099511627776 * (j : Int) ≤ z ∧ z ≤ 1099511627776 * (j : Int) ∧ Hid (z + smF ((a.zip v).drop j) = R) ∧ Hid (Since (w.alloc (.cells #[.int .i64 k, .slice X nx xc, .slice Y na yc, .int .i64 c, .slice V nv vc] 56)) wr)) (fun _ i _ => na - (intOf i).toNat)
  case atStart => exact ⟨0, 0, rfl, rfl, Nat.zero_le _, by omega, by omega, HR.out ▸ Int.zero_add _, Since.refl _⟩
  case round =>
    obtain ⟨j, z, rfl, rfl, hj, hz1, hz2, HE, HW⟩ := hrel
    obtain ⟨b0, b1, b2, b3, b4⟩ := bx5 (BX.out _ HW.out)
    by_cases hjn : j < na
    · have hja : j < a.length := by have := HNA.out; omega
      have hjv : j < v.length := by have := HNV.out; omega
      obtain ⟨g, o, rfl, e0⟩ := elI (H2.out.since stI (ka.out.trans HW.out)) hja
      obtain ⟨g', o', rfl, e1⟩ := elI (H3.out.since stI (ka.out.trans HW.out)) hjv
      have hst := HE.out
      rw [zip_at hja hjv, smF] at hst
      have hb := mulB (HA.out _ (List.getElem_mem hja)) (HV.out _ (List.getElem_mem hjv))
      simp only at hst
      generalize a[j] = y at *
      generalize v[j] = m at *
      obtain ⟨p, hp⟩ : ∃ p, p = y * m := ⟨_, rfl⟩
      rw [← hp] at hst hb
      obtain ⟨hb1, hb2⟩ := hb
      have hw : IntKind.i64.wrap (y * m) = p := by rw [← hp]; exact wrap_id' (by omega) (by omega)
      have ST := Lib.hid hst
      have hjv2 : j < nv := by omega
      clear hst hja hjv HE hp
      have HE := Lib.hid (show z + p + smF ((a.zip v).drop (j + 1)) = R by rw [← ST.out]; omega)
      go_wp2
      go_roundw
      case rel => exact ⟨j + 1, z + p, by go_num, by go_num, by omega, by omega, by omega, HE.out, HW.out⟩
      case measure => simp [intOf]; omega
    · obtain rfl : j = na := by omega
      have HE2 := Lib.hid (show z = R by rw [← HE.out, List.drop_of_length_le (by rw [List.length_zip]; have := HNA.out; omega)]; simp [smF])
      go_wp2
      go_ret
      exact RetI.of HE2.out (ka.out.trans HW.out)
end Go.Proofs.Ytoegbgkgenjplaa.Sn
end
section
namespace Go.Proofs.Ytoegbgkgenjplaa.Sn
open Go.RowKit
open Go.Proofs.Ytoegbgkgenjplaa.Dig Go.Proofs.Ytoegbgkgenjplaa.Lx Go.Proofs.Ytoegbgkgenjplaa.Tk Go.Proofs.Ytoegbgkgenjplaa.Ti Go.Proofs.Ytoegbgkgenjplaa.Zs Go.Proofs.Ytoegbgkgenjplaa.Tr
theorem bx4' {W : World} {g : Nat} {z0 z1 z2 z3 : Value} {t : TypeId} (h : Bx W g #[z0, z1, z2, z3] t) : W.frozen? ⟨g, 0, none⟩ = false ∧ W.frozen? ⟨g, 1, none⟩ = false ∧ W.frozen? ⟨g, 2, none⟩ = false ∧ W.frozen? ⟨g, 3, none⟩ = false := ⟨h.no 0, h.no 1, h.no 2, h.no 3⟩
/-- one constraint in a new block -/
theorem con_lit (W : World) (c : Cn) (X Y : Value) (hx : Sl 1 QI W X c.x) (ha : Sl 1 QI W Y c.a) : Sl 4 QC (W.alloc (.cells #[.int .i64 c.k, X, Y, .int .i64 c.c] 25)) (.slice (some ⟨W.heap.size, 0, none⟩) 1 1) [c] := by
  have hb := Bx.fresh W #[.int .i64 c.k, X, Y, .int .i64 c.c] 25
  have ks := since_alloc W (.cells #[.int .i64 c.k, X, Y, .int .i64 c.c] 25)
  refine ⟨some ⟨W.heap.size, 0, none⟩, 1, rfl, Nat.le_refl _, fun _ => ⟨W.heap.size, 0, rfl, fun i x hi => ?_⟩⟩
  match i, hi with
  | 0, hi =>
    cases hi
    refine ⟨_, ⟨X, Y, rfl, hx.since stI ks, ha.since stI ks⟩, rfl, fun j y hy => ?_⟩
    match j, hy with
    | 0, hy => cases hy; exact hb.cell 0
    | 1, hy => cases hy; exact hb.cell 1
    | 2, hy => cases hy; exact hb.cell 2
    | 3, hy => cases hy; exact hb.cell 3
    | j + 4, hy => simp at hy
  | i + 1, hi => simp at hi
theorem two_new (W : World) (y : Int) {g : Nat} (hg : W.heap.size = g) : ((W.alloc (.cells #[.int .i64 y, .int .i64 y] 49)).alloc (.cells #[.slice (some ⟨g, 0, none⟩) 1 1] 50)).cell? ⟨g + 1, 0, none⟩ = some (.slice (some ⟨g, 0, none⟩) 1 1) ∧
    Bx ((W.alloc (.cells #[.int .i64 y, .int .i64 y] 49)).alloc (.cells #[.slice (some ⟨g, 0, none⟩) 1 1] 50)) g #[.int .i64 y, .int .i64 y] 49 := by
  have h1 := Bx.fresh (W.alloc (.cells #[.int .i64 y, .int .i64 y] 49)) #[.slice (some ⟨g, 0, none⟩) 1 1] 50
  have e : (W.alloc (.cells #[.int .i64 y, .int .i64 y] 49)).heap.size = g + 1 := by simp [hg]
  rw [e] at h1
  exact ⟨h1.cell 0, Bx.new (since_alloc _ _) hg⟩
theorem Two.farX {w1 w : World} {B : Nat → Prop} {X D : Value} {jx jd : Nat} {v : List Int} (h : Two w1 w B X D jx jd v) : X.ownBlock ≠ some w.heap.size := fun e => by have := (h.1.lt _ e).2; omega
theorem Two.farD {w1 w : World} {B : Nat → Prop} {X D : Value} {jx jd : Nat} {v : List Int} (h : Two w1 w B X D jx jd v) : D.ownBlock ≠ some w.heap.size := fun e => by have := (h.2.1.lt _ e).2; omega
theorem Two.farB {w1 w : World} {B : Nat → Prop} {X D : Value} {jx jd : Nat} {v : List Int} (h : Two w1 w B X D jx jd v) : ¬ B w.heap.size := fun e => by have := (h.2.2.2 _ e).1; omega
end Go.Proofs.Ytoegbgkgenjplaa.Sn
end
