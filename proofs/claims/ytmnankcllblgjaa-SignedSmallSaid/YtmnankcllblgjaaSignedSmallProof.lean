/-
  For all numbers a and b of 64 bits: the law SignedSmall returns true (they are added, multiplied and compared as such, where what comes is one). No condition.
-/
import Derived.Test.YtmnankcllblgjaaRows
import Derived.WalkKit
import Derived.ProofKit
import Derived.OpenShut
import Derived.ShutString
import Derived.Test.YtmnankcllblgjaaLw
import Derived.Test.YtmnankcllblgjaaSb
import Derived.Test.YtmnankcllblgjaaWd
import Derived.Deep.DeepCutAuto
namespace Go.Proofs.Ytmnankcllblgjaa.signedSmall
open Go.ChangeShapes Go.WideShapes Go.ChangeAt Go.RowKit
open Go.ChangeMaps (open_string shut_string)
open Go.Proofs.Ytmnankcllblgjaa.Dig
open Go.Proofs.Ytmnankcllblgjaa.Ref03 (sv RetS RetZ addZ mulZ cmpZ smallZ ngB mag sval fitsI fitZ srightB)
set_option linter.unusedVariables false

theorem own : ownKnob Try.prog.godebug = none := by kernel_rfl

theorem sval_mag (n : Int) : sval (ngB n) (mag n) = n := by
  unfold sval ngB mag
  rw [num_digs]
  by_cases h : n < 0 <;> simp [h] <;> omega
theorem mag_short {n : Int} (h : -9223372036854775808 ≤ n ∧ n ≤ 9223372036854775807) : (mag n).length ≤ 2 := digs_len_le (by omega)
theorem right_mag {n : Int} (h : (mag n).length ≤ 256) : srightB (ngB n) (mag n) = true := by
  unfold srightB
  rw [right_of h (norm_digs _)]
  by_cases h0 : n = 0
  · subst h0; rfl
  · have e := Ref03.mag_len n
    have : (mag n).length ≠ 0 := by
      intro hz; rw [hz] at e; simp [h0] at e
    simp [this]
theorem mag_wide {a b : Int} (ha : -9223372036854775808 ≤ a ∧ a ≤ 9223372036854775807) (hb : -9223372036854775808 ≤ b ∧ b ≤ 9223372036854775807) : (mag (a + b)).length ≤ 4 ∧ (mag (a * b)).length ≤ 4 := by
  refine ⟨digs_len_le (by omega), digs_len_le ?_⟩
  rw [Int.natAbs_mul]
  have h1 : a.natAbs ≤ 9223372036854775808 := by omega
  have h2 : b.natAbs ≤ 9223372036854775808 := by omega
  exact Nat.lt_of_le_of_lt (Nat.mul_le_mul h1 h2) (by decide)
theorem small_mag {z : Int} (h : (mag z).length ≤ 4) : smallZ (ngB z) (mag z) = if fitsI z then (z, 0) else (0, 4) := by
  rw [smallZ, if_pos (right_mag (by omega)), sval_mag]
theorem small_at (A0 : Option Addr) (c0 : Nat) (na : Bool) (xs : List Nat) (w : World) (hx : Row w (.slice A0 xs.length c0) xs) (lx : xs.length ≤ 1000) {n e : Int} (h : smallZ na xs = (n, e)) :
    Calls Try.prog 11 #[sv na (.slice A0 xs.length c0)] w fun e' w' => e' = .returned (.tuple #[.int .i64 n, .int .i64 e]) ∧ Since w w' := by
  have k := Sg03.small_any A0 c0 na xs w hx lx
  rwa [h] at k
theorem cmp_at (A0 A1 : Option Addr) (c0 c1 : Nat) (na nb : Bool) (xs ys : List Nat) (w : World) (hx : Row w (.slice A0 xs.length c0) xs) (hy : Row w (.slice A1 ys.length c1) ys) (lx : xs.length ≤ 1000) (ly : ys.length ≤ 1000) {n e : Int} (h : cmpZ na xs nb ys = (n, e)) :
    Calls Try.prog 14 #[sv na (.slice A0 xs.length c0), sv nb (.slice A1 ys.length c1)] w fun e' w' => e' = .returned (.tuple #[.int .i64 n, .int .i64 e]) ∧ Since w w' := by
  have k := Sg03.cmp_any A0 A1 c0 c1 na nb xs ys w hx hy lx ly
  rwa [h] at k
theorem fits_wrap {z : Int} (h : fitsI z) : wrap64 z = z := by
  obtain ⟨h1, h2⟩ := h
  unfold wrap64; omega

set_option maxRecDepth 100000 in
set_option maxHeartbeats 4000000 in
theorem walk (a0 : Int) (a1 : Int) (w0 : (Lit.int .i64 a0).wf = true) (w1 : (Lit.int .i64 a1).wf = true) (w : World) :
    Calls Try.prog 8 #[.int .i64 a0, .int .i64 a1] w fun e w' => e = .returned (.bool true) ∧ Since w w' := by
  have h0 : -9223372036854775808 ≤ a0 ∧ a0 ≤ 9223372036854775807 := by simpa [Lit.wf, IntKind.min, IntKind.max, IntKind.signed, IntKind.bits] using w0
  have h1 : -9223372036854775808 ≤ a1 ∧ a1 ≤ 9223372036854775807 := by simpa [Lit.wf, IntKind.min, IntKind.max, IntKind.signed, IntKind.bits] using w1
  have B0 := Lib.hid h0
  have B1 := Lib.hid h1
  have l0 := mag_short h0
  have l1 := mag_short h1
  obtain ⟨l2, l3⟩ := mag_wide h0 h1
  have E1 : addZ (ngB a0) (mag a0) (ngB a1) (mag a1) = ((ngB (a0 + a1), mag (a0 + a1)), 0) := by rw [addZ, if_pos ⟨right_mag (by omega), right_mag (by omega)⟩, sval_mag, sval_mag, fitZ, if_pos (by omega)]
  have E2 : mulZ (ngB a0) (mag a0) (ngB a1) (mag a1) = ((ngB (a0 * a1), mag (a0 * a1)), 0) := by rw [mulZ, if_pos ⟨right_mag (by omega), right_mag (by omega)⟩, sval_mag, sval_mag, fitZ, if_pos (by omega)]
  have E3 : cmpZ (ngB a0) (mag a0) (ngB a1) (mag a1) = (if a0 < a1 then (-1, 0) else if a1 < a0 then (1, 0) else (0, 0)) := by rw [cmpZ, if_pos ⟨right_mag (by omega), right_mag (by omega)⟩, sval_mag, sval_mag]
  have E4 : smallZ (ngB a0) (mag a0) = (a0, 0) := by rw [small_mag (by omega)]; exact if_pos h0
  have E5 := small_mag l2
  have E6 := small_mag l3
  obtain ⟨sm, hsm⟩ : ∃ s, s = a0 + a1 := ⟨_, rfl⟩
  obtain ⟨pr, hpr⟩ : ∃ p, p = a0 * a1 := ⟨_, rfl⟩
  rw [← hsm] at E1 E5 l2
  rw [← hpr] at E2 E6 l3
  have F1 : fitsI sm → wrap64 (a0 + a1) = sm := fun h => by rw [← hsm]; exact fits_wrap h
  have F2 : fitsI pr → wrap64 (a0 * a1) = pr := fun h => by rw [← hpr]; exact fits_wrap h
  clear hsm hpr
  obtain ⟨nx, hnx⟩ : ∃ n, n = ngB a0 := ⟨_, rfl⟩
  obtain ⟨sx, hsx⟩ : ∃ s, s = mag a0 := ⟨_, rfl⟩
  obtain ⟨ny, hny⟩ : ∃ n, n = ngB a1 := ⟨_, rfl⟩
  obtain ⟨sy, hsy⟩ : ∃ s, s = mag a1 := ⟨_, rfl⟩
  have OF0 : Hid (∀ W, Calls Try.prog 20 #[.int .i64 a0] W (RetS nx sx W)) := fun W => by rw [hnx, hsx]; exact Sg03.of_any a0 W B0.out
  have OF1 : Hid (∀ W, Calls Try.prog 20 #[.int .i64 a1] W (RetS ny sy W)) := fun W => by rw [hny, hsy]; exact Sg03.of_any a1 W B1.out
  rw [← hnx, ← hsx] at E1 E2 E3 E4
  rw [← hny, ← hsy] at E1 E2 E3
  rw [← hsx] at l0
  rw [← hsy] at l1
  obtain ⟨nz, hnz⟩ : ∃ n, n = ngB sm := ⟨_, rfl⟩
  obtain ⟨sz, hsz⟩ : ∃ s, s = mag sm := ⟨_, rfl⟩
  obtain ⟨nt, hnt⟩ : ∃ n, n = ngB pr := ⟨_, rfl⟩
  obtain ⟨st, hst⟩ : ∃ s, s = mag pr := ⟨_, rfl⟩
  rw [← hnz, ← hsz] at E1 E5
  rw [← hnt, ← hst] at E2 E6
  rw [← hsz] at l2
  rw [← hst] at l3
  clear hnx hsx hny hsy hnz hsz hnt hst
  have E1 := Lib.hid E1
  have E2 := Lib.hid E2
  have E4 := Lib.hid E4
  have LL := Lib.hid (show (sx.length ≤ 1000 ∧ sy.length ≤ 1000) ∧ sz.length ≤ 1000 ∧ st.length ≤ 1000 by omega)
  clear l0 l1 l2 l3
  obtain ⟨c, E3, hc⟩ : ∃ c : Int, Hid (cmpZ nx sx ny sy = (c, 0)) ∧ ((c = -1 ∧ a0 < a1) ∨ (c = 1 ∧ a1 < a0) ∨ (c = 0 ∧ a0 ≤ a1 ∧ a1 ≤ a0)) := by
    rcases Int.lt_trichotomy a0 a1 with h | h | h
    · rw [if_pos h] at E3; exact ⟨_, E3, .inl ⟨rfl, h⟩⟩
    · rw [if_neg (by omega), if_neg (by omega)] at E3; exact ⟨_, E3, .inr (.inr ⟨rfl, by omega, by omega⟩)⟩
    · rw [if_neg (by omega), if_pos h] at E3; exact ⟨_, E3, .inr (.inl ⟨rfl, h⟩)⟩
  obtain ⟨m1, e1, E5, g1⟩ : ∃ m e : Int, Hid (smallZ nz sz = (m, e)) ∧ ((e = 0 ∧ wrap64 (a0 + a1) = m) ∨ e = 4) := by
    by_cases h : fitsI sm
    · rw [if_pos h] at E5; exact ⟨_, _, E5, .inl ⟨rfl, F1 h⟩⟩
    · rw [if_neg h] at E5; exact ⟨_, _, E5, .inr rfl⟩
  obtain ⟨m2, e2, E6, g2⟩ : ∃ m e : Int, Hid (smallZ nt st = (m, e)) ∧ ((e = 0 ∧ wrap64 (a0 * a1) = m) ∨ e = 4) := by
    by_cases h : fitsI pr
    · rw [if_pos h] at E6; exact ⟨_, _, E6, .inl ⟨rfl, F2 h⟩⟩
    · rw [if_neg h] at E6; exact ⟨_, _, E6, .inr rfl⟩
  clear F1 F2
  have HC := Lib.hid hc
  have G1 := Lib.hid g1
  have G2 := Lib.hid g2
  clear hc g1 g2 h0 h1
  go_enter Try.func8, Try.ntmps8
  go_upto_region 4 with (first
      | (go_at_call 9; (with_reducible refine (Alive03.alive _).mono ?_); rintro e v0 ⟨rfl, hv0⟩; have hK := hv0)
      | (go_at_call 20; (with_reducible refine (OF0.out _).mono ?_); rintro e v1 ⟨A0, q0, rfl, r0, h⟩; have hK := hK.trans h)
      | (go_at_call 20; (with_reducible refine (OF1.out _).mono ?_); rintro e v2 ⟨A1, q1, rfl, r1, h⟩; have r0 := r0.since h; have hS := hK.trans h))
  have hK := Since.refl v2
  obtain ⟨W1, hW1⟩ : ∃ W1, W1 = (v2.alloc (.cells #[.bool nx, .slice A0 sx.length q0] 30)).alloc (.cells #[.bool ny, .slice A1 sy.length q1] 30) := ⟨_, rfl⟩
  rw [← hW1]
  have V0 : Hid (∀ W', Since W1 W' → W'.cell? ⟨v2.heap.size, 0, none⟩ = some (.bool nx) ∧ W'.cell? ⟨v2.heap.size, 1, none⟩ = some (.slice A0 sx.length q0)) := fun W' h => by rw [hW1] at h; exact ⟨(keep2 ((since_alloc _ _).trans h)).1, (keep2 ((since_alloc _ _).trans h)).2.1⟩
  have V1 : Hid (∀ W', Since W1 W' → W'.cell? ⟨v2.heap.size + 1, 0, none⟩ = some (.bool ny) ∧ W'.cell? ⟨v2.heap.size + 1, 1, none⟩ = some (.slice A1 sy.length q1)) := fun W' h => by rw [hW1] at h; exact ⟨(Ref03.keep2of h).1, (Ref03.keep2of h).2.1⟩
  have hx : Since v2 W1 := by rw [hW1]; exact (since_alloc _ _).trans (since_alloc _ _)
  have hg := hK.trans hx
  have r0 := r0.since hx
  have r1 := r1.since hx
  have hS := hS.trans hg
  clear hW1 hx hg hK
  generalize v2.heap.size = bk0 at *
  have hK := Since.refl W1
  obtain ⟨u0a, u0b⟩ := V0.out _ hK
  obtain ⟨u1a, u1b⟩ := V1.out _ hK
  go_upto_region 5 with (first
      | (go_at_call 22; (with_reducible refine (Sg03.add_any A0 A1 q0 q1 nx ny sx sy _ (r0.since hK) (r1.since hK) LL.out.1.1 LL.out.1.2).mono ?_); rw [E1.out]; rintro e v3 ⟨A2, q2, rfl, r2, h⟩; have hK := hK.trans h))
  obtain ⟨W2, hW2⟩ : ∃ W2, W2 = v3.alloc (.cells #[.bool nz, .slice A2 sz.length q2] 30) := ⟨_, rfl⟩
  rw [← hW2]
  have V2 : Hid (∀ W', Since W2 W' → W'.cell? ⟨v3.heap.size, 0, none⟩ = some (.bool nz) ∧ W'.cell? ⟨v3.heap.size, 1, none⟩ = some (.slice A2 sz.length q2)) := fun W' h => by rw [hW2] at h; exact ⟨(keep2 h).1, (keep2 h).2.1⟩
  have hx : Since v3 W2 := by rw [hW2]; exact since_alloc _ _
  have hg := hK.trans hx
  have r0 := r0.since hg
  have r1 := r1.since hg
  have r2 := r2.since hx
  have V0 : Hid (∀ W', Since W2 W' → _) := fun W' h => V0.out W' (hg.trans h)
  have V1 : Hid (∀ W', Since W2 W' → _) := fun W' h => V1.out W' (hg.trans h)
  have hS := hS.trans hg
  clear hW2 hx hg hK
  generalize v3.heap.size = bk2 at *
  have hK := Since.refl W2
  obtain ⟨u0a, u0b⟩ := V0.out _ hK
  obtain ⟨u1a, u1b⟩ := V1.out _ hK
  obtain ⟨u2a, u2b⟩ := V2.out _ hK
  go_upto_region 6 with (first
      | (go_at_call 24; (with_reducible refine (Sg03.mul_any A0 A1 q0 q1 nx ny sx sy _ (r0.since hK) (r1.since hK) LL.out.1.1 LL.out.1.2).mono ?_); rw [E2.out]; rintro e v4 ⟨A3, q3, rfl, r3, h⟩; have hK := hK.trans h))
  obtain ⟨W3, hW3⟩ : ∃ W3, W3 = v4.alloc (.cells #[.bool nt, .slice A3 st.length q3] 30) := ⟨_, rfl⟩
  rw [← hW3]
  have V3 : Hid (∀ W', Since W3 W' → W'.cell? ⟨v4.heap.size, 0, none⟩ = some (.bool nt) ∧ W'.cell? ⟨v4.heap.size, 1, none⟩ = some (.slice A3 st.length q3)) := fun W' h => by rw [hW3] at h; exact ⟨(keep2 h).1, (keep2 h).2.1⟩
  have hx : Since v4 W3 := by rw [hW3]; exact since_alloc _ _
  have hg := hK.trans hx
  have r0 := r0.since hg
  have r1 := r1.since hg
  have r2 := r2.since hg
  have r3 := r3.since hx
  have V0 : Hid (∀ W', Since W3 W' → _) := fun W' h => V0.out W' (hg.trans h)
  have V1 : Hid (∀ W', Since W3 W' → _) := fun W' h => V1.out W' (hg.trans h)
  have V2 : Hid (∀ W', Since W3 W' → _) := fun W' h => V2.out W' (hg.trans h)
  have hS := hS.trans hg
  clear hW3 hx hg hK
  generalize v4.heap.size = bk3 at *
  have hK := Since.refl W3
  obtain ⟨u0a, u0b⟩ := V0.out _ hK
  obtain ⟨u1a, u1b⟩ := V1.out _ hK
  obtain ⟨u2a, u2b⟩ := V2.out _ hK
  obtain ⟨u3a, u3b⟩ := V3.out _ hK
  have b0 := B0.out
  have b1 := B1.out
  rcases HC.out with ⟨rfl, hc⟩ | ⟨rfl, hc⟩ | ⟨rfl, hc, hd⟩
  all_goals
    rcases G1.out with ⟨rfl, g1⟩ | rfl
    all_goals
      rcases G2.out with ⟨rfl, g2⟩ | rfl
      all_goals
        go_wp2_with (first
              | (go_at_call 14; (with_reducible refine (cmp_at A0 A1 q0 q1 nx ny sx sy _ (r0.since hK) (r1.since hK) LL.out.1.1 LL.out.1.2 E3.out).mono ?_); rintro e v5 ⟨rfl, h⟩; have hK := hK.trans h; obtain ⟨u0a, u0b⟩ := V0.out _ hK; obtain ⟨u1a, u1b⟩ := V1.out _ hK; obtain ⟨u2a, u2b⟩ := V2.out _ hK; obtain ⟨u3a, u3b⟩ := V3.out _ hK)
              | (go_at_call 11; (with_reducible refine (small_at A2 q2 nz sz _ (r2.since hK) LL.out.2.1 E5.out).mono ?_); rintro e v6 ⟨rfl, h⟩; have hK := hK.trans h; obtain ⟨u0a, u0b⟩ := V0.out _ hK; obtain ⟨u1a, u1b⟩ := V1.out _ hK; obtain ⟨u2a, u2b⟩ := V2.out _ hK; obtain ⟨u3a, u3b⟩ := V3.out _ hK)
              | (go_at_call 11; (with_reducible refine (small_at A3 q3 nt st _ (r3.since hK) LL.out.2.2 E6.out).mono ?_); rintro e v7 ⟨rfl, h⟩; have hK := hK.trans h; obtain ⟨u0a, u0b⟩ := V0.out _ hK; obtain ⟨u1a, u1b⟩ := V1.out _ hK; obtain ⟨u2a, u2b⟩ := V2.out _ hK; obtain ⟨u3a, u3b⟩ := V3.out _ hK)
              | (go_at_call 11; (with_reducible refine (small_at A0 q0 nx sx _ (r0.since hK) LL.out.1.1 E4.out).mono ?_); rintro e v8 ⟨rfl, h⟩; have hK := hK.trans h; obtain ⟨u0a, u0b⟩ := V0.out _ hK; obtain ⟨u1a, u1b⟩ := V1.out _ hK; obtain ⟨u2a, u2b⟩ := V2.out _ hK; obtain ⟨u3a, u3b⟩ := V3.out _ hK))
        go_ret
        exact ⟨rfl, hS.trans hK⟩

set_option maxRecDepth 100000 in
theorem lifted (os : Os) (started : os.Started) (H : Type) (enc : TypeId × Value → H) :
    ReturnsInHanded {} Try.checked os 8 .any (Rows.signedSmallSpec.pre6 enc Try.prog Try.f8 Rows.signedSmallRow.domain false) (Rows.signedSmallSpec.post enc Try.prog Try.f8 false true false false) := by
  refine returnsInHanded_of_change (C := Try.checked) own started (by kernel_rfl) Try.func8
    (ChangeSpec.witness6 (enc := enc) (C := Try.checked) false ⟨#[], #[.int .i64 0, .int .i64 0], []⟩ 8 (by kernel_rfl) (by kernel_rfl) (by kernel_rfl) (by kernel_rfl)) ?_
  intro W base args ds gs before hval0 hW hcnd _
  have hval : ∀ (j : Nat) t v, Try.f8.params[j]? = some t → args[j]? = some v → Value.okWide Try.prog W .any base t v := hval0
  have hW' := hW
  obtain ⟨p, q, hA0, hV, rfl, hfz, hnd⟩ := hW
  have hA : DataW.TrodAll enc Try.prog W 0 (fun _ => true) true Try.f8.params.toList args.toList ds p := hA0
  rw [Try.params8] at hA hval
  obtain ⟨v0, vs0, d0, ds0, p0, q0, hargs, rfl, rfl, h0, r0⟩ := trodAll_cons hA
  obtain ⟨v1, vs1, d1, ds1, p1, q1, rfl, rfl, rfl, h1, r1⟩ := trodAll_cons r0
  obtain ⟨rfl, rfl, rfl⟩ := trodAll_nil r1
  obtain rfl : args = #[v0, v1] := by cases args; simp_all
  obtain ⟨rfl, rfl⟩ := trodVars_none hV
  obtain ⟨a0, rfl, rfl, rfl, w0⟩ := open_int Try.underlying2 (hval 0 2 v0 rfl rfl) h0
  obtain ⟨a1, rfl, rfl, rfl, w1⟩ := open_int Try.underlying2 (hval 1 2 v1 rfl rfl) h1
  clear hA0 hval0
  simp only [List.append_nil] at hW'
  refine (walk a0 a1 w0 w1 W).mono fun e W' ⟨he, bel⟩ => ?_
  subst he
  exact ⟨_, rfl, _, _, _, [], [], [], hW', (trodAll_cons_mk (shut_bool Try.underlying4 _) trodAll_mk0), (trodAll_cons_mk (shut_int Try.underlying2 w0) (trodAll_cons_mk (shut_int Try.underlying2 w1) trodAll_mk0)), rfl, Below.frame bel _, fun h => by cases h⟩

theorem over : Rows.signedSmallRow.holds Try.pinned (OpenSpec.ofChange Rows.signedSmallSpec) :=
  OpenClaim.holds_of_wide 8 Try.f8 rfl rfl rfl rfl rfl rfl rfl ⟨rfl, rfl, rfl, rfl, rfl⟩ rfl rfl rfl rfl rfl (by kernel_rfl) Try.func8 (by kernel_rfl)
    (of_decide_eq_true (by kernel_rfl)) (by unfold Func.isWrapper; first | (rw [if_pos (by decide +kernel)]; kernel_rfl) | (rw [if_neg (by decide +kernel)]; exact ⟨rfl, rfl⟩))
    (fun os started H enc _ => lifted os started H enc)

/-- THE STATEMENT -/
theorem proved : Rows.SignedSmallSaid :=
  over
#print axioms proved
end Go.Proofs.Ytmnankcllblgjaa.signedSmall
