/-
  For all acts: the law TrailNobody returns true (a store that no call made answers an error and has nothing; what was handed in, or told, may be written over). No condition.
-/
import Derived.Test.YtnojfeffmbdpmaaRows
import Derived.WalkKit
import Derived.ProofKit
import Derived.OpenShut
import Derived.ShutString
import Derived.Test.YtnojfeffmbdpmaaVw
namespace Go.Proofs.Ytnojfeffmbdpmaa.trailNobody
open Go.ChangeShapes Go.WideShapes Go.ChangeAt Go.RowKit
open Go.ChangeMaps (open_string shut_string)
open Go.Proofs.Ytnojfeffmbdpmaa.Dig Go.Proofs.Ytnojfeffmbdpmaa.Zs Go.Proofs.Ytnojfeffmbdpmaa.Tr
open Go.Proofs.Ytnojfeffmbdpmaa.Ti (Sl QR stR)
set_option linter.unusedVariables false

theorem laidOut : laidOutB Try.prog = true := by kernel_rfl
theorem own : ownKnob Try.prog.godebug = none := by kernel_rfl

theorem nob_at {W : World} {g : Nat} {p q : Option Addr} {t : TypeId} (h : Bx W g #[.pointer p, .pointer q] t) {k : Nat} (hk : k < 2) : ∃ r, W.cell? ⟨g, k, none⟩ = some (.pointer r) ∧ (r = p ∨ r = q) := by
  match k, hk with
  | 0, _ => exact ⟨p, h.cell 0, .inl rfl⟩
  | 1, _ => exact ⟨q, h.cell 1, .inr rfl⟩
theorem nob_r {w : World} {A : Option Addr} {c : Nat} {a b : Int} (h : Sl 2 QR w (.slice A 1 c) [(a, b)]) : ∃ g o, A = some ⟨g, o, none⟩ ∧ w.cell? ⟨g, o, none⟩ = some (.int .i64 a) ∧ w.cell? ⟨g, o + 1, none⟩ = some (.int .i64 b) := by
  obtain ⟨g, o, h1, h2, h3⟩ := Ti.elR h (i := 0) (by simp)
  exact ⟨g, o, h1, by simpa using h2, by simpa using h3⟩
theorem nob_d {w0 : World} {R : Value} {w : World} {A : Option Addr} {c : Nat} {a b : Int} (h : Sl 1 (fun _ => NewD w0 R w) w (.slice A 1 c) [[(a, b)]]) :
    ∃ g o B d, A = some ⟨g, o, none⟩ ∧ w.cell? ⟨g, o, none⟩ = some (.slice B 1 d) ∧ Sl 2 QR w (.slice B 1 d) [(a, b)] ∧ ∀ k, (Value.slice B 1 d).ownBlock = some k → w0.heap.size ≤ k ∧ ∀ j, w.frozen? ⟨k, j, none⟩ = false := by
  obtain ⟨g, o, u, h1, ⟨v, h2, h3, h4⟩, h5⟩ := el1 h (i := 0) (by simp)
  injection h2 with h2
  subst h2
  obtain ⟨B, d, rfl⟩ := h3.form
  exact ⟨g, o, B, d, h1, by simpa using h5, h3, fun k hk => ⟨(h4 k hk).1, (h4 k hk).2.2.2⟩⟩
theorem nob_l : (newD [[(1, 5)]]).D.length = 1 := rfl
theorem nob_n {w W w5 : World} {G : Nat → Bool} {N b : Nat} {s : Sto} {cs : List Value} {C : Array Value} {t : TypeId} (m : Mine w G N W b s cs) (T : Turn G (W.alloc (.cells C t)) w5) : Bx w5 W.heap.size C t := by
  have hg : G W.heap.size = false := by
    cases hG : G W.heap.size with
    | false => rfl
    | true => exact absurd (m.g _ hG) (Nat.lt_irrefl _)
  have h := T.block W.heap.size (by simp) hg
  have h2 := Bx.fresh W C t
  unfold Bx at *
  rw [h]; exact h2
theorem nob_c {w W : World} {G : Nat → Bool} {N b : Nat} {s : Sto} {cs cs' : List Value} {X : Obj} (m : Mine w G N W b s cs) (h : ∀ u ∈ cs', u ∈ cs ∨ ∀ g, u.ownBlock = some g → (W.alloc X).heap.size ≤ g) : ∀ u ∈ cs', u.ownBlock ≠ some W.heap.size := by
  intro u hu e
  rcases h u hu with h | h
  · obtain ⟨vD, vL, mc, t⟩ := m.t
    exact absurd (t.cs_lt u h _ e) (Nat.lt_irrefl _)
  · have := h _ e
    simp at this
    omega

set_option maxRecDepth 100000 in
set_option maxHeartbeats 40000000 in
theorem walk (k0k x0 : Int) (a0 : Option Addr) (n0 c0 : Nat) (z0 : List (Int × Int)) (w : World) (w0 : Go.Proofs.Ytnojfeffmbdpmaa.Tr.ActIn w k0k x0 a0 n0 c0 z0) :
    Calls Try.prog 6 #[.agg #[.int .u8 k0k, .int .i64 x0, .slice a0 n0 c0]] w fun e w' => e = .returned (.bool true) ∧ Since w w' := by
  have AL := Lib.hid alive_any
  have ED := Lib.hid (bdd_one 1 5 (by omega) (by omega))
  have EN := Lib.hid (bd_one 2 4 (by omega) (by omega))
  clear w0
  by_cases h300 : n0 > 300
  · go_enter Try.func6, Try.ntmps6
    go_wp2_with (go_at_call 7; (with_reducible refine (AL.out _).mono ?_); rintro e w1 ⟨rfl, k1⟩; obtain ⟨b0, b1, b2⟩ := bx3 ((Bx.fresh w _ _).since k1))
    go_ret
    exact ⟨rfl, (since_alloc _ _).trans k1⟩
  · go_enter Try.func6, Try.ntmps6
    go_wp2_with (go_at_call 7; (with_reducible refine (AL.out _).mono ?_); rintro e w1 ⟨rfl, k1⟩; have BA := Lib.hid ((Bx.fresh w _ _).since k1); have K1 := Lib.hid ((since_alloc _ _).trans k1); clear k1; obtain ⟨b0, b1, b2⟩ := bx3 BA.out)
    go_loopw [22] (fun i wr => ∃ (k : Nat), i = .int .i64 (k : Int) ∧ k ≤ 2 ∧ Hid (Since w1 wr) ∧ Hid (Bx wr w1.heap.size #[.slice none 0 0, .slice none 0 0, .map none] 62) ∧ Hid (Bx wr (w1.heap.size + 1) #[.pointer none, .pointer (some ⟨w1.heap.size, 0, none⟩)] 26)) (fun i _ => 2 - (intOf i).toNat)
    case atStart => exact ⟨0, rfl, Nat.zero_le _, (since_alloc _ _).trans (since_alloc _ _), (Bx.fresh w1 _ _).since (since_alloc _ _), Bx.new (Since.refl _) (by simp)⟩
    case round =>
      obtain ⟨k, rfl, hk, HK, HS, HR⟩ := hrel
      clear b0 b1 b2
      by_cases hc : k < 2
      · obtain ⟨p, e0, hp⟩ := nob_at HR.out hc
        have U := Lib.hid (show Unmade wr p by
          rcases hp with rfl | rfl
          · exact .inl rfl
          · exact .inr ⟨_, rfl, HS.out⟩)
        clear hp
        obtain ⟨b0, b1, b2⟩ := bx3 (BA.out.since HK.out)
        go_wp2_with (first
          | (go_at_call 12; (with_reducible refine (narrow_no U.out _ _).mono ?_); rintro e w2 ⟨rfl, k2⟩; have K2 := Lib.hid k2; clear k2)
          | (go_at_call 15; (with_reducible refine (push_no (U.out.since K2.out)).mono ?_); rintro e w3 ⟨rfl, k3⟩; have K3 := Lib.hid (K2.out.trans k3); clear k3)
          | (go_at_call 17; (with_reducible refine (pop_no (U.out.since K3.out)).mono ?_); rintro e w4 ⟨rfl, k4⟩; have K4 := Lib.hid (K3.out.trans k4); clear k4)
          | (go_at_call 24; (with_reducible refine (len_no (U.out.since K4.out)).mono ?_); rintro e w5 ⟨rfl, k5⟩; have K5 := Lib.hid (K4.out.trans k5); clear k5)
          | (go_at_call 23; (with_reducible refine (level_no (U.out.since K5.out)).mono ?_); rintro e w6 ⟨rfl, k6⟩; have K6 := Lib.hid (K5.out.trans k6); clear k6; obtain ⟨c0, c1, c2⟩ := bx3 (BA.out.since (HK.out.trans K6.out)))
          | (go_at_call 26; (with_reducible refine (tget_no (U.out.since K6.out) _).mono ?_); rintro e w7 ⟨rfl, k7⟩; have K7 := Lib.hid (K6.out.trans k7); clear k7)
          | (go_at_call 22; (with_reducible refine (all_no (U.out.since K7.out)).mono ?_); rintro e w8 ⟨rfl, k8⟩; have K8 := Lib.hid (K7.out.trans k8); clear k8)
          | (go_at_call 20; (with_reducible refine (changed_no (U.out.since K8.out)).mono ?_); rintro e w9 ⟨rfl, k9⟩; have K9 := Lib.hid (K8.out.trans k9); clear k9))
        go_roundw
        case rel => exact ⟨k + 1, by go_num, by omega, HK.out.trans K9.out, HS.out.since K9.out, HR.out.since K9.out⟩
        case measure => simp [intOf]; omega
      · obtain rfl : 2 = k := by omega
        have KW := Lib.hid (K1.out.trans HK.out)
        have SZ := Lib.hid KW.out.size
        clear BA K1 HK HS HR AL
        go_wp2_with (first
          | (go_at_call 9; (with_reducible refine (new_mine (alive_new wr) (by decide) ED.out al0 (KW.out.trans ((since_alloc _ _).trans (since_alloc _ _)))).mono ?_); rintro e w2 ⟨b, G, cs, rfl, m2, k2, hc2⟩; have M2 := Lib.hid m2; have HC2 := Lib.hid (show ∀ u ∈ cs, u.ownBlock ≠ some wr.heap.size from fun u hu e => by have := hc2 u hu _ e; simp at this; omega); have X0 := Lib.hid (((Bx.fresh wr _ _).since (since_alloc _ _)).since k2); have X1 := Lib.hid (Bx.new k2 (n := wr.heap.size + 1) (by simp)); obtain ⟨x00, x01⟩ := And.intro (X0.out.cell 0) (X0.out.cell 1); have x10 := X1.out.cell 0; have y00 := X0.out.no 0; have y01 := X0.out.no 1; have LT2 := Lib.hid (show w.heap.size ≤ wr.heap.size from SZ.out); clear m2 k2 hc2)
          | (go_at_call 26; (with_reducible refine (get_mine (M2.out.poke X0.out HC2.out LT2.out _ _) al8 (n := 1) rfl).mono ?_); rintro e w3 ⟨Ax, cx, rfl, hx, k3, hn3⟩; have M3 := Lib.hid (M2.out.poke X0.out HC2.out LT2.out 1 (.int .i64 9)); obtain ⟨gx, ox, rfl, q0, q1⟩ := nob_r hx; have q2 := (hn3 gx rfl).2 (ox + 1); have GX := Lib.hid (hn3 gx rfl).1; have K3 := Lib.hid k3; clear hx k3 hn3 x00 x01 x10 y00 y01)
          | (go_at_call 22; (with_reducible refine (all_mine (M3.out.since (Since.set (p := ⟨gx, ox + 1, none⟩) K3.out GX.out _)) nob_l).mono ?_); rintro e w4 ⟨Ay, cy, R, rfl, hy, k4⟩; have M4 := Lib.hid (M3.out.since (Since.set (p := ⟨gx, ox + 1, none⟩) K3.out GX.out (.int .i64 8))); obtain ⟨gy, oy, B, dB, rfl, z0, hz, hzn⟩ := nob_d hy; obtain ⟨gz, oz, rfl, z1, z2⟩ := nob_r hz; have z3 := (hzn gz rfl).2 oz; have GZ := Lib.hid (hzn gz rfl).1; have K4 := Lib.hid k4; clear hy k4 hz hzn q0 q1 q2)
          | (go_at_call 12; (with_reducible refine (narrow_mine ((M4.out.since (Since.set (p := ⟨gz, oz, none⟩) K4.out GZ.out _)).since (since_alloc _ _)) (by decide) (sl_one (Bx.new (Since.refl _) (by simp))) EN.out (by decide) al9).mono ?_); rintro e w5 ⟨rfl, cs5, m5, T5, hc5⟩; have M4' := Lib.hid (M4.out.since (Since.set (p := ⟨gz, oz, none⟩) K4.out GZ.out (.int .i64 4))); have M5 := Lib.hid m5; have n0' := nob_n M4'.out T5; have h5 := nob_c M4'.out hc5; have l5 := M4'.out.k.size; rw [show (w4.setCell ⟨gz, oz, none⟩ (.int .i64 4)).heap.size = w4.heap.size by simp] at n0' h5 l5; have N0 := Lib.hid n0'; have HC5 := Lib.hid h5; have LT5 := Lib.hid l5; clear n0' h5 l5; have n00 := N0.out.cell 0; have n01 := N0.out.no 0; clear m5 T5 hc5 z0 z1 z2 z3)
          | (go_at_call 26; (with_reducible refine (get_mine (M5.out.poke N0.out HC5.out LT5.out _ _) al10 (n := 1) rfl).mono ?_); rintro e w6 ⟨Ag, cg, rfl, hg, k6, -⟩; have M6 := Lib.hid (M5.out.poke N0.out HC5.out LT5.out 0 (.int .i64 3)); have HG := Lib.hid hg; have K6 := Lib.hid k6; clear hg k6)
          | (go_at_call 25; (with_reducible refine (ranges_at (HG.out.since stR (since_alloc _ _)) (sl_one (Bx.fresh w6 _ _)) (by decide) (b := true) (by decide)).mono ?_); rintro e w7 ⟨rfl, k7⟩))
        go_ret
        exact ⟨rfl, M6.out.k.trans (K6.out.trans ((since_alloc _ _).trans k7))⟩

set_option maxRecDepth 100000 in
theorem lifted (os : Os) (started : os.Started) (H : Type) (enc : TypeId × Value → H) :
    ReturnsInHanded {} Try.checked os 6 .any (Rows.trailNobodySpec.pre6 enc Try.prog Try.f6 Rows.trailNobodyRow.domain false) (Rows.trailNobodySpec.post enc Try.prog Try.f6 false true false false) := by
  refine returnsInHanded_of_change (C := Try.checked) own started (by kernel_rfl) Try.func6
    (ChangeSpec.witness6 (enc := enc) (C := Try.checked) false ⟨#[], #[.agg #[.int .u8 0, .int .i64 0, .slice none 0 0]], []⟩ 8 (by kernel_rfl) (by kernel_rfl) (by kernel_rfl) (by kernel_rfl)) ?_
  intro W base args ds gs before hval0 hW hcnd _
  have hval : ∀ (j : Nat) t v, Try.f6.params[j]? = some t → args[j]? = some v → Value.okWide Try.prog W .any base t v := hval0
  have hW' := hW
  obtain ⟨p, q, hA0, hV, rfl, hfz, hnd⟩ := hW
  have hA : DataW.TrodAll enc Try.prog W 0 (fun _ => true) true Try.f6.params.toList args.toList ds p := hA0
  rw [Try.params6] at hA hval
  obtain ⟨v0, vs0, d0, ds0, p0, q0, hargs, rfl, rfl, h0, r0⟩ := trodAll_cons hA
  obtain ⟨rfl, rfl, rfl⟩ := trodAll_nil r0
  obtain rfl : args = #[v0] := by cases args; simp_all
  obtain ⟨rfl, rfl⟩ := trodVars_none hV
  obtain ⟨k0k, x0, a0, n0, c0, rfl, z0, w0⟩ := Go.Proofs.Ytnojfeffmbdpmaa.Tr.act_in Try.underlying35 (by kernel_rfl) ⟨rfl, rfl, rfl⟩ ⟨by kernel_rfl, by kernel_rfl, by kernel_rfl⟩ ⟨Try.underlying5, Try.underlying3, Try.underlying33⟩ Try.underlying65 (by kernel_rfl) rfl rfl (by kernel_rfl) (by kernel_rfl) Try.underlying2 Try.underlying2 (hval 0 35 v0 rfl rfl) h0
  have k0 := h0
  have lt0 : ∀ x ∈ p0, x.block < W.heap.size := by obtain ⟨m, hm⟩ := k0; exact DataW.trod_lt m _ _ _ hm
  clear hA0 hval0
  simp only [List.append_nil] at hW'
  refine (walk k0k x0 a0 n0 c0 z0 W w0).mono fun e W' ⟨he, bel⟩ => ?_
  subst he
  exact ⟨_, rfl, _, _, _, [], _, [], hW', (trodAll_cons_mk (shut_bool Try.underlying4 _) trodAll_mk0), (trodAll_cons_mk (Below.trod laidOut (by kernel_rfl) (of_decide_eq_true (by kernel_rfl)) k0 bel lt0) trodAll_mk0), rfl, Below.frame bel _, fun h => by cases h⟩

theorem over : Rows.trailNobodyRow.holds Try.pinned (OpenSpec.ofChange Rows.trailNobodySpec) :=
  OpenClaim.holds_of_wide 6 Try.f6 rfl rfl rfl rfl rfl rfl rfl ⟨rfl, rfl, rfl, rfl, rfl⟩ rfl rfl rfl rfl rfl (by kernel_rfl) Try.func6 (by kernel_rfl)
    (of_decide_eq_true (by kernel_rfl)) (by unfold Func.isWrapper; first | (rw [if_pos (by decide +kernel)]; kernel_rfl) | (rw [if_neg (by decide +kernel)]; exact ⟨rfl, rfl⟩))
    (fun os started H enc _ => lifted os started H enc)

/-- THE STATEMENT -/
theorem proved : Rows.TrailNobodySaid :=
  over
#print axioms proved
end Go.Proofs.Ytnojfeffmbdpmaa.trailNobody
