/-
  For every number a of layer 3 and every text s: the law SignedTexts returns true (Text and Parse answer as the document does, where a has at most 30 digits and s at most 300 bytes) and leaves a as it was. No condition.
-/
import Derived.Test.YtmnankcllblgjaaDoorRows
import Derived.Test.YtmnankcllblgjaaDoorCards
import Derived.Test.YtmnankcllblgjaaDoorTie
import Derived.LaidMore
import Derived.Lay
import Derived.SevenTiedAt
import Derived.WalkKit
import Derived.ProofKit
import Derived.OpenShut
import Derived.ShutString
import Derived.ChangeOld
import Derived.Below
import Derived.Lib.SmallJoins
import Derived.Test.YtmnankcllblgjaaDoorLw
import Derived.Test.YtmnankcllblgjaaDoorWd
import Derived.Test.YtmnankcllblgjaaDoorSt
import Derived.Deep.RegionHeld3
import Derived.Deep.DeepCutAuto
namespace Go.Proofs.YtmnankcllblgjaaDoor.signedTexts
open Go.Joins
open Go.ChangeShapes Go.WideShapes Go.ChangeAt Go.RowKit
open Go.ChangeMaps (open_string shut_string)
open Go.Proofs.YtmnankcllblgjaaDoor.Dig
open Go.Proofs.YtmnankcllblgjaaDoor.Ref03 (sv RetZ textZ parseZ srightB)
set_option linter.unusedVariables false
set_option linter.unusedSimpArgs false

theorem cells24 : Tryd.prog.cellsOf 24 = 2 := by kernel_rfl
theorem own : ownKnob Tryd.prog.godebug = none := by kernel_rfl
theorem laidOut : laidOutB Tryd.prog = true := by kernel_rfl

/-- WHAT THE WALK IS TOLD OF A SLICE OF INTEGERS THAT CAME IN: it is nil; or it leads to a row of 'cap' cells, the numbers 'zs' (the first 'len' are its elements, the rest its spare room), each fitting its kind. -/
def IsRow (k : IntKind) (w : World) (a : Option Addr) (len cap : Nat) (zs : List Int) : Prop :=
  (a = none ∧ len = 0 ∧ cap = 0 ∧ zs = []) ∨
  ∃ x, a = some x ∧ len ≤ cap ∧ cap ≤ maxLen ∧ zs.length = cap ∧ (∀ i, i < zs.length → w.cell? (x.add i) = some (.int k (zs.getD i 0))) ∧ ∀ n ∈ zs, (Lit.int k n).wf = true

theorem text_at (A0 : Option Addr) (c0 : Nat) (na : Bool) (xs : List Nat) (w : World) (hx : Row w (.slice A0 xs.length c0) xs) (lx : xs.length ≤ 1000) {t : List UInt8} {e : Int} {b : ByteArray} (h : textZ na xs = (t, e)) (hb : b = ⟨t.toArray⟩) :
    Calls Tryd.prog 7 #[sv na (.slice A0 xs.length c0)] w fun e' w' => e' = .returned (.tuple #[.string b, .int .i64 e]) ∧ Since w w' := by
  have k := Sg03.text_any A0 c0 na xs w hx lx
  rw [h] at k
  rw [hb]; exact k
theorem rtext_at (A0 : Option Addr) (c0 : Nat) (na : Bool) (xs : List Nat) (w : World) (hx : Row w (.slice A0 xs.length c0) xs) (lx : xs.length ≤ 1000) {t : List UInt8} {e : Int} {b : ByteArray} (h : textZ na xs = (t, e)) (hb : b = ⟨t.toArray⟩) :
    Calls Tryd.prog 9 #[sv na (.slice A0 xs.length c0)] w fun e' w' => e' = .returned (.tuple #[.string b, .int .i64 e]) ∧ Since w w' := by
  have k := Ref03.text_any A0 c0 na xs w hx lx
  rw [h] at k
  rw [hb]; exact k
theorem parseD_len (bs : List UInt8) : (Ref02.parseD bs).1.length ≤ 256 := by
  rcases Ref03.parseD_cases bs with ⟨_, hl⟩ | h0 | h0
  · exact hl
  · rw [h0]; simp
  · rw [h0]; simp
theorem parseZ_len (bs : List UInt8) : (parseZ bs).1.2.length ≤ 256 := by
  have h1 := parseD_len bs
  have h2 := parseD_len (bs.drop 1)
  unfold parseZ
  repeat' split
  all_goals first
    | exact h1
    | exact h2
    | exact Nat.zero_le _

set_option maxRecDepth 100000 in
set_option maxHeartbeats 4000000 in
theorem walk (b0 : Bool) (a0 : Option Addr) (len0 cap0 : Nat) (z0 : List Int) (a1 : ByteArray) (w : World) (w0 : IsRow .u32 w a0 len0 cap0 z0) (w1 : a1.size ≤ maxLen) :
    Calls Tryd.prog 3 #[.agg #[.bool b0, .slice a0 len0 cap0], .string a1] w fun e w' => e = .returned (.bool true) ∧ Since w w' := by
  obtain ⟨d0, hl0, hr0⟩ := row_in w0
  have R0 := Lib.hid hr0
  clear w0 hr0
  subst hl0
  obtain ⟨W0, hW0⟩ : ∃ W0, W0 = w.alloc (.cells #[.bool b0, .slice a0 d0.length cap0] 24) := ⟨_, rfl⟩
  have HW := Lib.hid hW0
  have hS0 : Since w W0 := by rw [hW0]; exact (Since.refl w).alloc _
  have hold : Hid (∀ W : World, Since W0 W → (W.cell? ⟨w.heap.size, 0, none⟩ = some (.bool b0) ∧ W.cell? ⟨w.heap.size, 1, none⟩ = some (.slice a0 d0.length cap0)) ∧ Since w W) := fun W h => ⟨Ref03.hold1 (hW0 ▸ h), hS0.trans h⟩
  clear hW0
  have hK := Since.refl W0
  by_cases g : decide (d0.length ≤ 30) = true
  rotate_left
  · have HF := Lib.hid (show decide (d0.length ≤ 30) = false by simpa using g)
    clear g
    go_enter Tryd.func3, Tryd.ntmps3
    go_wp2_with fail
    rw [← HW.out]
    go_wp2_with (first
      | (go_at_call 5; (with_reducible refine (Alive03.alive _).mono ?_); rintro e v0 ⟨rfl, h⟩; have hK := hK.trans h; obtain ⟨⟨k0, k1⟩, _⟩ := hold.out _ hK)
      | (go_at_call 6; (with_reducible refine (Law03.few_one _ _ ⟨b0, a0, cap0, d0⟩).mono ?_); rw [HF.out]; rintro e vf ⟨rfl, h⟩; have hK := hK.trans h; obtain ⟨⟨k0, k1⟩, _⟩ := hold.out _ hK))
    go_ret
    exact ⟨rfl, hS0.trans hK⟩
  have HF := Lib.hid g
  have L0 : d0.length ≤ 30 := by simp at g; omega
  have M0 := Lib.hid (show d0.length ≤ 1000 by omega)
  clear g L0
  by_cases gs : 300 < a1.size
  · have gd := (show decide (300 < (a1.size : Int)) = true by rw [decide_eq_true_iff]; omega)
    clear gs
    go_enter Tryd.func3, Tryd.ntmps3
    go_wp2_with fail
    rw [← HW.out]
    go_wp2_with (first
      | (go_at_call 5; (with_reducible refine (Alive03.alive _).mono ?_); rintro e v0 ⟨rfl, h⟩; have hK := hK.trans h; obtain ⟨⟨k0, k1⟩, _⟩ := hold.out _ hK)
      | (go_at_call 6; (with_reducible refine (Law03.few_one _ _ ⟨b0, a0, cap0, d0⟩).mono ?_); rw [HF.out]; rintro e vf ⟨rfl, h⟩; have hK := hK.trans h; obtain ⟨⟨k0, k1⟩, _⟩ := hold.out _ hK))
    go_ret
    exact ⟨rfl, hS0.trans hK⟩
  have gd : decide (300 < (a1.size : Int)) = false := by rw [decide_eq_false_iff_not]; omega
  have HA := Lib.hid (show a1.size ≤ 100000 by omega)
  clear gs
  obtain ⟨⟨t0, e0⟩, E0⟩ : ∃ r, textZ b0 d0 = r := ⟨_, rfl⟩
  have E0 := Lib.hid E0
  obtain ⟨⟨⟨n1, s1⟩, e1⟩, E1⟩ : ∃ r, parseZ a1.data.toList = r := ⟨_, rfl⟩
  have LS := Lib.hid (show s1.length ≤ 10000 by have h := parseZ_len a1.data.toList; rw [E1] at h; exact Nat.le_trans h (by omega))
  have E1 := Lib.hid E1
  obtain ⟨tx, htx⟩ : ∃ b : ByteArray, b = ⟨t0.toArray⟩ := ⟨_, rfl⟩
  have HTX := Lib.hid htx
  clear htx
  go_enter Tryd.func3, Tryd.ntmps3
  go_wp2_with fail
  rw [← HW.out]
  go_upto_region 8 with (first
      | (go_at_call 5; (with_reducible refine (Alive03.alive _).mono ?_); rintro e v0 ⟨rfl, h⟩; have hK := hK.trans h; obtain ⟨⟨k0, k1⟩, _⟩ := hold.out _ hK)
      | (go_at_call 6; (with_reducible refine (Law03.few_one _ _ ⟨b0, a0, cap0, d0⟩).mono ?_); rw [HF.out]; rintro e vf ⟨rfl, h⟩; have hK := hK.trans h; obtain ⟨⟨k0, k1⟩, _⟩ := hold.out _ hK)
      | (go_at_call 8; (with_reducible refine (Law03.theirs_any a0 d0.length cap0 b0 _).mono ?_); rintro e v1 ⟨rfl, h⟩; have hK := hK.trans h; obtain ⟨⟨k0, k1⟩, _⟩ := hold.out _ hK)
      | (go_at_call 7; (with_reducible refine (text_at a0 cap0 b0 d0 _ (R0.out.since (hS0.trans hK)) M0.out E0.out HTX.out).mono ?_); rintro e v2 ⟨rfl, h⟩; have hK := hK.trans h; obtain ⟨⟨k0, k1⟩, _⟩ := hold.out _ hK)
      | (go_at_call 9; (with_reducible refine (rtext_at a0 cap0 b0 d0 _ (R0.out.since (hS0.trans hK)) M0.out E0.out HTX.out).mono ?_); rintro e v3 ⟨rfl, h⟩; have hK := hK.trans h; obtain ⟨⟨k0, k1⟩, _⟩ := hold.out _ hK)
      | (go_at_call 10; (with_reducible refine (Sg03.parse_any a1 _ HA.out).mono ?_); rw [E1.out]; rintro e v4 ⟨A1, q1, rfl, r1, h⟩; have hS := hK.trans h))
  have hS := hS0.trans hS
  clear hK
  have hK := Since.refl v4
  obtain ⟨W1, hW1⟩ : ∃ W1, W1 = v4.alloc (.cells #[.bool n1, .slice A1 s1.length q1] 30) := ⟨_, rfl⟩
  rw [← hW1]
  have V0 : Hid (∀ W', Since W1 W' → W'.cell? ⟨v4.heap.size, 0, none⟩ = some (.bool n1) ∧ W'.cell? ⟨v4.heap.size, 1, none⟩ = some (.slice A1 s1.length q1)) := fun W' h => by rw [hW1] at h; exact ⟨(keep2 h).1, (keep2 h).2.1⟩
  have hx : Since v4 W1 := by rw [hW1]; exact since_alloc _ _
  have hg := hK.trans hx
  have r1 := r1.since hx
  have hS := hS.trans hg
  clear hW1 hx hg hK
  generalize v4.heap.size = bk0 at *
  have hK := Since.refl W1
  go_upto_region 9 with (first
      | (go_at_call 11; (with_reducible refine (Ref03.parse_any a1 _ HA.out).mono ?_); rw [E1.out]; rintro e v5 ⟨A2, q2, rfl, r2, h⟩; have hK := hK.trans h))
  obtain ⟨W2, hW2⟩ : ∃ W2, W2 = v5.alloc (.cells #[.bool n1, .slice A2 s1.length q2] 24) := ⟨_, rfl⟩
  rw [← hW2]
  have V1 : Hid (∀ W', Since W2 W' → W'.cell? ⟨v5.heap.size, 0, none⟩ = some (.bool n1) ∧ W'.cell? ⟨v5.heap.size, 1, none⟩ = some (.slice A2 s1.length q2)) := fun W' h => by rw [hW2] at h; exact ⟨(keep2 h).1, (keep2 h).2.1⟩
  have hx : Since v5 W2 := by rw [hW2]; exact since_alloc _ _
  have hg := hK.trans hx
  have r1 := r1.since hg
  have r2 := r2.since hx
  have V0 : Hid (∀ W', Since W2 W' → _) := fun W' h => V0.out W' (hg.trans h)
  have hS := hS.trans hg
  clear hW2 hx hg hK
  generalize v5.heap.size = bk1 at *
  have hK := Since.refl W2
  have hall : Hid (∀ W : World, Since W2 W → ((W.cell? ⟨bk0, 0, none⟩ = some (.bool n1) ∧ W.cell? ⟨bk0, 1, none⟩ = some (.slice A1 s1.length q1)) ∧ (W.cell? ⟨bk1, 0, none⟩ = some (.bool n1) ∧ W.cell? ⟨bk1, 1, none⟩ = some (.slice A2 s1.length q2))) ∧ Since w W) := fun W h => ⟨⟨V0.out _ h, V1.out _ h⟩, hS.trans h⟩
  go_region_held3 (fun W => ((W.cell? ⟨bk0, 0, none⟩ = some (.bool n1) ∧ W.cell? ⟨bk0, 1, none⟩ = some (.slice A1 s1.length q1)) ∧ (W.cell? ⟨bk1, 0, none⟩ = some (.bool n1) ∧ W.cell? ⟨bk1, 1, none⟩ = some (.slice A2 s1.length q2))) ∧ Since w W)
    (first | exact hall.out _ hR | exact hall.out _ (Since.drew hK) | exact hall.out _ hK)
    (first
      | (go_at_call 13; (with_reducible refine (Law03.ours_any A1 s1.length q1 n1 _).mono ?_); rintro e o1 ⟨rfl, h⟩; have hR := (Since.drew (Since.refl W2)).trans h)
      | (go_at_call 12; (with_reducible refine (Law03.same_self A1 A2 q1 q2 n1 s1 _ (r1.since hR) (r2.since hR) LS.out).mono ?_); rintro e o2 ⟨rfl, h⟩; have hR := hR.trans h))
  go_wp2_with fail
  go_ret
  exact ⟨rfl, hS.trans hR⟩

set_option maxRecDepth 100000 in
theorem lifted (os : Os) (started : os.Started) (H : Type) (enc : TypeId × Value → H) :
    ReturnsInHanded {} Tryd.checked os 3 .any (fun w args => (Rows.signedTextsSpec.pre enc Tryd.prog Tryd.f3 Rows.signedTextsRow.domain false w args ∧ laidMetH Tryd.prog Rows.signedTextsRow.laid w) ∧ sizedMet enc Tryd.prog Tryd.f3 (OpenSpec.ofChange Rows.signedTextsSpec) false w args) (Rows.signedTextsSpec.post enc Tryd.prog Tryd.f3 false true false false) := by
  refine returnsInHanded_of_change_and (C := Tryd.checked) (X := fun w _ => laidMetH Tryd.prog Rows.signedTextsRow.laid w) (fun _ _ _ hh h => h.of_heap hh) own started (by kernel_rfl) Tryd.func3
    (ChangeSpec.witness_shaped (enc := enc) (C := Tryd.checked) (os := os) (X := fun w _ => laidMetH Tryd.prog Rows.signedTextsRow.laid w) false (World.laidAll Tryd.prog os Rows.signedTextsRow.laid) #[.agg #[.bool false, .slice none 0 0], .string ByteArray.empty] 8 (World.laidAll_os _ _ _)
      (World.shaped_of_ZipB (by kernel_rfl) (by kernel_rfl)) (by kernel_rfl) (by kernel_rfl) (by kernel_rfl)
      (by rw [MakeChecks.laidMetH_plain _ _ _ (by kernel_rfl)]; exact laidMet_laidAll _ (by kernel_rfl) (by kernel_rfl))) ?_
  intro W base args ds gs before hval0 hW hcnd _ _ _
  have hval : ∀ (j : Nat) t v, Tryd.f3.params[j]? = some t → args[j]? = some v → Value.okWide Tryd.prog W .any base t v := hval0
  have hW' := hW
  obtain ⟨p, q, hA0, hV, rfl, hfz, hnd⟩ := hW
  have hA : DataW.TrodAll enc Tryd.prog W 0 (fun _ => true) true Tryd.f3.params.toList args.toList ds p := hA0
  rw [Tryd.params3] at hA hval
  obtain ⟨v0, vs0, d0, ds0, p0, q0, hargs, rfl, rfl, h0, r0⟩ := trodAll_cons hA
  obtain ⟨v1, vs1, d1, ds1, p1, q1, rfl, rfl, rfl, h1, r1⟩ := trodAll_cons r0
  obtain ⟨rfl, rfl, rfl⟩ := trodAll_nil r1
  obtain rfl : args = #[v0, v1] := by cases args; simp_all
  obtain ⟨rfl, rfl⟩ := trodVars_none hV
  have k0 := h0
  have lt0 : ∀ x ∈ p0, x.block < W.heap.size := by obtain ⟨m, hm⟩ := k0; exact DataW.trod_lt m _ _ _ hm
  obtain ⟨cb0, cm0, yb0, ym0, mm0, rfl, rfl, rfl, hb0, hm0⟩ := open_agg2 Tryd.underlying24 (by kernel_rfl) cells24 (hval 0 24 v0 rfl rfl) h0
  obtain ⟨b0, eb0, xb0⟩ := DataW.trod_bool Tryd.underlying4 hb0
  simp at eb0
  subst eb0
  obtain ⟨a0, len0, cap0, em0⟩ := slice_form Tryd.underlying22 hm0
  simp at em0
  subst em0
  obtain ⟨z0, w0⟩ : ∃ zs, IsRow .u32 W a0 len0 cap0 zs := by
    have hf := hm0
    rcases open_ints Tryd.underlying22 Tryd.underlying51 (by kernel_rfl) hf with ⟨hcs, _⟩ | ⟨x, l, c, zs, hcs, _, hl, hm, hz, _, hcell, hwz⟩
    · simp [Value.cells] at hcs
      obtain ⟨rfl, rfl, rfl⟩ := hcs
      exact ⟨[], .inl ⟨rfl, rfl, rfl, rfl⟩⟩
    · simp [Value.cells] at hcs
      obtain ⟨rfl, rfl, rfl⟩ := hcs
      exact ⟨zs, .inr ⟨_, rfl, hl, hm, by simpa using hz, hcell, hwz⟩⟩
  obtain ⟨a1, rfl, rfl, rfl, w1⟩ := open_string Tryd.underlying9 (hval 1 9 v1 rfl rfl) h1
  clear hA0 hval0
  refine (walk b0 a0 len0 cap0 z0 a1 W w0 w1).mono fun e W' ⟨he, bel⟩ => ?_
  subst he
  exact ⟨_, rfl, _, _, _, [], _, [], hW', trodAll_mk1 (shut_bool Tryd.underlying4 _), (trodAll_cons_mk (Below.trod laidOut (by kernel_rfl) (of_decide_eq_true (by kernel_rfl)) k0 bel lt0) (trodAll_cons_mk (shut_string Tryd.underlying9 w1) trodAll_mk0)), rfl, bel.frame _, fun h => by cases h⟩

theorem over : Rows.signedTextsRow.holds Tryd.pinned (OpenSpec.ofChange Rows.signedTextsSpec) :=
  OpenClaim.holds_of_wide 3 Tryd.f3 rfl rfl rfl rfl rfl rfl rfl ⟨rfl, rfl, rfl, rfl, rfl⟩ rfl rfl rfl rfl rfl (by kernel_rfl) Tryd.func3 (by kernel_rfl)
    (of_decide_eq_true (by kernel_rfl)) (by unfold Func.isWrapper; first | (rw [if_pos (by decide +kernel)]; kernel_rfl) | (rw [if_neg (by decide +kernel)]; exact ⟨rfl, rfl⟩))
    (fun os started H enc _ => lifted os started H enc)

/-- THE STATEMENT: the tied card -/
theorem proved : Rows.SignedTextsCardSaid :=
  Claim7.holds_tied_plain_at .later [] _ _ _ _ over (fun _ h => by cases h) (by kernel_rfl) (fun _ h => by cases h) signedTexts_row_tie rfl ⟨rfl, rfl⟩ (by kernel_rfl) rfl
    (fun f fn hf hfn => by
      obtain rfl : f = 3 := Option.some.inj ((show Tryd.prog.funcNamed "touchstone/touchstonelaw03.SignedTexts" = some 3 by kernel_rfl).symm.trans hf) |>.symm
      obtain rfl : fn = Tryd.f3 := (Option.some.inj (Tryd.func3.symm.trans hfn)).symm
      exact ⟨by kernel_rfl, fun j t ht => by
        rw [Tryd.params3] at ht
        have hm : t ∈ [24, 9] := by simpa using Array.mem_of_getElem? ht
        have hall : ([24, 9].all fun u => !Tryd.prog.wantsStandIn u) = true := by kernel_rfl
        exact (show Tryd.prog.wantsStandIn t = false by simpa using List.all_eq_true.1 hall t hm)⟩)
    (by kernel_rfl)
#print axioms proved
end Go.Proofs.YtmnankcllblgjaaDoor.signedTexts
