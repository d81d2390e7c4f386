/- What the document's own Same of layer 6 gives back where the items are the same. -/
import Derived.Test.YtgcfemnigpjadaaDoorR6a
import Derived.Test.YtgcfemnigpjadaaDoorAp6
namespace Go.Proofs.YtgcfemnigpjadaaDoor.Ref06
open Go.RowKit
set_option linter.unusedVariables false
set_option linter.unusedSimpArgs false
open Go.Proofs.YtgcfemnigpjadaaDoor.Dig Go.Proofs.YtgcfemnigpjadaaDoor.Lx Go.Proofs.YtgcfemnigpjadaaDoor.Tk Go.Proofs.YtgcfemnigpjadaaDoor.Ps Go.Proofs.YtgcfemnigpjadaaDoor.Ti

set_option maxRecDepth 100000 in
set_option maxHeartbeats 4000000 in
theorem same_items (va vb : Value) (xs : List It) (w : World) (ha : Items w va xs) (hb : Items w vb xs) (hn : xs.length ≤ 10000) (hm : ∀ x ∈ xs, x.dom.length ≤ 10000 ∧ x.vals.length ≤ 10000 ∧ ∀ y ∈ x.vals, y.l.length ≤ 10000) :
    Calls Tryd.prog 10 #[va, vb] w fun e w' => e = .returned (.bool true) ∧ Since w w' := by
  have HA := Lib.hid ha
  have HB := Lib.hid hb
  obtain ⟨A, c, rfl⟩ := ha.form
  obtain ⟨B, d, rfl⟩ := hb.form
  clear ha hb
  obtain ⟨n, hnn⟩ : ∃ n, n = xs.length := ⟨_, rfl⟩
  rw [← hnn] at HA HB hn ⊢
  have HN := Lib.hid hnn
  have HM := Lib.hid hm
  clear hnn hm
  go_enter Tryd.func10, Tryd.ntmps10
  go_wp2
  go_loopw [5] (fun i wr => ∃ k : Nat, k ≤ n ∧ i = .int .i64 (k : Int) ∧ Since w wr) (fun i _ => n - (intOf i).toNat)
  case atStart => exact ⟨0, Nat.zero_le _, rfl, Since.refl _⟩
  case round =>
    obtain ⟨k, hk, rfl, hw⟩ := hrel
    by_cases hlt : k < n
    · have hkx : k < xs.length := by have := HN.out; omega
      obtain ⟨b, o, A1, c1, A2, c2, rfl, hs, -, hv, h0, h1, h2, h3, h4, h5, h6, h7⟩ := elI2 HA.out hw hkx
      obtain ⟨b', o', B1, d1, B2, d2, rfl, hs', -, hv', g0, g1, g2, g3, g4, g5, g6, g7⟩ := elI2 HB.out hw hkx
      have hml := HM.out xs[k] (List.getElem_mem hkx)
      generalize xs[k] = x at *
      obtain ⟨ki, nm, bo, dm, sz, ou, vs, ak⟩ := x
      simp only at hs hs' hv hv' h0 h1 h2 h3 h4 h5 h6 h7 g0 g1 g2 g3 g4 g5 g6 g7 hml
      obtain ⟨p, hp⟩ : ∃ p, p = dm.length := ⟨_, rfl⟩
      obtain ⟨m, hm⟩ : ∃ m, m = vs.length := ⟨_, rfl⟩
      rw [← hp] at hs hs' h3 g3
      rw [← hm] at hv hv' h6 g6
      have q1 : b < wr.heap.size := World.block_lt_of_cell? _ _ h0
      have q2 : b' < wr.heap.size := World.block_lt_of_cell? _ _ g0
      have q3 : b < wr.heap.size + 1 := by omega
      have q4 : b' < wr.heap.size + 1 := by omega
      have hp1 : p ≤ 10000 := by have := hml.1; omega
      have HS := Lib.hid hs
      have HS' := Lib.hid hs'
      have EX := Lib.hid (fun W (k : Since wr W) => exprs_same (.slice A2 m c2) (.slice B2 m d2) vs W (hv.since (stX _) (hw.trans k)) (hv'.since (stX _) (hw.trans k)) hml.2.1 hml.2.2)
      have HP := Lib.hid hp
      clear hs hs' hv hv' hm hp hkx hml
      obtain ⟨W, hW⟩ : ∃ W, W = wr := ⟨_, rfl⟩
      subst hW
      go_wp2
      go_cut [6, 7] (fun P Q W2 => ∃ x0 y0 : Nat, P = .pointer (some ⟨x0, 0, none⟩) ∧ Q = .pointer (some ⟨y0, 0, none⟩) ∧ Since W W2 ∧ Hid (Box W2 x0 [.int .i64 ki, .string nm, .bool bo, .slice A1 p c1, .int .i64 sz, .bool ou, .slice A2 m c2, .int .i64 ak]) ∧ Hid (Box W2 y0 [.int .i64 ki, .string nm, .bool bo, .slice B1 p d1, .int .i64 sz, .bool ou, .slice B2 m d2, .int .i64 ak]))
      case first =>
        go_region
        all_goals
          go_wp2_with fail
          go_meet
          first
            | exact ⟨_, _, rfl, rfl, (Box.two W _ _ _ _).1, (Box.two W [.int .i64 ki, .string nm, .bool bo, .slice A1 p c1, .int .i64 sz, .bool ou, .slice A2 m c2, .int .i64 ak] [.int .i64 ki, .string nm, .bool bo, .slice B1 p d1, .int .i64 sz, .bool ou, .slice B2 m d2, .int .i64 ak] _ _).2.1, (Box.two W [.int .i64 ki, .string nm, .bool bo, .slice A1 p c1, .int .i64 sz, .bool ou, .slice A2 m c2, .int .i64 ak] [.int .i64 ki, .string nm, .bool bo, .slice B1 p d1, .int .i64 sz, .bool ou, .slice B2 m d2, .int .i64 ak] _ _).2.2⟩
            | exact ⟨_, _, rfl, rfl, (Box.two W _ _ _ _).1, (Box.two W [.int .i64 ki, .string nm, .bool bo, .slice B1 p d1, .int .i64 sz, .bool ou, .slice B2 m d2, .int .i64 ak] [.int .i64 ki, .string nm, .bool bo, .slice A1 p c1, .int .i64 sz, .bool ou, .slice A2 m c2, .int .i64 ak] _ _).2.2, (Box.two W [.int .i64 ki, .string nm, .bool bo, .slice B1 p d1, .int .i64 sz, .bool ou, .slice B2 m d2, .int .i64 ak] [.int .i64 ki, .string nm, .bool bo, .slice A1 p c1, .int .i64 sz, .bool ou, .slice A2 m c2, .int .i64 ak] _ _).2.1⟩
      case rest =>
        clear h0 h1 h2 h3 h4 h5 h6 h7 g0 g1 g2 g3 g4 g5 g6 g7 q1 q2 q3 q4
        obtain ⟨x0, y0, rfl, rfl, hW2, BX, BY⟩ := hcut
        obtain ⟨k0, k1, k2, k3, k4, k5, k6, k7⟩ := BX.out.eight
        obtain ⟨l0, l1, l2, l3, l4, l5, l6, l7⟩ := BY.out.eight
        go_wp2_with (go_at_call 17; (with_reducible refine (EX.out _ hW2).mono ?_); rintro e w4 ⟨rfl, hW3⟩)
        clear k0 k1 k2 k3 k4 k5 k6 k7 l0 l1 l2 l3 l4 l5 l6 l7
        go_loopw [8] (fun j wr => ∃ q : Nat, q ≤ p ∧ j = .int .i64 (q : Int) ∧ Since w4 wr) (fun j _ => p - (intOf j).toNat)
        case atStart => exact ⟨0, Nat.zero_le _, rfl, Since.refl _⟩
        case round =>
          obtain ⟨q, hq, rfl, hw3⟩ := hrel
          obtain ⟨k0, k1, k2, k3, k4, k5, k6, k7⟩ := (BX.out.since (hW3.trans hw3)).eight
          obtain ⟨l0, l1, l2, l3, l4, l5, l6, l7⟩ := (BY.out.since (hW3.trans hw3)).eight
          have hall := ((hw.trans hW2).trans hW3).trans hw3
          by_cases hlt2 : q < p
          · have hqx : q < dm.length := by have := HP.out; omega
            obtain ⟨b2, o2, rfl, e0, e1⟩ := elR (HS.out.since stR hall) hqx
            obtain ⟨b3, o3, rfl, f0, f1⟩ := elR (HS'.out.since stR hall) hqx
            generalize dm[q] = y at *
            obtain ⟨lo, hi⟩ := y
            simp only at e0 e1 f0 f1
            clear hqx
            go_wp2
            go_region
            all_goals
              go_wp2
              go_roundw
              case rel => exact ⟨q + 1, by omega, by go_num, hw3.drew⟩
              case measure => simp [intOf]; omega
          · obtain rfl : q = p := by omega
            go_wp2
            go_roundw
            case rel => exact ⟨k + 1, by omega, by go_num, hall⟩
            case measure => simp [intOf]; omega
    · go_wp2
      go_ret
      exact ⟨rfl, hw⟩
end Go.Proofs.YtgcfemnigpjadaaDoor.Ref06
