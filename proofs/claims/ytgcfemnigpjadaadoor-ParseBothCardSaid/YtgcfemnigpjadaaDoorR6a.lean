/- What the document's own exprs of layer 6 gives back where the expressions are the same. -/
import Derived.Test.YtgcfemnigpjadaaDoorTi
import Derived.RegionTactic
import Derived.ChangeAlike
import Derived.BigRegion
import Derived.Deep.DeepCutAuto
namespace Go.Proofs.YtgcfemnigpjadaaDoor.Ref06
open Go.RowKit
set_option linter.unusedVariables false
set_option linter.unusedSimpArgs false
open Go.Proofs.YtgcfemnigpjadaaDoor.Dig Go.Proofs.YtgcfemnigpjadaaDoor.Lx Go.Proofs.YtgcfemnigpjadaaDoor.Tk Go.Proofs.YtgcfemnigpjadaaDoor.Ps Go.Proofs.YtgcfemnigpjadaaDoor.Ti

set_option maxRecDepth 100000 in
set_option maxHeartbeats 4000000 in
theorem exprs_same (va vb : Value) (xs : List Xp) (w : World) (ha : Exprs w va xs) (hb : Exprs w vb xs) (hn : xs.length ≤ 10000) (hm : ∀ x ∈ xs, x.l.length ≤ 10000) :
    Calls Tryd.prog 17 #[va, vb] w fun e w' => e = .returned (.bool true) ∧ Since w w' := by
  have HA := Lib.hid ha
  have HB := Lib.hid hb
  obtain ⟨A, c, rfl⟩ := ha.form
  obtain ⟨B, d, rfl⟩ := hb.form
  clear ha hb
  obtain ⟨n, hnn⟩ : ∃ n, n = xs.length := ⟨_, rfl⟩
  rw [← hnn] at HA HB hn ⊢
  have HN := Lib.hid hnn
  have HM := Lib.hid hm
  clear hnn hm
  go_enter Tryd.func17, Tryd.ntmps17
  go_wp2
  go_loopw [5] (fun i wr => ∃ k : Nat, k ≤ n ∧ i = .int .i64 (k : Int) ∧ Since w wr) (fun i _ => n - (intOf i).toNat)
  case atStart => exact ⟨0, Nat.zero_le _, rfl, Since.refl _⟩
  case round =>
    obtain ⟨k, hk, rfl, hw⟩ := hrel
    by_cases hlt : k < n
    · have hkx : k < xs.length := by have := HN.out; omega
      obtain ⟨b, o, A1, c1, rfl, hs, h1, h2, h3, h4⟩ := elX (HA.out.since (stX _) hw) hkx
      obtain ⟨b', o', A2, c2, rfl, hs', g1, g2, g3, g4⟩ := elX (HB.out.since (stX _) hw) hkx
      have hml := HM.out xs[k] (List.getElem_mem hkx)
      generalize xs[k] = x at *
      obtain ⟨kx, nx, sx, lx⟩ := x
      simp only at hs hs' h1 h2 h3 h4 g1 g2 g3 g4 hml
      obtain ⟨m, hmm⟩ : ∃ m, m = lx.length := ⟨_, rfl⟩
      rw [← hmm] at hs hs' h4 g4 hml
      have q1 : b < wr.heap.size := World.block_lt_of_cell? _ _ h1
      have q2 : b' < wr.heap.size := World.block_lt_of_cell? _ _ g1
      have q3 : b < wr.heap.size + 1 := by omega
      have q4 : b' < wr.heap.size + 1 := by omega
      have HS := Lib.hid hs
      have HS' := Lib.hid hs'
      have HMM := Lib.hid hmm
      clear hs hs' hmm hkx
      obtain ⟨W, hW⟩ : ∃ W, W = wr := ⟨_, rfl⟩
      subst hW
      go_wp2
      go_cut [6, 7] (fun p q W2 => ∃ x0 y0 : Nat, p = .pointer (some ⟨x0, 0, none⟩) ∧ q = .pointer (some ⟨y0, 0, none⟩) ∧ Since W W2 ∧ Hid (Box W2 x0 [.int .i64 kx, .int .i64 nx, .string sx, .slice A1 m c1]) ∧ Hid (Box W2 y0 [.int .i64 kx, .int .i64 nx, .string sx, .slice A2 m c2]))
      case first =>
        go_region
        all_goals
          go_wp2_with fail
          go_meet
          first
            | exact ⟨_, _, rfl, rfl, (Box.two W _ _ _ _).1, (Box.two W [.int .i64 kx, .int .i64 nx, .string sx, .slice A1 m c1] [.int .i64 kx, .int .i64 nx, .string sx, .slice A2 m c2] _ _).2.1, (Box.two W [.int .i64 kx, .int .i64 nx, .string sx, .slice A1 m c1] [.int .i64 kx, .int .i64 nx, .string sx, .slice A2 m c2] _ _).2.2⟩
            | exact ⟨_, _, rfl, rfl, (Box.two W _ _ _ _).1, (Box.two W [.int .i64 kx, .int .i64 nx, .string sx, .slice A2 m c2] [.int .i64 kx, .int .i64 nx, .string sx, .slice A1 m c1] _ _).2.2, (Box.two W [.int .i64 kx, .int .i64 nx, .string sx, .slice A2 m c2] [.int .i64 kx, .int .i64 nx, .string sx, .slice A1 m c1] _ _).2.1⟩
      case rest =>
        obtain ⟨x0, y0, rfl, rfl, hW2, BX, BY⟩ := hcut
        obtain ⟨k0, k1, k2, k3⟩ := BX.out.four
        obtain ⟨l0, l1, l2, l3⟩ := BY.out.four
        go_wp2
        clear k0 k1 k2 k3 l0 l1 l2 l3
        go_loopw [8] (fun j wr => ∃ q : Nat, q ≤ m ∧ j = .int .i64 (q : Int) ∧ Since wc wr) (fun j _ => m - (intOf j).toNat)
        case atStart => exact ⟨0, Nat.zero_le _, rfl, Since.refl _⟩
        case round =>
          obtain ⟨q, hq, rfl, hw3⟩ := hrel
          obtain ⟨k0, k1, k2, k3⟩ := (BX.out.since hw3).four
          obtain ⟨l0, l1, l2, l3⟩ := (BY.out.since hw3).four
          by_cases hlt2 : q < m
          · have hqx : q < lx.length := by have := HMM.out; omega
            obtain ⟨b2, o2, A3, c3, rfl, e0, e1, e2, e3⟩ := elP (HS.out.since stP (hW2.trans hw3)) hqx
            obtain ⟨b3, o3, A4, c4, rfl, f0, f1, f2, f3⟩ := elP (HS'.out.since stP (hW2.trans hw3)) hqx
            generalize lx[q] = y at *
            obtain ⟨ky, ny, sy⟩ := y
            simp only at e0 e1 e2 f0 f1 f2
            have q1 : b2 < wr.heap.size := World.block_lt_of_cell? _ _ e0
            have q2 : b3 < wr.heap.size := World.block_lt_of_cell? _ _ f0
            have q3 : b2 < wr.heap.size + 1 := by omega
            have q4 : b3 < wr.heap.size + 1 := by omega
            have q5 : x0 < wr.heap.size := World.block_lt_of_cell? _ _ k0
            have q6 : y0 < wr.heap.size := World.block_lt_of_cell? _ _ l0
            have q7 : x0 < wr.heap.size + 1 := by omega
            have q8 : y0 < wr.heap.size + 1 := by omega
            clear hqx
            obtain ⟨W, hW⟩ : ∃ W, W = wr := ⟨_, rfl⟩
            subst hW
            go_wp2
            go_cut [9, 10] (fun p q W2 => ∃ x1 y1 : Nat, p = .pointer (some ⟨x1, 0, none⟩) ∧ q = .pointer (some ⟨y1, 0, none⟩) ∧ Since W W2 ∧ Hid (Box W2 x1 [.int .i64 ky, .int .i64 ny, .string sy, .slice A3 0 c3]) ∧ Hid (Box W2 y1 [.int .i64 ky, .int .i64 ny, .string sy, .slice A4 0 c4]))
            case first =>
              go_region
              all_goals
                go_wp2_with fail
                go_meet
                first
                  | exact ⟨_, _, rfl, rfl, (Box.two W _ _ _ _).1, (Box.two W [.int .i64 ky, .int .i64 ny, .string sy, .slice A3 0 c3] [.int .i64 ky, .int .i64 ny, .string sy, .slice A4 0 c4] _ _).2.1, (Box.two W [.int .i64 ky, .int .i64 ny, .string sy, .slice A3 0 c3] [.int .i64 ky, .int .i64 ny, .string sy, .slice A4 0 c4] _ _).2.2⟩
                  | exact ⟨_, _, rfl, rfl, (Box.two W _ _ _ _).1, (Box.two W [.int .i64 ky, .int .i64 ny, .string sy, .slice A4 0 c4] [.int .i64 ky, .int .i64 ny, .string sy, .slice A3 0 c3] _ _).2.2, (Box.two W [.int .i64 ky, .int .i64 ny, .string sy, .slice A4 0 c4] [.int .i64 ky, .int .i64 ny, .string sy, .slice A3 0 c3] _ _).2.1⟩
            case rest =>
              clear k0 k1 k2 k3 l0 l1 l2 l3 e0 e1 e2 e3 f0 f1 f2 f3 q1 q2 q3 q4 q5 q6 q7 q8
              obtain ⟨x1, y1, rfl, rfl, hW4, DX, DY⟩ := hcut
              obtain ⟨k0, k1, k2, k3⟩ := DX.out.four
              obtain ⟨l0, l1, l2, l3⟩ := DY.out.four
              go_wp2
              go_roundw
              case rel => exact ⟨q + 1, by omega, by go_num, hw3.trans hW4⟩
              case measure => simp [intOf]; omega
          · obtain rfl : q = m := by omega
            go_wp2
            go_roundw
            case rel => exact ⟨k + 1, by omega, by go_num, (hw.trans hW2).trans hw3⟩
            case measure => simp [intOf]; omega
    · go_wp2
      go_ret
      exact ⟨rfl, hw⟩
end Go.Proofs.YtgcfemnigpjadaaDoor.Ref06
