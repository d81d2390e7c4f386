/- What the document's own Less gives back. -/
import Derived.Test.YtbkkalmdjcpgoaaDoorRef02a
namespace Go.Proofs.YtbkkalmdjcpgoaaDoor.Ref02
open Go.RowKit
set_option linter.unusedVariables false
open Go.Proofs.YtbkkalmdjcpgoaaDoor.Dig

theorem less_any (va vb : Value) (xs ys : List Nat) (w : World) (hx : Row w va xs) (hy : Row w vb ys) (lx : xs.length ≤ 1000000) (ly : ys.length ≤ 1000000) :
    Calls Tryd.prog 52 #[va, vb] w fun e w' => e = .returned (.bool (lessB xs ys)) ∧ Since w w' := by
  obtain ⟨dx, A, c, rfl, hcx, -⟩ := hx
  obtain ⟨dy, B, c', rfl, hcy, -⟩ := hy
  by_cases hl : xs.length = ys.length
  · have HX := Lib.hid hcx
    have HY := Lib.hid hcy
    have HL := Lib.hid hl
    have HD := Lib.hid (And.intro dx dy)
    clear hcx hcy ly dx dy
    rw [← hl]
    clear hl
    obtain ⟨n, hn⟩ : ∃ n, n = xs.length := ⟨_, rfl⟩
    rw [← hn] at lx ⊢
    have HN := Lib.hid hn
    clear hn
    obtain ⟨R, hR⟩ : ∃ R, R = lessB xs ys := ⟨_, rfl⟩
    rw [← hR]
    have HR := Lib.hid hR
    clear hR
    go_enter Tryd.func52, Tryd.ntmps52
    go_wp2
    go_loopw [5] (fun i wr => ∃ k : Nat, k ≤ n ∧ i = .int .i64 ((k : Int) - 1) ∧ Hid (xs.drop k = ys.drop k) ∧ Since w wr) (fun i _ => (intOf i + 1).toNat)
    case atStart => exact ⟨n, Nat.le_refl _, rfl, (by have h1 := HN.out; have h2 := HL.out; show xs.drop n = ys.drop n; rw [List.drop_of_length_le (by omega), List.drop_of_length_le (by omega)]), Since.refl _⟩
    case round =>
      obtain ⟨k, hk, rfl, heq, hw⟩ := hrel
      rcases k with _ | j
      · go_wp2
        go_ret
        refine ⟨?_, hw⟩
        have : R = false := by
          have h := heq.out
          simp at h
          rw [HR.out, lessB, if_pos HL.out, h]
          simp
        exact ret_bool this.symm
      · have e : ((j + 1 : Nat) : Int) - 1 = (j : Int) := by omega
        rw [e]
        clear e
        have hn := HN.out
        obtain ⟨b, o, rfl, hc1⟩ := HX.out (by omega)
        obtain ⟨b', o', rfl, hc2⟩ := HY.out (by rw [← HL.out]; omega)
        have g1 : wr.cell? ⟨b, o + j, none⟩ = some (.int .u32 ((xs.getD j 0 : Nat) : Int)) := (Below.cell hw (World.block_lt_of_cell? _ _ (hc1 j (by omega)))).trans (hc1 j (by omega))
        have g2 : wr.cell? ⟨b', o' + j, none⟩ = some (.int .u32 ((ys.getD j 0 : Nat) : Int)) := (Below.cell hw (World.block_lt_of_cell? _ _ (hc2 j (by rw [← HL.out]; omega)))).trans (hc2 j (by rw [← HL.out]; omega))
        obtain ⟨x, hx⟩ : ∃ x, x = xs.getD j 0 := ⟨_, rfl⟩
        obtain ⟨y, hy⟩ : ∃ y, y = ys.getD j 0 := ⟨_, rfl⟩
        rw [← hx] at g1
        rw [← hy] at g2
        have HXX := Lib.hid (And.intro hx hy)
        clear hc1 hc2 hx hy hn
        have hj : j < n := by omega
        by_cases hxy : ((x : Int) != (y : Int)) = true
        · by_cases hlt : x < y
          · have this : R = true := by
              rw [HR.out, lessB, if_pos HL.out, decide_eq_true]
              exact less_at HD.out.1 HL.out (j := j) (by have := HN.out; omega) heq.out (by have h1 := HXX.out.1; have h2 := HXX.out.2; omega)
            go_wp2
            go_quiet (fail)
            go_wp2
            go_quiet (fail)
            go_wp2
            go_ret
            exact ⟨ret_bool this.symm, (hw.drewN _).drewN _⟩
          · have this : R = false := by
              rw [HR.out, lessB, if_pos HL.out, decide_eq_false]
              have := less_at HD.out.2 HL.out.symm (j := j) (by have := HN.out; have := HL.out; omega) heq.out.symm (by have h1 := HXX.out.1; have h2 := HXX.out.2; simp at hxy; omega)
              omega
            go_wp2
            go_quiet (fail)
            go_wp2
            go_quiet (fail)
            go_wp2
            go_ret
            exact ⟨ret_bool this.symm, (hw.drewN _).drewN _⟩
        · have hxy' : ((x : Int) != (y : Int)) = false := by simpa using hxy
          clear hxy
          go_wp2
          go_quiet (fail)
          go_wp2
          go_roundw
          case rel =>
            refine ⟨j, by omega, rfl, ?_, hw.drewN _⟩
            have h1 := HXX.out.1
            have h2 := HXX.out.2
            simp at hxy'
            exact drop_more_eq HL.out (by have := HN.out; omega) heq.out (by omega)
          case measure => simp [intOf] <;> omega
  · have hg : ((xs.length : Int) != (ys.length : Int)) = true := by simp; omega
    have HR : lessB xs ys = decide (xs.length < ys.length) := by
      rw [lessB, if_neg hl]
    rw [HR]
    clear hcx hcy HR
    go_enter Tryd.func52, Tryd.ntmps52
    go_wp2
    go_ret
    exact ⟨rfl, Since.refl _⟩
end Go.Proofs.YtbkkalmdjcpgoaaDoor.Ref02
