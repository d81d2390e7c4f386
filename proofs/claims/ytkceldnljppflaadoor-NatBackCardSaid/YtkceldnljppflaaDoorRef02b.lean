/- What the document's own Same and Less give back. -/
import Derived.Test.YtkceldnljppflaaDoorRef02a
namespace Go.Proofs.YtkceldnljppflaaDoor.Ref02
open Go.RowKit
set_option linter.unusedVariables false
open Go.Proofs.YtkceldnljppflaaDoor.Dig

theorem same_any (va vb : Value) (xs ys : List Nat) (w : World) (hx : Row w va xs) (hy : Row w vb ys) (lx : xs.length ≤ 1000000) (ly : ys.length ≤ 1000000) :
    Calls Tryd.prog 19 #[va, vb] w fun e w' => e = .returned (.bool (sameB xs ys)) ∧ Since w w' := by
  obtain ⟨dx, A, c, rfl, hcx, -⟩ := hx
  obtain ⟨dy, B, c', rfl, hcy, -⟩ := hy
  by_cases hl : xs.length = ys.length
  · have HX := Lib.hid hcx
    have HY := Lib.hid hcy
    have HL := Lib.hid hl
    clear hcx hcy ly dx dy
    rw [← hl]
    clear hl
    obtain ⟨n, hn⟩ : ∃ n, n = xs.length := ⟨_, rfl⟩
    rw [← hn] at lx ⊢
    have HN := Lib.hid hn
    clear hn
    obtain ⟨R, hR⟩ : ∃ R, R = sameB xs ys := ⟨_, rfl⟩
    rw [← hR]
    have HR := Lib.hid hR
    clear hR
    go_enter Tryd.func19, Tryd.ntmps19
    go_wp2
    go_loopw [5] (fun i wr => ∃ k : Nat, k ≤ n ∧ i = .int .i64 k ∧ Hid (xs.take k = ys.take k) ∧ Since w wr) (fun i _ => n - (intOf i).toNat)
    case atStart => exact ⟨0, Nat.zero_le _, rfl, by simp [Hid], Since.refl _⟩
    case round =>
      obtain ⟨k, hk, rfl, heq, hw⟩ := hrel
      by_cases hlt : k < n
      · have hn := HN.out
        obtain ⟨b, o, rfl, hc1⟩ := HX.out (by omega)
        obtain ⟨b', o', rfl, hc2⟩ := HY.out (by rw [← HL.out]; omega)
        have g1 : wr.cell? ⟨b, o + k, none⟩ = some (.int .u32 ((xs.getD k 0 : Nat) : Int)) := (Below.cell hw (World.block_lt_of_cell? _ _ (hc1 k (by omega)))).trans (hc1 k (by omega))
        have g2 : wr.cell? ⟨b', o' + k, none⟩ = some (.int .u32 ((ys.getD k 0 : Nat) : Int)) := (Below.cell hw (World.block_lt_of_cell? _ _ (hc2 k (by rw [← HL.out]; omega)))).trans (hc2 k (by rw [← HL.out]; omega))
        obtain ⟨x, hx⟩ : ∃ x, x = xs.getD k 0 := ⟨_, rfl⟩
        obtain ⟨y, hy⟩ : ∃ y, y = ys.getD k 0 := ⟨_, rfl⟩
        rw [← hx] at g1
        rw [← hy] at g2
        have HXX := Lib.hid (And.intro hx hy)
        clear hc1 hc2 hx hy hn
        by_cases hxy : ((x : Int) != (y : Int)) = true
        · go_wp2
          go_quiet (fail)
          go_wp2
          go_ret
          refine ⟨?_, hw.drewN _⟩
          have : R = false := by
            rw [HR.out, sameB, decide_eq_false]
            rintro rfl
            have h1 := HXX.out.1
            have h2 := HXX.out.2
            simp at hxy
            omega
          exact ret_bool this.symm
        · have hxy' : ((x : Int) != (y : Int)) = false := by simpa using hxy
          clear hxy
          go_wp2
          go_quiet (fail)
          go_wp2
          go_roundw
          case rel =>
            refine ⟨k + 1, by omega, by go_num, ?_, hw.drewN _⟩
            have h1 := HXX.out.1
            have h2 := HXX.out.2
            simp at hxy'
            exact take_more_eq HL.out (by have := HN.out; omega) heq.out (by omega)
          case measure => simp [intOf]; omega
      · go_wp2
        go_ret
        refine ⟨?_, hw⟩
        obtain rfl : k = n := by omega
        have hn := HN.out
        have : R = true := by
          rw [HR.out, sameB, decide_eq_true]
          have h := heq.out
          rw [hn] at h
          exact take_all_eq HL.out h
        exact ret_bool this.symm
  · have hg : ((xs.length : Int) != (ys.length : Int)) = true := by simp; omega
    have HR : sameB xs ys = false := by
      rw [sameB, decide_eq_false]
      rintro rfl
      exact hl rfl
    rw [HR]
    clear hcx hcy HR
    go_enter Tryd.func19, Tryd.ntmps19
    go_wp2
    go_ret
    exact ⟨rfl, Since.refl _⟩

end Go.Proofs.YtkceldnljppflaaDoor.Ref02
