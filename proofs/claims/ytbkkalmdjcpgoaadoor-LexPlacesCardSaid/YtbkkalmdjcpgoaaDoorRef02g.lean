/- What the document's own scaled gives back: the digits of the number times a digit, moved by some places. -/
import Derived.Test.YtbkkalmdjcpgoaaDoorRef02d
namespace Go.Proofs.YtbkkalmdjcpgoaaDoor.Ref02
open Go.RowKit
set_option linter.unusedVariables false
open Go.Proofs.YtbkkalmdjcpgoaaDoor.Dig

set_option maxRecDepth 100000 in
set_option maxHeartbeats 1600000 in
theorem scaled_any (va : Value) (xs : List Nat) (d p : Nat) (w : World) (hx : Row w va xs) (lx : xs.length ≤ 100000) (hd : d < 4294967296) (hp : p ≤ 100000) :
    Calls Tryd.prog 69 #[va, .int .u64 (d : Int), .int .i64 (p : Int)] w (RetRow (digs (4294967296 ^ p * (num xs * d))) w) := by
  have HX := Lib.hid hx
  have LX := Lib.hid (show xs.length ≤ 1000000 by omega)
  obtain ⟨i0, hi, hz0, hz1, hz2⟩ := info_parts info_u32
  obtain ⟨dx, A, cA, rfl, _, -⟩ := hx
  have HD := Lib.hid dx
  clear dx
  obtain ⟨m, hm⟩ : ∃ n, n = xs.length := ⟨_, rfl⟩
  rw [← hm] at HX lx ⊢
  have HN := Lib.hid hm
  clear hm
  go_enter Tryd.func69, Tryd.ntmps69
  go_wp2
  go_loopw [7, 8] (fun s i wr => ∃ k : Nat, k ≤ p ∧ i = .int .i64 k ∧ wr.ownsRow w.heap.size 81 1 s k (u32s (List.replicate k 0)) ∧ Since w wr) (fun _ i _ => p - (intOf i).toNat)
  case atStart => exact ⟨0, by omega, rfl, World.ownsRow_nil _ _ _ _, Since.refl _⟩
  case round =>
    obtain ⟨k, hk, rfl, hown, hw⟩ := hrel
    by_cases hlt : k < p
    · go_wp2_with (first
        | (at_builtin; refine wpList_append_own _ rfl _ _ 63 rfl w.heap.size 81 i0 (.int .u32 0) 1 4 Tryd.underlying63 hi hz0 hz1 hz2 rfl (by decide) _ _ _ rfl (hown.alloc _) ⟨wr.heap.size, 0, none⟩ 1 1 [.int .u32 0] rfl rfl ?c1 ?c2 ?c3 ?c4 ?c5 ?_))
      case c1 =>
        intro j u hj
        match j, hj with
        | 0, hj => simp at hj; subst hj; simp [Addr.add]
      case c2 => intro u hu; simp at hu; subst hu; rfl
      case c3 => unfold maxLen; omega
      case c4 => omega
      case c5 => have := hw.size; simp; omega
      intro v' w1 hown' hgrow _
      have hs1 : Since w w1 := Below.grown (hw.alloc _) hgrow (by have := hw.size; simp; omega) (fun g hg => (hown.lt g hg).1)
      have ho1 : w1.ownsRow w.heap.size 81 1 v' (k + 1) (u32s (List.replicate (k + 1) 0)) := by
        rw [List.replicate_succ', u32s_append]; exact hown'
      clear hown' hgrow hown
      go_wp2
      go_roundw
      case rel => exact ⟨k + 1, by omega, by go_num, ho1, hs1⟩
      case measure => simp [intOf]; omega
    · obtain rfl : k = p := by omega
      have HO := Lib.hid hown
      have HW := Lib.hid hw
      clear hown hw
      go_wp2
      go_loopw [7, 9, 10] (fun s cv i wr => ∃ (j c : Nat) (acc : List Nat), j ≤ m + 1 ∧ i = .int .i64 j ∧ cv = .int .u64 c ∧ c < 4294967296 ∧ Hid (acc.length = k + j) ∧ Hid (IsDig acc) ∧ wr.ownsRow w.heap.size 81 1 s (k + j) (u32s acc) ∧ Hid (num acc + 4294967296 ^ (k + j) * c = 4294967296 ^ k * (num (xs.take j) * d)) ∧ Since w wr) (fun _ _ i _ => m + 1 - (intOf i).toNat)
      case atStart => exact ⟨0, 0, List.replicate k 0, by omega, rfl, rfl, by omega, by simp [Hid], isDig_noughts k, HO.out, by show _ = _; rw [num_noughts, List.take_zero, num, Nat.mul_zero, Nat.zero_mul, Nat.mul_zero], HW.out⟩
      case round =>
        obtain ⟨j, c, acc, hj, rfl, rfl, hc, hl, hda, hown, hv, hw⟩ := hrel
        clear HO HW
        by_cases hlt2 : j < m + 1
        · obtain ⟨x, hx⟩ : ∃ x, x = xs.getD j 0 := ⟨_, rfl⟩
          have hxb : x < 4294967296 := by rw [hx]; exact getD_lt HD.out j
          have HK := Lib.hid hx
          have hstep := scaled_step (d := d) hl.out hv.out
          rw [← hx] at hstep
          have HS := Lib.hid hstep
          clear hstep hx
          obtain ⟨q, hq⟩ : ∃ q : Nat, q = x * d := ⟨_, rfl⟩
          have hfit := scaled_fits hxb hd hc
          rw [← hq] at hfit HS
          have hq2 : (x : Int) * (d : Int) = (q : Int) := by rw [hq]; simp
          have HQ := Lib.hid hq
          clear hq
          obtain ⟨hf1, hf2⟩ := hfit
          go_wp2_with (first
            | (go_at_call 67; (with_reducible refine (digit_any (.slice A m cA) xs j _ (HX.out.since hw) LX.out).mono ?_); rw [← HK.out]; rintro e w' ⟨rfl, rfl⟩)
            | (at_builtin; refine wpList_append_own _ rfl _ _ 63 rfl w.heap.size 81 i0 (.int .u32 0) 1 4 Tryd.underlying63 hi hz0 hz1 hz2 rfl (by decide) _ _ _ rfl (hown.alloc _) ⟨wr.heap.size, 0, none⟩ 1 1 [.int .u32 (((q : Int) + (c : Int)) % 4294967296)] rfl rfl ?c1b ?c2b ?c3b ?c4b ?c5b ?_))
          case c1b =>
            intro j u hj
            match j, hj with
            | 0, hj => simp at hj; subst hj; simp [Addr.add]
          case c2b => intro u hu; simp at hu; subst hu; rfl
          case c3b => unfold maxLen; omega
          case c4b => omega
          case c5b => have := hw.size; simp; omega
          intro v' w1 hown' hgrow _
          have hs1 : Since w w1 := Below.grown (hw.alloc _) hgrow (by have := hw.size; simp; omega) (fun g hg => (hown.lt g hg).1)
          have ho1 : w1.ownsRow w.heap.size 81 1 v' (k + j + 1) (u32s (acc ++ [(q + c) % 4294967296])) := by
            rw [u32s_append, u32s_one, show (((q + c) % 4294967296 : Nat) : Int) = ((q : Int) + (c : Int)) % 4294967296 by omega]
            exact hown'
          clear hown' hgrow hown
          go_wp2
          go_roundw
          case rel => exact ⟨j + 1, (q + c) / 4294967296, acc ++ [(q + c) % 4294967296], by omega, by go_num, by go_num, by omega, by show _ = _; rw [List.length_append, hl.out]; rfl, isDig_snoc hda.out (by omega), ho1, HS.out, hs1⟩
          case measure => simp [intOf]; omega
        · obtain rfl : j = m + 1 := by omega
          have hn := HN.out
          have hfin : num acc = 4294967296 ^ k * (num xs * d) := scaled_end (c := c) HD.out hd (by rw [← hn]; exact hv.out)
          have HF := Lib.hid hfin
          have hro := Row.own hda.out hown
          have HR := Lib.hid hro
          clear hfin hro hown hn
          go_wp2_with (go_at_call 68; (with_reducible refine (trim_any _ acc _ HR.out (by rw [hl.out]; omega)).mono ?_); rintro e w' ⟨v, rfl, hr, hs⟩)
          go_ret
          exact ⟨_, rfl, by rw [← HF.out]; assumption, hw.trans ‹_›⟩
end Go.Proofs.YtbkkalmdjcpgoaaDoor.Ref02
