/- What the document's own Minus gives back, where the second number is not the greater: the digits of the difference. -/
import Derived.Test.YtbkkalmdjcpgoaaDoorRef02d
namespace Go.Proofs.YtbkkalmdjcpgoaaDoor.Ref02
open Go.RowKit
set_option linter.unusedVariables false
open Go.Proofs.YtbkkalmdjcpgoaaDoor.Dig

set_option maxRecDepth 100000 in
set_option maxHeartbeats 1000000 in
theorem minus_any (va vb : Value) (xs ys : List Nat) (w : World) (hx : Row w va xs) (hy : Row w vb ys) (lx : xs.length ≤ 100000) (ly : ys.length ≤ xs.length) (hle : num ys ≤ num xs) :
    Calls Tryd.prog 53 #[va, vb] w (RetRow (digs (num xs - num ys)) w) := by
  have HX := Lib.hid hx
  have HY := Lib.hid hy
  have LX := Lib.hid (show xs.length ≤ 1000000 by omega)
  have LY := Lib.hid (show ys.length ≤ 1000000 by omega)
  have LE := Lib.hid (And.intro ly hle)
  clear hle
  obtain ⟨i0, hi, hz0, hz1, hz2⟩ := info_parts info_u32
  obtain ⟨dx, A, cA, rfl, _, -⟩ := hx
  obtain ⟨dy, B, cB, rfl, _, -⟩ := hy
  have HD := Lib.hid (And.intro dx dy)
  clear dx dy
  obtain ⟨m, hm⟩ : ∃ n, n = xs.length := ⟨_, rfl⟩
  obtain ⟨n2, hn2⟩ : ∃ n, n = ys.length := ⟨_, rfl⟩
  rw [← hm] at HX lx ly ⊢
  rw [← hn2] at HY ly ⊢
  have HN := Lib.hid (And.intro hm hn2)
  clear hm hn2 ly
  go_enter Tryd.func53, Tryd.ntmps53
  go_wp2
  go_loopw [5, 6, 7] (fun s cv i wr => ∃ (k c : Nat) (acc : List Nat), k ≤ m ∧ i = .int .i64 k ∧ cv = .int .u64 c ∧ c ≤ 1 ∧ Hid (acc.length = k) ∧ Hid (IsDig acc) ∧ wr.ownsRow w.heap.size 81 1 s k (u32s acc) ∧ Hid (num acc + num (ys.take k) = num (xs.take k) + 4294967296 ^ k * c) ∧ Since w wr) (fun _ _ i _ => m - (intOf i).toNat)
  case atStart => exact ⟨0, 0, [], by omega, rfl, rfl, by omega, rfl, isDig_nil, World.ownsRow_nil _ _ _ _, by simp [Hid, num], Since.refl _⟩
  case round =>
    obtain ⟨k, c, acc, hk, rfl, rfl, hc, hl, hd, hown, hv, hw⟩ := hrel
    by_cases hlt : k < m
    · obtain ⟨x, hx⟩ : ∃ x, x = xs.getD k 0 := ⟨_, rfl⟩
      obtain ⟨y, hy⟩ : ∃ y, y = ys.getD k 0 := ⟨_, rfl⟩
      have hxb : x < 4294967296 := by rw [hx]; exact getD_lt HD.out.1 k
      have hyb : y < 4294967296 := by rw [hy]; exact getD_lt HD.out.2 k
      have HK := Lib.hid (And.intro hx hy)
      have hstep := minus_step hl.out (hx ▸ hxb) (hy ▸ hyb) hc hv.out
      rw [← hx, ← hy] at hstep
      have HS := Lib.hid hstep
      clear hstep
      clear hx hy
      go_wp2_with (first
        | (go_at_call 67; (with_reducible refine (digit_any (.slice A m cA) xs k _ (HX.out.since hw) LX.out).mono ?_); rw [← HK.out.1]; rintro e w' ⟨rfl, rfl⟩)
        | (go_at_call 67; (with_reducible refine (digit_any (.slice B n2 cB) ys k _ (HY.out.since hw) LY.out).mono ?_); rw [← HK.out.2]; rintro e w' ⟨rfl, rfl⟩)
        | (at_builtin; refine wpList_append_own _ rfl _ _ 63 rfl w.heap.size 81 i0 (.int .u32 0) 1 4 Tryd.underlying63 hi hz0 hz1 hz2 rfl (by decide) _ _ _ rfl (hown.alloc _) ⟨wr.heap.size, 0, none⟩ 1 1 [.int .u32 ((4294967296 + (x : Int) - (y : Int) - (c : Int)) % 4294967296)] rfl rfl ?c1 ?c2 ?c3 ?c4 ?c5 ?_))
      case c1 =>
        intro j u hj
        match j, hj with
        | 0, hj => simp at hj; subst hj; simp [Addr.add]
      case c2 => intro u hu; simp at hu; subst hu; rfl
      case c3 => unfold maxLen; omega
      case c4 => omega
      case c5 => have := hw.size; simp; omega
      intro v' w1 hown' hgrow _
      have hs1 : Since w w1 := Below.grown (hw.alloc _) hgrow (by have := hw.size; simp; omega) (fun g hg => (hown.lt g hg).1)
      have ho1 : w1.ownsRow w.heap.size 81 1 v' (k + 1) (u32s (acc ++ [(4294967296 + x - y - c) % 4294967296])) := by
        rw [u32s_append, u32s_one, show (((4294967296 + x - y - c) % 4294967296 : Nat) : Int) = (4294967296 + (x : Int) - (y : Int) - (c : Int)) % 4294967296 by omega]
        exact hown'
      clear hown' hgrow hown
      go_wp2
      go_roundw
      case rel => exact ⟨k + 1, 1 - (4294967296 + x - y - c) / 4294967296, acc ++ [(4294967296 + x - y - c) % 4294967296], by omega, by go_num, by go_num, by omega, by show _ = _; rw [List.length_append, hl.out]; rfl, isDig_snoc hd.out (by omega), ho1, HS.out, hs1⟩
      case measure => simp [intOf]; omega
    · obtain rfl : k = m := by omega
      have hn := HN.out.1
      have hfin : num acc = num xs - num ys := minus_end HD.out.1 hd.out (by rw [hl.out, hn]) LE.out.1 LE.out.2 (by rw [← hn]; exact hv.out)
      have HF := Lib.hid hfin
      have hro := Row.own hd.out hown
      have HR := Lib.hid hro
      clear hfin hro hown hn
      go_wp2_with (go_at_call 68; (with_reducible refine (trim_any _ acc _ HR.out (by rw [hl.out]; omega)).mono ?_); rintro e w' ⟨v, rfl, hr, hs⟩)
      go_ret
      exact ⟨_, rfl, by rw [← HF.out]; assumption, hw.trans ‹_›⟩
end Go.Proofs.YtbkkalmdjcpgoaaDoor.Ref02
