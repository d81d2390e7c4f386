/- What the document's own Plus gives back: the digits of the sum. -/
import Derived.Test.YtbkkalmdjcpgoaaDoorRef02d
namespace Go.Proofs.YtbkkalmdjcpgoaaDoor.Ref02
open Go.RowKit
set_option linter.unusedVariables false
open Go.Proofs.YtbkkalmdjcpgoaaDoor.Dig

set_option maxRecDepth 100000 in
set_option maxHeartbeats 1000000 in
theorem plus_any (va vb : Value) (xs ys : List Nat) (w : World) (hx : Row w va xs) (hy : Row w vb ys) (lx : xs.length ≤ 100000) (ly : ys.length ≤ 100000) :
    Calls Tryd.prog 51 #[va, vb] w (RetRow (digs (num xs + num ys)) w) := by
  have HX := Lib.hid hx
  have HY := Lib.hid hy
  have LX := Lib.hid (show xs.length ≤ 1000000 by omega)
  have LY := Lib.hid (show ys.length ≤ 1000000 by omega)
  obtain ⟨i0, hi, hz0, hz1, hz2⟩ := info_parts info_u32
  obtain ⟨m, hm⟩ : ∃ m, m = max xs.length ys.length := ⟨_, rfl⟩
  have hm1 : xs.length ≤ m := by omega
  have hm2 : ys.length ≤ m := by omega
  have hmx : (if xs.length < ys.length then (ys.length : Int) else (xs.length : Int)) = (m : Int) := by split <;> omega
  have hm3 : m ≤ 100000 := by omega
  obtain ⟨dx, A, cA, rfl, _, -⟩ := hx
  obtain ⟨dy, B, cB, rfl, _, -⟩ := hy
  have HD := Lib.hid (And.intro dx dy)
  clear hm dx dy
  obtain ⟨n1, hn1⟩ : ∃ n, n = xs.length := ⟨_, rfl⟩
  obtain ⟨n2, hn2⟩ : ∃ n, n = ys.length := ⟨_, rfl⟩
  rw [← hn1] at HX hm1 lx hmx ⊢
  rw [← hn2] at HY hm2 ly hmx ⊢
  have HN := Lib.hid (And.intro hn1 hn2)
  clear hn1 hn2
  go_enter Tryd.func51, Tryd.ntmps51
  go_wp2
  go_loopw [5, 6, 7] (fun s cv i wr => ∃ (k c : Nat) (acc : List Nat), k ≤ m + 1 ∧ i = .int .i64 k ∧ cv = .int .u64 c ∧ c ≤ 1 ∧ Hid (acc.length = k) ∧ Hid (IsDig acc) ∧ wr.ownsRow w.heap.size 81 1 s k (u32s acc) ∧ Hid (num acc + 4294967296 ^ k * c = num (xs.take k) + num (ys.take k)) ∧ Since w wr) (fun _ _ i _ => m + 1 - (intOf i).toNat)
  case atStart => exact ⟨0, 0, [], by omega, rfl, rfl, by omega, rfl, isDig_nil, World.ownsRow_nil _ _ _ _, by simp [Hid, num], Since.refl _⟩
  case round =>
    obtain ⟨k, c, acc, hk, rfl, rfl, hc, hl, hd, hown, hv, hw⟩ := hrel
    by_cases hlt : k < m + 1
    · obtain ⟨x, hx⟩ : ∃ x, x = xs.getD k 0 := ⟨_, rfl⟩
      obtain ⟨y, hy⟩ : ∃ y, y = ys.getD k 0 := ⟨_, rfl⟩
      have hxb : x < 4294967296 := by rw [hx]; exact getD_lt HD.out.1 k
      have hyb : y < 4294967296 := by rw [hy]; exact getD_lt HD.out.2 k
      have HK := Lib.hid (And.intro hx hy)
      have hstep := plus_step hl.out hv.out
      rw [← hx, ← hy] at hstep
      have HS := Lib.hid hstep
      clear hstep
      clear hx hy
      go_wp2_with (first
        | (go_at_call 67; (with_reducible refine (digit_any (.slice A n1 cA) xs k _ (HX.out.since hw) LX.out).mono ?_); rw [← HK.out.1]; rintro e w' ⟨rfl, rfl⟩)
        | (go_at_call 67; (with_reducible refine (digit_any (.slice B n2 cB) ys k _ (HY.out.since hw) LY.out).mono ?_); rw [← HK.out.2]; rintro e w' ⟨rfl, rfl⟩)
        | (at_builtin; refine wpList_append_own _ rfl _ _ 63 rfl w.heap.size 81 i0 (.int .u32 0) 1 4 Tryd.underlying63 hi hz0 hz1 hz2 rfl (by decide) _ _ _ rfl (hown.alloc _) ⟨wr.heap.size, 0, none⟩ 1 1 [.int .u32 (((x : Int) + (y : Int) + (c : Int)) % 4294967296)] rfl rfl ?c1 ?c2 ?c3 ?c4 ?c5 ?_))
      case c1 =>
        intro j u hj
        match j, hj with
        | 0, hj => simp at hj; subst hj; simp [Addr.add]
      case c2 => intro u hu; simp at hu; subst hu; rfl
      case c3 => unfold maxLen; omega
      case c4 => omega
      case c5 => have := hw.size; simp; omega
      intro v' w1 hown' hgrow _
      have hs1 : Since w w1 := Below.grown (hw.alloc _) hgrow (by have := hw.size; simp; omega) (fun g hg => (hown.lt g hg).1)
      have ho1 : w1.ownsRow w.heap.size 81 1 v' (k + 1) (u32s (acc ++ [(x + y + c) % 4294967296])) := by
        rw [u32s_append, u32s_one, show (((x + y + c) % 4294967296 : Nat) : Int) = ((x : Int) + (y : Int) + (c : Int)) % 4294967296 by omega]
        exact hown'
      clear hown' hgrow hown
      go_wp2
      go_roundw
      case rel => exact ⟨k + 1, (x + y + c) / 4294967296, acc ++ [(x + y + c) % 4294967296], by omega, by go_num, by go_num, by omega, by show _ = _; rw [List.length_append, hl.out]; rfl, isDig_snoc hd.out (by omega), ho1, HS.out, hs1⟩
      case measure => simp [intOf]; omega
    · obtain rfl : k = m + 1 := by omega
      have hfin := plus_end HD.out.1 HD.out.2 (by have := HN.out.1; omega) (by have := HN.out.2; omega) hv.out
      have HF := Lib.hid hfin
      have hro := Row.own hd.out hown
      have HR := Lib.hid hro
      clear hfin hro hown
      go_wp2_with (go_at_call 68; (with_reducible refine (trim_any _ acc _ HR.out (by rw [hl.out]; omega)).mono ?_); rintro e w' ⟨v, rfl, hr, hs⟩)
      go_ret
      exact ⟨_, rfl, by rw [← HF.out]; assumption, hw.trans ‹_›⟩
end Go.Proofs.YtbkkalmdjcpgoaaDoor.Ref02
