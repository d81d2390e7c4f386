/- What the document's own scaled gives back: the digits of the number times a digit, moved by some places. What the document's own Product gives back: the digits of the product. What the document's own Times gives back. What the document's own Sum gives back. What the document's own fit, Add, Mul of layer 3 give back. What the document's own less and Cmp of layer 3 give back. -/
import Derived.Test.YtbbemgeinlehmaaGreatDoorNb
import Derived.Test.YtbbemgeinlehmaaGreatDoorRb
import Derived.Deep.RegionHeld3
import Derived.Test.YtbbemgeinlehmaaGreatDoorRa
namespace Go.Proofs.YtbbemgeinlehmaaGreatDoor.Ref02
open Go.RowKit
set_option linter.unusedVariables false
open Go.Proofs.YtbbemgeinlehmaaGreatDoor.Dig

set_option maxRecDepth 100000 in
set_option maxHeartbeats 1600000 in
theorem scaled_any (va : Value) (xs : List Nat) (d p : Nat) (w : World) (hx : Row w va xs) (lx : xs.length ≤ 100000) (hd : d < 4294967296) (hp : p ≤ 100000) :
    Calls Tryz.prog 99 #[va, .int .u64 (d : Int), .int .i64 (p : Int)] w (RetRow (digs (4294967296 ^ p * (num xs * d))) w) := by
  have HX := Lib.hid hx
  have LX := Lib.hid (show xs.length ≤ 1000000 by omega)
  obtain ⟨i0, hi, hz0, hz1, hz2⟩ := info_parts info_u32
  obtain ⟨dx, A, cA, rfl, _, -⟩ := hx
  have HD := Lib.hid dx
  clear dx
  obtain ⟨m, hm⟩ : ∃ n, n = xs.length := ⟨_, rfl⟩
  rw [← hm] at HX lx ⊢
  have HN := Lib.hid hm
  clear hm
  go_enter Tryz.func99, Tryz.ntmps99
  go_wp2
  go_loopw [7, 8] (fun s i wr => ∃ k : Nat, k ≤ p ∧ i = .int .i64 k ∧ wr.ownsRow w.heap.size 88 1 s k (u32s (List.replicate k 0)) ∧ Since w wr) (fun _ i _ => p - (intOf i).toNat)
  case atStart => exact ⟨0, by omega, rfl, World.ownsRow_nil _ _ _ _, Since.refl _⟩
  case round =>
    obtain ⟨k, hk, rfl, hown, hw⟩ := hrel
    by_cases hlt : k < p
    · go_wp2_with (first
        | (at_builtin; refine wpList_append_own _ rfl _ _ 22 rfl w.heap.size 88 i0 (.int .u32 0) 1 4 Tryz.underlying22 hi hz0 hz1 hz2 rfl (by decide) _ _ _ rfl (hown.alloc _) ⟨wr.heap.size, 0, none⟩ 1 1 [.int .u32 0] rfl rfl ?c1 ?c2 ?c3 ?c4 ?c5 ?_))
      case c1 =>
        intro j u hj
        match j, hj with
        | 0, hj => simp at hj; subst hj; simp [Addr.add]
      case c2 => intro u hu; simp at hu; subst hu; rfl
      case c3 => unfold maxLen; omega
      case c4 => omega
      case c5 => have := hw.size; simp; omega
      intro v' w1 hown' hgrow _
      have hs1 : Since w w1 := Below.grown (hw.alloc _) hgrow (by have := hw.size; simp; omega) (fun g hg => (hown.lt g hg).1)
      have ho1 : w1.ownsRow w.heap.size 88 1 v' (k + 1) (u32s (List.replicate (k + 1) 0)) := by
        rw [List.replicate_succ', u32s_append]; exact hown'
      clear hown' hgrow hown
      go_wp2
      go_roundw
      case rel => exact ⟨k + 1, by omega, by go_num, ho1, hs1⟩
      case measure => simp [intOf]; omega
    · obtain rfl : k = p := by omega
      have HO := Lib.hid hown
      have HW := Lib.hid hw
      clear hown hw
      go_wp2
      go_loopw [7, 9, 10] (fun s cv i wr => ∃ (j c : Nat) (acc : List Nat), j ≤ m + 1 ∧ i = .int .i64 j ∧ cv = .int .u64 c ∧ c < 4294967296 ∧ Hid (acc.length = k + j) ∧ Hid (IsDig acc) ∧ wr.ownsRow w.heap.size 88 1 s (k + j) (u32s acc) ∧ Hid (num acc + 4294967296 ^ (k + j) * c = 4294967296 ^ k * (num (xs.take j) * d)) ∧ Since w wr) (fun _ _ i _ => m + 1 - (intOf i).toNat)
      case atStart => exact ⟨0, 0, List.replicate k 0, by omega, rfl, rfl, by omega, by simp [Hid], isDig_noughts k, HO.out, by show _ = _; rw [num_noughts, List.take_zero, num, Nat.mul_zero, Nat.zero_mul, Nat.mul_zero], HW.out⟩
      case round =>
        obtain ⟨j, c, acc, hj, rfl, rfl, hc, hl, hda, hown, hv, hw⟩ := hrel
        clear HO HW
        by_cases hlt2 : j < m + 1
        · obtain ⟨x, hx⟩ : ∃ x, x = xs.getD j 0 := ⟨_, rfl⟩
          have hxb : x < 4294967296 := by rw [hx]; exact getD_lt HD.out j
          have HK := Lib.hid hx
          have hstep := scaled_step (d := d) hl.out hv.out
          rw [← hx] at hstep
          have HS := Lib.hid hstep
          clear hstep hx
          obtain ⟨q, hq⟩ : ∃ q : Nat, q = x * d := ⟨_, rfl⟩
          have hfit := scaled_fits hxb hd hc
          rw [← hq] at hfit HS
          have hq2 : (x : Int) * (d : Int) = (q : Int) := by rw [hq]; simp
          have HQ := Lib.hid hq
          clear hq
          obtain ⟨hf1, hf2⟩ := hfit
          go_wp2_with (first
            | (go_at_call 97; (with_reducible refine (digit_any (.slice A m cA) xs j _ (HX.out.since hw) LX.out).mono ?_); rw [← HK.out]; rintro e w' ⟨rfl, rfl⟩)
            | (at_builtin; refine wpList_append_own _ rfl _ _ 22 rfl w.heap.size 88 i0 (.int .u32 0) 1 4 Tryz.underlying22 hi hz0 hz1 hz2 rfl (by decide) _ _ _ rfl (hown.alloc _) ⟨wr.heap.size, 0, none⟩ 1 1 [.int .u32 (((q : Int) + (c : Int)) % 4294967296)] rfl rfl ?c1b ?c2b ?c3b ?c4b ?c5b ?_))
          case c1b =>
            intro j u hj
            match j, hj with
            | 0, hj => simp at hj; subst hj; simp [Addr.add]
          case c2b => intro u hu; simp at hu; subst hu; rfl
          case c3b => unfold maxLen; omega
          case c4b => omega
          case c5b => have := hw.size; simp; omega
          intro v' w1 hown' hgrow _
          have hs1 : Since w w1 := Below.grown (hw.alloc _) hgrow (by have := hw.size; simp; omega) (fun g hg => (hown.lt g hg).1)
          have ho1 : w1.ownsRow w.heap.size 88 1 v' (k + j + 1) (u32s (acc ++ [(q + c) % 4294967296])) := by
            rw [u32s_append, u32s_one, show (((q + c) % 4294967296 : Nat) : Int) = ((q : Int) + (c : Int)) % 4294967296 by omega]
            exact hown'
          clear hown' hgrow hown
          go_wp2
          go_roundw
          case rel => exact ⟨j + 1, (q + c) / 4294967296, acc ++ [(q + c) % 4294967296], by omega, by go_num, by go_num, by omega, by show _ = _; rw [List.length_append, hl.out]; rfl, isDig_snoc hda.out (by omega), ho1, HS.out, hs1⟩
          case measure => simp [intOf]; omega
        · obtain rfl : j = m + 1 := by omega
          have hn := HN.out
          have hfin : num acc = 4294967296 ^ k * (num xs * d) := scaled_end (c := c) HD.out hd (by rw [← hn]; exact hv.out)
          have HF := Lib.hid hfin
          have hro := Row.own hda.out hown
          have HR := Lib.hid hro
          clear hfin hro hown hn
          go_wp2_with (go_at_call 98; (with_reducible refine (trim_any _ acc _ HR.out (by rw [hl.out]; omega)).mono ?_); rintro e w' ⟨v, rfl, hr, hs⟩)
          go_ret
          exact ⟨_, rfl, by rw [← HF.out]; assumption, hw.trans ‹_›⟩
end Go.Proofs.YtbbemgeinlehmaaGreatDoor.Ref02

namespace Go.Proofs.YtbbemgeinlehmaaGreatDoor.Ref02
open Go.RowKit
set_option linter.unusedVariables false
open Go.Proofs.YtbbemgeinlehmaaGreatDoor.Dig


theorem num_take_len {ys : List Nat} (hy : IsDig ys) (k : Nat) : num (ys.take k) < 4294967296 ^ k := by
  have h := num_lt (isDig_take hy k)
  exact Nat.lt_of_lt_of_le h (Nat.pow_le_pow_right (by omega) (List.length_take_le _ _))
theorem part_len {xs ys : List Nat} (hx : IsDig xs) (hy : IsDig ys) (k : Nat) : (digs (num xs * num (ys.take k))).length ≤ xs.length + k := by
  apply digs_len_le
  rw [Nat.pow_add]
  have h1 := num_lt hx
  have h2 := num_take_len hy k
  rcases Nat.eq_zero_or_pos (num (ys.take k)) with h | h
  · rw [h, Nat.mul_zero]; exact Nat.mul_pos (Nat.pow_pos (by omega)) (Nat.pow_pos (by omega))
  · exact Nat.lt_of_lt_of_le (Nat.mul_lt_mul_of_pos_right h1 h) (Nat.mul_le_mul_left _ (Nat.le_of_lt h2))
theorem scal_len {xs : List Nat} (hx : IsDig xs) {d : Nat} (hd : d < 4294967296) (k : Nat) : (digs (4294967296 ^ k * (num xs * d))).length ≤ k + (xs.length + 1) := by
  apply digs_len_le
  rw [Nat.pow_add, Nat.pow_succ]
  have h1 := num_lt hx
  refine Nat.mul_lt_mul_of_pos_left ?_ (Nat.pow_pos (by omega))
  rcases Nat.eq_zero_or_pos d with h | h
  · rw [h, Nat.mul_zero]; exact Nat.mul_pos (Nat.pow_pos (by omega)) (by omega)
  · exact Nat.lt_of_lt_of_le (Nat.mul_lt_mul_of_pos_right h1 h) (Nat.mul_le_mul_left _ (Nat.le_of_lt hd))

set_option maxRecDepth 100000 in
set_option maxHeartbeats 1000000 in
theorem product_any (va vb : Value) (xs ys : List Nat) (w : World) (hx : Row w va xs) (hy : Row w vb ys) (lx : xs.length ≤ 10000) (ly : ys.length ≤ 10000) :
    Calls Tryz.prog 78 #[va, vb] w (RetRow (digs (num xs * num ys)) w) := by
  have HX := Lib.hid hx
  have LX := Lib.hid (show xs.length ≤ 10000 by omega)
  obtain ⟨dx, A, cA, rfl, _, -⟩ := hx
  obtain ⟨dy, B, cB, rfl, hcy, -⟩ := hy
  have HD := Lib.hid (And.intro dx dy)
  have HC := Lib.hid hcy
  clear dx dy hcy lx
  obtain ⟨n1, hn1⟩ : ∃ n, n = xs.length := ⟨_, rfl⟩
  obtain ⟨m, hm⟩ : ∃ n, n = ys.length := ⟨_, rfl⟩
  rw [← hm] at ly ⊢
  rw [← hn1] at HX ⊢
  have HN := Lib.hid (And.intro hn1 hm)
  clear hn1 hm
  go_enter Tryz.func78, Tryz.ntmps78
  go_wp2
  go_loopw [5, 6] (fun s i wr => ∃ k : Nat, k ≤ m ∧ i = .int .i64 k ∧ Row wr s (digs (num xs * num (ys.take k))) ∧ Since w wr) (fun _ i _ => m - (intOf i).toNat)
  case atStart => exact ⟨0, by omega, rfl, by rw [List.take_zero, num, Nat.mul_zero]; exact Row.nil _, Since.refl _⟩
  case round =>
    obtain ⟨k, hk, rfl, hrow, hw⟩ := hrel
    by_cases hlt : k < m
    · have hkl : k < ys.length := by have := HN.out.2; omega
      obtain ⟨b, o, rfl, hcc⟩ := HC.out (by omega)
      have hcell := (Below.cell hw (World.block_lt_of_cell? _ _ (hcc k hkl))).trans (hcc k hkl)
      have e := num_take_succ ys k
      obtain ⟨y, hy⟩ : ∃ y, y = ys.getD k 0 := ⟨_, rfl⟩
      have hyb : y < 4294967296 := by rw [hy]; exact getD_lt HD.out.2 k
      rw [← hy] at hcell e
      have l1 := Lib.hid (part_len HD.out.1 HD.out.2 k)
      have l2 := Lib.hid (scal_len HD.out.1 hyb k)
      have E := Lib.hid e
      have HR := Lib.hid hrow
      clear hcc hy e hrow hkl
      go_wp2_with (first
        | (go_at_call 99; (with_reducible refine (scaled_any (.slice A n1 cA) xs y k _ (HX.out.since hw) (by have := LX.out; omega) hyb (by omega)).mono ?_); rintro e w1 ⟨v1, rfl, hr1, hs1⟩)
        | (go_at_call 75; (with_reducible refine (plus_any _ v1 (digs (num xs * num (ys.take k))) (digs (4294967296 ^ k * (num xs * y))) w1 (HR.out.since hs1) hr1 (by have := l1.out; have := LX.out; omega) (by have := l2.out; have := LX.out; omega)).mono ?_); rintro e w2 ⟨v2, rfl, hr2, hs2⟩; clear hr1))
      go_roundw
      case rel =>
        refine ⟨k + 1, by omega, by go_num, ?_, (hw.trans ‹Since wr _›).trans ‹_›⟩
        rw [E.out, Nat.mul_add, show num xs * (4294967296 ^ k * y) = 4294967296 ^ k * (num xs * y) from Nat.mul_left_comm _ _ _]
        simpa only [num_digs] using ‹Row _ _ (digs (num (digs _) + num (digs _)))›
      case measure => simp [intOf]; omega
    · obtain rfl : k = m := by omega
      go_wp2
      go_ret
      refine ⟨_, rfl, ?_, hw⟩
      have := HN.out.2
      rw [List.take_of_length_le (by omega)] at hrow
      exact hrow
end Go.Proofs.YtbbemgeinlehmaaGreatDoor.Ref02

namespace Go.Proofs.YtbbemgeinlehmaaGreatDoor.Ref03
open Go.RowKit
set_option linter.unusedVariables false
open Go.Proofs.YtbbemgeinlehmaaGreatDoor.Dig

set_option maxRecDepth 100000 in
set_option maxHeartbeats 1000000 in
theorem times_any (A0 A1 : Option Addr) (c0 c1 : Nat) (na nb : Bool) (xs ys : List Nat) (w : World) (hx : Row w (.slice A0 xs.length c0) xs) (hy : Row w (.slice A1 ys.length c1) ys) (lx : xs.length ≤ 1000) (ly : ys.length ≤ 1000) :
    Calls Tryz.prog 47 #[sv na (.slice A0 xs.length c0), sv nb (.slice A1 ys.length c1)] w (RetS (signB (na != nb) (digs (num xs * num ys))) (digs (num xs * num ys)) w) := by
  have H := Lib.hid (And.intro hx hy)
  have HL := Lib.hid (show (digs (num xs * num ys)).length ≤ 1000000 by have := Ref02.prod_len hx.dig hy.dig; omega)
  have LL := Lib.hid (And.intro lx ly)
  clear hx hy lx ly
  obtain ⟨n0, hn0⟩ : ∃ n, n = xs.length := ⟨_, rfl⟩
  obtain ⟨n1, hn1⟩ : ∃ n, n = ys.length := ⟨_, rfl⟩
  rw [← hn0] at H ⊢
  rw [← hn1] at H ⊢
  clear hn0 hn1
  obtain ⟨W0, hW0⟩ : ∃ W0, W0 = ((w.alloc (.cells #[.bool na, .slice A0 n0 c0] 24)).alloc (.cells #[.bool nb, .slice A1 n1 c1] 24)).alloc (.cells #[.bool false, .slice none 0 0] 24) := ⟨_, rfl⟩
  have HW := Lib.hid hW0
  have hold : Hid (∀ W : World, Since W0 W → (W.cell? ⟨w.heap.size, 0, none⟩ = some (.bool na) ∧ W.cell? ⟨w.heap.size, 1, none⟩ = some (.slice A0 n0 c0) ∧ W.cell? ⟨w.heap.size + 1, 0, none⟩ = some (.bool nb) ∧ W.cell? ⟨w.heap.size + 1, 1, none⟩ = some (.slice A1 n1 c1)) ∧ Since w W) := fun W h => ⟨hold2 (hW0 ▸ h), by rw [hW0] at h; exact ((((Since.refl w).alloc _).alloc _).alloc _).trans h⟩
  have hk3 : Hid (∀ W : World, Since W0 W → W.cell? ⟨w.heap.size + 1 + 1, 0, none⟩ = some (.bool false) ∧ W.cell? ⟨w.heap.size + 1 + 1, 1, none⟩ = some (.slice none 0 0) ∧ W.frozen? ⟨w.heap.size + 1 + 1, 0, none⟩ = false ∧ W.frozen? ⟨w.heap.size + 1 + 1, 1, none⟩ = false) := fun W h => keep3 (hW0 ▸ h)
  have hb3 : Hid (∀ W : World, Since W0 W → Since (((w.alloc (.cells #[.bool na, .slice A0 n0 c0] 24)).alloc (.cells #[.bool nb, .slice A1 n1 c1] 24)).alloc (.cells #[.bool false, .slice none 0 0] 24)) W) := fun W h => hW0 ▸ h
  have since_set3 : ∀ {W : World} {u0 u1 : Value}, Since W0 W → Since w ((W.setCell ⟨w.heap.size + 1 + 1, 0, none⟩ u0).setCell ⟨w.heap.size + 1 + 1, 1, none⟩ u1) := fun h => by rw [hW0] at h; exact ((((((Since.refl w).alloc _).alloc _).alloc _).trans h).set (by show w.heap.size ≤ w.heap.size + 1 + 1; omega) _).set (by show w.heap.size ≤ w.heap.size + 1 + 1; omega) _
  have hsg : (!na == nb) = (na != nb) := by cases na <;> cases nb <;> rfl
  have hS0 : Since w W0 := by rw [hW0]; exact (((Since.refl w).alloc _).alloc _).alloc _
  clear hW0
  go_enter Tryz.func47, Tryz.ntmps47
  go_wp2
  rw [← HW.out]
  have hh : Hid (∀ W : World, (W.cell? ⟨w.heap.size, 0, none⟩ = some (.bool na) ∧ W.cell? ⟨w.heap.size, 1, none⟩ = some (.slice A0 n0 c0) ∧ W.cell? ⟨w.heap.size + 1, 0, none⟩ = some (.bool nb) ∧ W.cell? ⟨w.heap.size + 1, 1, none⟩ = some (.slice A1 n1 c1)) ∧ Since w W → Since w W) := fun W h => h.2
  go_region_held3 (fun W => (W.cell? ⟨w.heap.size, 0, none⟩ = some (.bool na) ∧ W.cell? ⟨w.heap.size, 1, none⟩ = some (.slice A0 n0 c0) ∧ W.cell? ⟨w.heap.size + 1, 0, none⟩ = some (.bool nb) ∧ W.cell? ⟨w.heap.size + 1, 1, none⟩ = some (.slice A1 n1 c1)) ∧ Since w W)
    (first | exact hold.out _ (Since.refl _) | exact hold.out _ (Since.drew (Since.refl _)) | exact hold.out _ ‹Since W0 _› | exact ⟨by go_simp, since_set3 ‹Since W0 _›⟩)
    (first
      | (go_at_call 78; (with_reducible refine ((Ref02.product_any (.slice A0 n0 c0) (.slice A1 n1 c1) xs ys _ (H.out.1.since (hh.out _ (by assumption))) (H.out.2.since (hh.out _ (by assumption))) (by have := LL.out; omega) (by have := LL.out; omega)).mono fun _ _ h => RetRow.sl h).mono ?_); rintro e w1 ⟨A2, c2, rfl, hr1, hs1⟩; have hK1 := Since.trans (Since.drew (Since.refl W0)) hs1)
      | (go_at_call 74; (with_reducible refine (made_any (.slice A2 (digs (num xs * num ys)).length c2) _ (digs (num xs * num ys)) _ hr1 HL.out).mono ?_); rintro e w2 ⟨rfl, hs2⟩; have hK2 := Since.trans hK1 hs2; have hr2 := hr1.since hs2; obtain ⟨q0, q1, q2, q3⟩ := hk3.out _ hK2))
  go_wp2
  refine bodyPost_ret (v := sv (signB (na != nb) (digs (num xs * num ys))) (.slice A2 (digs (num xs * num ys)).length c2)) ?_ rfl ?_
  · simp [results, Tryz.results47, go_sem, q0, q1]
  · exact ⟨_, _, rfl, row_set3 hr2 (hb3.out _ hK2) _ _, since_set3 hK2⟩
end Go.Proofs.YtbbemgeinlehmaaGreatDoor.Ref03

namespace Go.Proofs.YtbbemgeinlehmaaGreatDoor.Ref03
open Go.RowKit
set_option linter.unusedVariables false
open Go.Proofs.YtbbemgeinlehmaaGreatDoor.Dig

set_option maxRecDepth 100000 in
set_option maxHeartbeats 1000000 in
theorem sum_eq (A0 A1 : Option Addr) (c0 c1 : Nat) (na nb : Bool) (xs ys : List Nat) (w : World) (hx : Row w (.slice A0 xs.length c0) xs) (hy : Row w (.slice A1 ys.length c1) ys) (lx : xs.length ≤ 1000) (ly : ys.length ≤ 1000) (hs : (na == nb) = true) :
    Calls Tryz.prog 46 #[sv na (.slice A0 xs.length c0), sv nb (.slice A1 ys.length c1)] w (RetS (signB na (digs (num xs + num ys))) (digs (num xs + num ys)) w) := by
  have H := Lib.hid (And.intro hx hy)
  have HL := Lib.hid (show (digs (num xs + num ys)).length ≤ 1000000 by have h1 := num_lt hx.dig; have h2 := num_lt hy.dig; obtain ⟨k, hk⟩ : ∃ k, k = 1000 := ⟨_, rfl⟩; rw [← hk] at lx ly; have h3 := Nat.pow_le_pow_right (n := 4294967296) (by omega) lx; have h4 := Nat.pow_le_pow_right (n := 4294967296) (by omega) ly; exact Nat.le_trans (digs_len_le (k := k + 1) (sum_lt (Nat.lt_of_lt_of_le h1 h3) (Nat.lt_of_lt_of_le h2 h4))) (by omega))
  have LL := Lib.hid (And.intro lx ly)
  have HE := Lib.hid (And.intro lx ly)
  clear hx hy lx ly
  obtain ⟨n0, hn0⟩ : ∃ n, n = xs.length := ⟨_, rfl⟩
  obtain ⟨n1, hn1⟩ : ∃ n, n = ys.length := ⟨_, rfl⟩
  rw [← hn0] at H ⊢
  rw [← hn1] at H ⊢
  clear hn0 hn1
  obtain ⟨W0, hW0⟩ : ∃ W0, W0 = ((w.alloc (.cells #[.bool na, .slice A0 n0 c0] 24)).alloc (.cells #[.bool nb, .slice A1 n1 c1] 24)).alloc (.cells #[.bool false, .slice none 0 0] 24) := ⟨_, rfl⟩
  have HW := Lib.hid hW0
  have hold : Hid (∀ W : World, Since W0 W → (W.cell? ⟨w.heap.size, 0, none⟩ = some (.bool na) ∧ W.cell? ⟨w.heap.size, 1, none⟩ = some (.slice A0 n0 c0) ∧ W.cell? ⟨w.heap.size + 1, 0, none⟩ = some (.bool nb) ∧ W.cell? ⟨w.heap.size + 1, 1, none⟩ = some (.slice A1 n1 c1)) ∧ Since w W) := fun W h => ⟨hold2 (hW0 ▸ h), by rw [hW0] at h; exact ((((Since.refl w).alloc _).alloc _).alloc _).trans h⟩
  have hk3 : Hid (∀ W : World, Since W0 W → W.cell? ⟨w.heap.size + 1 + 1, 0, none⟩ = some (.bool false) ∧ W.cell? ⟨w.heap.size + 1 + 1, 1, none⟩ = some (.slice none 0 0) ∧ W.frozen? ⟨w.heap.size + 1 + 1, 0, none⟩ = false ∧ W.frozen? ⟨w.heap.size + 1 + 1, 1, none⟩ = false) := fun W h => keep3 (hW0 ▸ h)
  have hb3 : Hid (∀ W : World, Since W0 W → Since (((w.alloc (.cells #[.bool na, .slice A0 n0 c0] 24)).alloc (.cells #[.bool nb, .slice A1 n1 c1] 24)).alloc (.cells #[.bool false, .slice none 0 0] 24)) W) := fun W h => hW0 ▸ h
  have since_set3 : ∀ {W : World} {u0 u1 : Value}, Since W0 W → Since w ((W.setCell ⟨w.heap.size + 1 + 1, 0, none⟩ u0).setCell ⟨w.heap.size + 1 + 1, 1, none⟩ u1) := fun h => by rw [hW0] at h; exact ((((((Since.refl w).alloc _).alloc _).alloc _).trans h).set (by show w.heap.size ≤ w.heap.size + 1 + 1; omega) _).set (by show w.heap.size ≤ w.heap.size + 1 + 1; omega) _
  have hS0 : Since w W0 := by rw [hW0]; exact (((Since.refl w).alloc _).alloc _).alloc _
  clear hW0
  go_enter Tryz.func46, Tryz.ntmps46
  go_wp2
  rw [← HW.out]
  have hh : Hid (∀ W : World, (W.cell? ⟨w.heap.size, 0, none⟩ = some (.bool na) ∧ W.cell? ⟨w.heap.size, 1, none⟩ = some (.slice A0 n0 c0) ∧ W.cell? ⟨w.heap.size + 1, 0, none⟩ = some (.bool nb) ∧ W.cell? ⟨w.heap.size + 1, 1, none⟩ = some (.slice A1 n1 c1)) ∧ Since w W → Since w W) := fun W h => h.2
  go_region_held3 (fun W => (W.cell? ⟨w.heap.size, 0, none⟩ = some (.bool na) ∧ W.cell? ⟨w.heap.size, 1, none⟩ = some (.slice A0 n0 c0) ∧ W.cell? ⟨w.heap.size + 1, 0, none⟩ = some (.bool nb) ∧ W.cell? ⟨w.heap.size + 1, 1, none⟩ = some (.slice A1 n1 c1)) ∧ Since w W)
    (first | exact hold.out _ (Since.refl _) | exact hold.out _ (Since.drew (Since.refl _)) | exact hold.out _ (Since.drew ‹Since W0 _›) | exact hold.out _ ‹Since W0 _› | exact ⟨by go_simp, since_set3 ‹Since W0 _›⟩)
    (first
      | (go_at_call 75; go_loud ((with_reducible refine ((Ref02.plus_any (.slice A0 n0 c0) (.slice A1 n1 c1) xs ys _ (H.out.1.since (hh.out _ (by assumption))) (H.out.2.since (hh.out _ (by assumption))) (by have := LL.out; omega) (by have := LL.out; omega)).mono fun _ _ h => RetRow.sl h).mono ?_)); rintro e x1 ⟨A2, c2, rfl, hr1, hs1⟩; have hK1 := Since.trans (Since.drew (Since.refl W0)) hs1)
      | (go_at_call 74; (with_reducible refine (made_any (.slice A2 (digs (num xs + num ys)).length c2) _ (digs (num xs + num ys)) _ hr1 HL.out).mono ?_); rintro e x2 ⟨rfl, hs2⟩; have hK2 := Since.trans hK1 hs2; have hr2 := hr1.since hs2; obtain ⟨q0, q1, q2, q3⟩ := hk3.out _ hK2))
  go_wp2
  refine bodyPost_ret (v := sv (signB na (digs (num xs + num ys))) (.slice A2 (digs (num xs + num ys)).length c2)) ?_ rfl ?_
  · simp [results, Tryz.results46, go_sem, q0, q1]
  · exact ⟨_, _, rfl, row_set3 hr2 (hb3.out _ hK2) _ _, since_set3 hK2⟩
set_option maxRecDepth 100000 in
set_option maxHeartbeats 1000000 in
theorem sum_lt_ (A0 A1 : Option Addr) (c0 c1 : Nat) (na nb : Bool) (xs ys : List Nat) (w : World) (hx : Row w (.slice A0 xs.length c0) xs) (hy : Row w (.slice A1 ys.length c1) ys) (lx : xs.length ≤ 1000) (ly : ys.length ≤ 1000) (hs : (na == nb) = false) (hc : lessB xs ys = true) (hl2 : xs.length ≤ ys.length) (hle : num xs ≤ num ys) :
    Calls Tryz.prog 46 #[sv na (.slice A0 xs.length c0), sv nb (.slice A1 ys.length c1)] w (RetS (signB nb (digs (num ys - num xs))) (digs (num ys - num xs)) w) := by
  have H := Lib.hid (And.intro hx hy)
  have HL := Lib.hid (show (digs (num ys - num xs)).length ≤ 1000000 by exact Nat.le_trans (digs_len_mono (Nat.sub_le _ _)) (Nat.le_trans (digs_len_num hy.dig) (by omega)))
  have LL := Lib.hid (And.intro lx ly)
  have HE := Lib.hid (And.intro lx ly)
  have HC := Lib.hid hc
  have HQ := Lib.hid hl2
  have HLE := Lib.hid hle
  clear hx hy lx ly hc hl2 hle
  obtain ⟨n0, hn0⟩ : ∃ n, n = xs.length := ⟨_, rfl⟩
  obtain ⟨n1, hn1⟩ : ∃ n, n = ys.length := ⟨_, rfl⟩
  rw [← hn0] at H ⊢
  rw [← hn1] at H ⊢
  clear hn0 hn1
  obtain ⟨W0, hW0⟩ : ∃ W0, W0 = ((w.alloc (.cells #[.bool na, .slice A0 n0 c0] 24)).alloc (.cells #[.bool nb, .slice A1 n1 c1] 24)).alloc (.cells #[.bool false, .slice none 0 0] 24) := ⟨_, rfl⟩
  have HW := Lib.hid hW0
  have hold : Hid (∀ W : World, Since W0 W → (W.cell? ⟨w.heap.size, 0, none⟩ = some (.bool na) ∧ W.cell? ⟨w.heap.size, 1, none⟩ = some (.slice A0 n0 c0) ∧ W.cell? ⟨w.heap.size + 1, 0, none⟩ = some (.bool nb) ∧ W.cell? ⟨w.heap.size + 1, 1, none⟩ = some (.slice A1 n1 c1)) ∧ Since w W) := fun W h => ⟨hold2 (hW0 ▸ h), by rw [hW0] at h; exact ((((Since.refl w).alloc _).alloc _).alloc _).trans h⟩
  have hk3 : Hid (∀ W : World, Since W0 W → W.cell? ⟨w.heap.size + 1 + 1, 0, none⟩ = some (.bool false) ∧ W.cell? ⟨w.heap.size + 1 + 1, 1, none⟩ = some (.slice none 0 0) ∧ W.frozen? ⟨w.heap.size + 1 + 1, 0, none⟩ = false ∧ W.frozen? ⟨w.heap.size + 1 + 1, 1, none⟩ = false) := fun W h => keep3 (hW0 ▸ h)
  have hb3 : Hid (∀ W : World, Since W0 W → Since (((w.alloc (.cells #[.bool na, .slice A0 n0 c0] 24)).alloc (.cells #[.bool nb, .slice A1 n1 c1] 24)).alloc (.cells #[.bool false, .slice none 0 0] 24)) W) := fun W h => hW0 ▸ h
  have since_set3 : ∀ {W : World} {u0 u1 : Value}, Since W0 W → Since w ((W.setCell ⟨w.heap.size + 1 + 1, 0, none⟩ u0).setCell ⟨w.heap.size + 1 + 1, 1, none⟩ u1) := fun h => by rw [hW0] at h; exact ((((((Since.refl w).alloc _).alloc _).alloc _).trans h).set (by show w.heap.size ≤ w.heap.size + 1 + 1; omega) _).set (by show w.heap.size ≤ w.heap.size + 1 + 1; omega) _
  have hS0 : Since w W0 := by rw [hW0]; exact (((Since.refl w).alloc _).alloc _).alloc _
  clear hW0
  have hR0 := Lib.hid (H.out.1.since hS0)
  have hR1 := Lib.hid (H.out.2.since hS0)
  go_enter Tryz.func46, Tryz.ntmps46
  go_wp2_with fail
  rw [← HW.out]
  go_wp2_with (go_at_call 76; (with_reducible refine (Ref02.less_any (.slice A0 n0 c0) (.slice A1 n1 c1) xs ys _ hR0.out hR1.out (by have := LL.out; omega) (by have := LL.out; omega)).mono ?_); rw [HC.out]; rintro e w1 ⟨rfl, hw1⟩; obtain ⟨⟨k0, k1, k2, k3⟩, _⟩ := hold.out _ hw1)
  have hh : Hid (∀ W : World, (W.cell? ⟨w.heap.size, 0, none⟩ = some (.bool na) ∧ W.cell? ⟨w.heap.size, 1, none⟩ = some (.slice A0 n0 c0) ∧ W.cell? ⟨w.heap.size + 1, 0, none⟩ = some (.bool nb) ∧ W.cell? ⟨w.heap.size + 1, 1, none⟩ = some (.slice A1 n1 c1)) ∧ Since w W → Since w W) := fun W h => h.2
  go_region_held3 (fun W => (W.cell? ⟨w.heap.size, 0, none⟩ = some (.bool na) ∧ W.cell? ⟨w.heap.size, 1, none⟩ = some (.slice A0 n0 c0) ∧ W.cell? ⟨w.heap.size + 1, 0, none⟩ = some (.bool nb) ∧ W.cell? ⟨w.heap.size + 1, 1, none⟩ = some (.slice A1 n1 c1)) ∧ Since w W)
    (first | exact hold.out _ (Since.refl _) | exact hold.out _ (Since.drew (Since.refl _)) | exact hold.out _ (Since.drew ‹Since W0 _›) | exact hold.out _ ‹Since W0 _› | exact ⟨by go_simp, since_set3 ‹Since W0 _›⟩)
    (first
      | (go_at_call 77; go_loud ((with_reducible refine ((Ref02.minus_any (.slice A1 n1 c1) (.slice A0 n0 c0) ys xs _ (H.out.2.since (hh.out _ (by assumption))) (H.out.1.since (hh.out _ (by assumption))) (by have := LL.out; omega) HQ.out HLE.out).mono fun _ _ h => RetRow.sl h).mono ?_)); rintro e x1 ⟨A2, c2, rfl, hr1, hs1⟩; have hK1 := Since.trans (Since.drew hw1) hs1)
      | (go_at_call 74; (with_reducible refine (made_any (.slice A2 (digs (num ys - num xs)).length c2) _ (digs (num ys - num xs)) _ hr1 HL.out).mono ?_); rintro e x2 ⟨rfl, hs2⟩; have hK2 := Since.trans hK1 hs2; have hr2 := hr1.since hs2; obtain ⟨q0, q1, q2, q3⟩ := hk3.out _ hK2))
  go_wp2
  refine bodyPost_ret (v := sv (signB nb (digs (num ys - num xs))) (.slice A2 (digs (num ys - num xs)).length c2)) ?_ rfl ?_
  · simp [results, Tryz.results46, go_sem, q0, q1]
  · exact ⟨_, _, rfl, row_set3 hr2 (hb3.out _ hK2) _ _, since_set3 hK2⟩
set_option maxRecDepth 100000 in
set_option maxHeartbeats 1000000 in
theorem sum_ge_ (A0 A1 : Option Addr) (c0 c1 : Nat) (na nb : Bool) (xs ys : List Nat) (w : World) (hx : Row w (.slice A0 xs.length c0) xs) (hy : Row w (.slice A1 ys.length c1) ys) (lx : xs.length ≤ 1000) (ly : ys.length ≤ 1000) (hs : (na == nb) = false) (hc : lessB xs ys = false) (hl2 : ys.length ≤ xs.length) (hle : num ys ≤ num xs) :
    Calls Tryz.prog 46 #[sv na (.slice A0 xs.length c0), sv nb (.slice A1 ys.length c1)] w (RetS (signB na (digs (num xs - num ys))) (digs (num xs - num ys)) w) := by
  have H := Lib.hid (And.intro hx hy)
  have HL := Lib.hid (show (digs (num xs - num ys)).length ≤ 1000000 by exact Nat.le_trans (digs_len_mono (Nat.sub_le _ _)) (Nat.le_trans (digs_len_num hx.dig) (by omega)))
  have LL := Lib.hid (And.intro lx ly)
  have HE := Lib.hid (And.intro lx ly)
  have HC := Lib.hid hc
  have HQ := Lib.hid hl2
  have HLE := Lib.hid hle
  clear hx hy lx ly hc hl2 hle
  obtain ⟨n0, hn0⟩ : ∃ n, n = xs.length := ⟨_, rfl⟩
  obtain ⟨n1, hn1⟩ : ∃ n, n = ys.length := ⟨_, rfl⟩
  rw [← hn0] at H ⊢
  rw [← hn1] at H ⊢
  clear hn0 hn1
  obtain ⟨W0, hW0⟩ : ∃ W0, W0 = ((w.alloc (.cells #[.bool na, .slice A0 n0 c0] 24)).alloc (.cells #[.bool nb, .slice A1 n1 c1] 24)).alloc (.cells #[.bool false, .slice none 0 0] 24) := ⟨_, rfl⟩
  have HW := Lib.hid hW0
  have hold : Hid (∀ W : World, Since W0 W → (W.cell? ⟨w.heap.size, 0, none⟩ = some (.bool na) ∧ W.cell? ⟨w.heap.size, 1, none⟩ = some (.slice A0 n0 c0) ∧ W.cell? ⟨w.heap.size + 1, 0, none⟩ = some (.bool nb) ∧ W.cell? ⟨w.heap.size + 1, 1, none⟩ = some (.slice A1 n1 c1)) ∧ Since w W) := fun W h => ⟨hold2 (hW0 ▸ h), by rw [hW0] at h; exact ((((Since.refl w).alloc _).alloc _).alloc _).trans h⟩
  have hk3 : Hid (∀ W : World, Since W0 W → W.cell? ⟨w.heap.size + 1 + 1, 0, none⟩ = some (.bool false) ∧ W.cell? ⟨w.heap.size + 1 + 1, 1, none⟩ = some (.slice none 0 0) ∧ W.frozen? ⟨w.heap.size + 1 + 1, 0, none⟩ = false ∧ W.frozen? ⟨w.heap.size + 1 + 1, 1, none⟩ = false) := fun W h => keep3 (hW0 ▸ h)
  have hb3 : Hid (∀ W : World, Since W0 W → Since (((w.alloc (.cells #[.bool na, .slice A0 n0 c0] 24)).alloc (.cells #[.bool nb, .slice A1 n1 c1] 24)).alloc (.cells #[.bool false, .slice none 0 0] 24)) W) := fun W h => hW0 ▸ h
  have since_set3 : ∀ {W : World} {u0 u1 : Value}, Since W0 W → Since w ((W.setCell ⟨w.heap.size + 1 + 1, 0, none⟩ u0).setCell ⟨w.heap.size + 1 + 1, 1, none⟩ u1) := fun h => by rw [hW0] at h; exact ((((((Since.refl w).alloc _).alloc _).alloc _).trans h).set (by show w.heap.size ≤ w.heap.size + 1 + 1; omega) _).set (by show w.heap.size ≤ w.heap.size + 1 + 1; omega) _
  have hS0 : Since w W0 := by rw [hW0]; exact (((Since.refl w).alloc _).alloc _).alloc _
  clear hW0
  have hR0 := Lib.hid (H.out.1.since hS0)
  have hR1 := Lib.hid (H.out.2.since hS0)
  go_enter Tryz.func46, Tryz.ntmps46
  go_wp2_with fail
  rw [← HW.out]
  go_wp2_with (go_at_call 76; (with_reducible refine (Ref02.less_any (.slice A0 n0 c0) (.slice A1 n1 c1) xs ys _ hR0.out hR1.out (by have := LL.out; omega) (by have := LL.out; omega)).mono ?_); rw [HC.out]; rintro e w1 ⟨rfl, hw1⟩; obtain ⟨⟨k0, k1, k2, k3⟩, _⟩ := hold.out _ hw1)
  have hh : Hid (∀ W : World, (W.cell? ⟨w.heap.size, 0, none⟩ = some (.bool na) ∧ W.cell? ⟨w.heap.size, 1, none⟩ = some (.slice A0 n0 c0) ∧ W.cell? ⟨w.heap.size + 1, 0, none⟩ = some (.bool nb) ∧ W.cell? ⟨w.heap.size + 1, 1, none⟩ = some (.slice A1 n1 c1)) ∧ Since w W → Since w W) := fun W h => h.2
  go_region_held3 (fun W => (W.cell? ⟨w.heap.size, 0, none⟩ = some (.bool na) ∧ W.cell? ⟨w.heap.size, 1, none⟩ = some (.slice A0 n0 c0) ∧ W.cell? ⟨w.heap.size + 1, 0, none⟩ = some (.bool nb) ∧ W.cell? ⟨w.heap.size + 1, 1, none⟩ = some (.slice A1 n1 c1)) ∧ Since w W)
    (first | exact hold.out _ (Since.refl _) | exact hold.out _ (Since.drew (Since.refl _)) | exact hold.out _ (Since.drew ‹Since W0 _›) | exact hold.out _ ‹Since W0 _› | exact ⟨by go_simp, since_set3 ‹Since W0 _›⟩)
    (first
      | (go_at_call 77; go_loud ((with_reducible refine ((Ref02.minus_any (.slice A0 n0 c0) (.slice A1 n1 c1) xs ys _ (H.out.1.since (hh.out _ (by assumption))) (H.out.2.since (hh.out _ (by assumption))) (by have := LL.out; omega) HQ.out HLE.out).mono fun _ _ h => RetRow.sl h).mono ?_)); rintro e x1 ⟨A2, c2, rfl, hr1, hs1⟩; have hK1 := Since.trans (Since.drew hw1) hs1)
      | (go_at_call 74; (with_reducible refine (made_any (.slice A2 (digs (num xs - num ys)).length c2) _ (digs (num xs - num ys)) _ hr1 HL.out).mono ?_); rintro e x2 ⟨rfl, hs2⟩; have hK2 := Since.trans hK1 hs2; have hr2 := hr1.since hs2; obtain ⟨q0, q1, q2, q3⟩ := hk3.out _ hK2))
  go_wp2
  refine bodyPost_ret (v := sv (signB na (digs (num xs - num ys))) (.slice A2 (digs (num xs - num ys)).length c2)) ?_ rfl ?_
  · simp [results, Tryz.results46, go_sem, q0, q1]
  · exact ⟨_, _, rfl, row_set3 hr2 (hb3.out _ hK2) _ _, since_set3 hK2⟩
end Go.Proofs.YtbbemgeinlehmaaGreatDoor.Ref03

namespace Go.Proofs.YtbbemgeinlehmaaGreatDoor.Ref03
open Go.RowKit
set_option linter.unusedVariables false
open Go.Proofs.YtbbemgeinlehmaaGreatDoor.Dig

theorem sum_any (A0 A1 : Option Addr) (c0 c1 : Nat) (na nb : Bool) (xs ys : List Nat) (w : World) (hx : Row w (.slice A0 xs.length c0) xs) (hy : Row w (.slice A1 ys.length c1) ys) (lx : xs.length ≤ 1000) (ly : ys.length ≤ 1000) (nx : Norm xs) (ny : Norm ys) :
    Calls Tryz.prog 46 #[sv na (.slice A0 xs.length c0), sv nb (.slice A1 ys.length c1)] w (RetS (ngB (sval na xs + sval nb ys)) (mag (sval na xs + sval nb ys)) w) := by
  by_cases hs : (na == nb) = true
  · have h := sum_eq A0 A1 c0 c1 na nb xs ys w hx hy lx ly hs
    have e : na = nb := by simpa using hs
    subst e
    have e1 : digs (num xs + num ys) = mag (sval na xs + sval na ys) := by
      unfold mag sval; congr 1; cases na <;> simp <;> omega
    rw [e1, sign_mag _ na (fun hz => by
      unfold ngB sval at *
      cases na
      · simp; omega
      · simp at hz ⊢; omega)] at h
    exact h
  · have hs' : (na == nb) = false := by simpa using hs
    have el := lessB_norm hx.dig hy.dig nx ny
    by_cases hc : num xs < num ys
    · rw [decide_eq_true hc] at el
      have h := sum_lt_ A0 A1 c0 c1 na nb xs ys w hx hy lx ly hs' el (norm_len_le hy.dig nx (by omega)) (by omega)
      have e1 : digs (num ys - num xs) = mag (sval na xs + sval nb ys) := by
        unfold mag sval; congr 1; cases na <;> cases nb <;> simp at hs' ⊢ <;> omega
      rw [e1, sign_mag _ nb (fun hz => by
        unfold ngB sval at *
        cases na <;> cases nb <;> simp at hs' hz ⊢ <;> omega)] at h
      exact h
    · rw [decide_eq_false hc] at el
      have h := sum_ge_ A0 A1 c0 c1 na nb xs ys w hx hy lx ly hs' el (norm_len_le hx.dig ny (by omega)) (by omega)
      have e1 : digs (num xs - num ys) = mag (sval na xs + sval nb ys) := by
        unfold mag sval; congr 1; cases na <;> cases nb <;> simp at hs' ⊢ <;> omega
      rw [e1, sign_mag _ na (fun hz => by
        unfold ngB sval at *
        cases na <;> cases nb <;> simp at hs' hz ⊢ <;> omega)] at h
      exact h
end Go.Proofs.YtbbemgeinlehmaaGreatDoor.Ref03

namespace Go.Proofs.YtbbemgeinlehmaaGreatDoor.Ref03
open Go.RowKit
set_option linter.unusedVariables false
open Go.Proofs.YtbbemgeinlehmaaGreatDoor.Dig

theorem less_any (A0 A1 : Option Addr) (c0 c1 : Nat) (na nb : Bool) (xs ys : List Nat) (w : World) (hx : Row w (.slice A0 xs.length c0) xs) (hy : Row w (.slice A1 ys.length c1) ys) (lx : xs.length ≤ 1000) (ly : ys.length ≤ 1000) (r1 : srightB na xs = true) (r2 : srightB nb ys = true) :
    Calls Tryz.prog 80 #[sv na (.slice A0 xs.length c0), sv nb (.slice A1 ys.length c1)] w fun e w' => e = .returned (.bool (slessB na xs nb ys)) ∧ Since w w' := by
  have H := Lib.hid (And.intro hx hy)
  have LL := Lib.hid (And.intro lx ly)
  have el := lessB_norm hx.dig hy.dig (right_norm (sright_right r1)).2 (right_norm (sright_right r2)).2
  have em := lessB_norm hy.dig hx.dig (right_norm (sright_right r2)).2 (right_norm (sright_right r1)).2
  cases na <;> cases nb
  case false.false =>
    have e : lessB xs ys = slessB false xs false ys := by rw [el]; simp [slessB, sval]
    have E := Lib.hid e
    clear e el em hx hy lx ly r1 r2
    go_enter Tryz.func80, Tryz.ntmps80
    go_wp2_with (go_at_call 76; (with_reducible refine (Ref02.less_any (.slice A0 xs.length c0) (.slice A1 ys.length c1) xs ys _ (H.out.1.since (((Since.refl w).alloc _).alloc _)) (H.out.2.since (((Since.refl w).alloc _).alloc _)) (by have := LL.out; omega) (by have := LL.out; omega)).mono ?_); rw [E.out]; rintro e w1 ⟨rfl, h1⟩)
    go_ret
    exact ⟨rfl, (((Since.refl w).alloc _).alloc _).trans ‹_›⟩
  case true.true =>
    have e : lessB ys xs = slessB true xs true ys := by
      rw [em]; simp only [slessB, sval, if_true]; rw [decide_eq_decide]; omega
    have E := Lib.hid e
    clear e el em hx hy lx ly r1 r2
    go_enter Tryz.func80, Tryz.ntmps80
    go_wp2_with (go_at_call 76; (with_reducible refine (Ref02.less_any (.slice A1 ys.length c1) (.slice A0 xs.length c0) ys xs _ (H.out.2.since (((Since.refl w).alloc _).alloc _)) (H.out.1.since (((Since.refl w).alloc _).alloc _)) (by have := LL.out; omega) (by have := LL.out; omega)).mono ?_); rw [E.out]; rintro e w1 ⟨rfl, h1⟩)
    go_ret
    exact ⟨rfl, (((Since.refl w).alloc _).alloc _).trans ‹_›⟩
  case true.false =>
    have e : slessB true xs false ys = true := by
      have := sright_pos r1
      simp only [slessB, sval]; apply decide_eq_true; simp <;> omega
    rw [e]
    clear e el em hx hy lx ly r1 r2
    go_enter Tryz.func80, Tryz.ntmps80
    go_wp2
    go_ret
    exact ⟨rfl, ((Since.refl w).alloc _).alloc _⟩
  case false.true =>
    have e : slessB false xs true ys = false := by
      simp only [slessB, sval]; apply decide_eq_false; simp <;> omega
    rw [e]
    clear e el em hx hy lx ly r1 r2
    go_enter Tryz.func80, Tryz.ntmps80
    go_wp2
    go_ret
    exact ⟨rfl, ((Since.refl w).alloc _).alloc _⟩
set_option maxRecDepth 100000 in
set_option maxHeartbeats 2000000 in
theorem cmp_any (A0 A1 : Option Addr) (c0 c1 : Nat) (na nb : Bool) (xs ys : List Nat) (w : World) (hx : Row w (.slice A0 xs.length c0) xs) (hy : Row w (.slice A1 ys.length c1) ys) (lx : xs.length ≤ 1000) (ly : ys.length ≤ 1000) :
    Calls Tryz.prog 51 #[sv na (.slice A0 xs.length c0), sv nb (.slice A1 ys.length c1)] w fun e w' => e = .returned (.tuple #[.int .i64 (cmpZ na xs nb ys).1, .int .i64 (cmpZ na xs nb ys).2]) ∧ Since w w' := by
  have H := Lib.hid (And.intro hx hy)
  have LL := Lib.hid (And.intro lx ly)
  have HL := Lib.hid (fun W gx gy r1 r2 => less_any A0 A1 c0 c1 na nb xs ys W gx gy lx ly r1 r2)
  have HM := Lib.hid (fun W gx gy r1 r2 => less_any A1 A0 c1 c0 nb na ys xs W gx gy ly lx r1 r2)
  clear hx hy lx ly
  obtain ⟨n0, hn0⟩ : ∃ n, n = xs.length := ⟨_, rfl⟩
  obtain ⟨n1, hn1⟩ : ∃ n, n = ys.length := ⟨_, rfl⟩
  rw [← hn0] at H HL HM ⊢
  rw [← hn1] at H HL HM ⊢
  obtain ⟨W0, hW0⟩ : ∃ W0, W0 = (w.alloc (.cells #[.bool na, .slice A0 n0 c0] 24)).alloc (.cells #[.bool nb, .slice A1 n1 c1] 24) := ⟨_, rfl⟩
  have HW := Lib.hid hW0
  have hold : Hid (∀ W : World, Since W0 W → (W.cell? ⟨w.heap.size, 0, none⟩ = some (.bool na) ∧ W.cell? ⟨w.heap.size, 1, none⟩ = some (.slice A0 n0 c0) ∧ W.cell? ⟨w.heap.size + 1, 0, none⟩ = some (.bool nb) ∧ W.cell? ⟨w.heap.size + 1, 1, none⟩ = some (.slice A1 n1 c1))) := fun W h => hold2of (hW0 ▸ h)
  have hS0 : Since w W0 := by rw [hW0]; exact ((Since.refl w).alloc _).alloc _
  have hK := Since.refl W0
  have HR0 := Lib.hid (show ∀ W, Since W0 W → Row W (.slice A0 n0 c0) xs from fun W h => H.out.1.since (hS0.trans h))
  have HR1 := Lib.hid (show ∀ W, Since W0 W → Row W (.slice A1 n1 c1) ys from fun W h => H.out.2.since (hS0.trans h))
  have RA := Lib.hid (show ∀ W, Since W0 W → Calls Tryz.prog 61 #[sv na (.slice A0 n0 c0)] W fun e w' => e = .returned (.bool (srightB na xs)) ∧ Since W w' from fun W h => right_any (.slice A0 n0 c0) na xs W (HR0.out W h) (by have := LL.out; omega))
  have RB := Lib.hid (show ∀ W, Since W0 W → Calls Tryz.prog 61 #[sv nb (.slice A1 n1 c1)] W fun e w' => e = .returned (.bool (srightB nb ys)) ∧ Since W w' from fun W h => right_any (.slice A1 n1 c1) nb ys W (HR1.out W h) (by have := LL.out; omega))
  clear hW0 hn0 hn1
  by_cases r1 : srightB na xs = true
  · by_cases r2 : srightB nb ys = true
    · have R1 := Lib.hid r1
      have R2 := Lib.hid r2
      have ev0 : cmpZ na xs nb ys = (if sval na xs < sval nb ys then (-1, 0) else if sval nb ys < sval na xs then (1, 0) else (0, 0)) := by unfold cmpZ; rw [if_pos ⟨r1, r2⟩]
      clear r1 r2
      rcases Int.lt_trichotomy (sval na xs) (sval nb ys) with h | h | h
      · have EV := Lib.hid (show cmpZ na xs nb ys = (-1, 0) by rw [ev0, if_pos h])
        have E1 := Lib.hid (show slessB na xs nb ys = true by unfold slessB; exact decide_eq_true h)
        have E2 := Lib.hid (show slessB nb ys na xs = false by unfold slessB; exact decide_eq_false (by omega))
        clear ev0 h
        go_enter Tryz.func51, Tryz.ntmps51
        go_wp2_with fail
        rw [← HW.out]
        go_wp2_with (first
          | (go_at_call 61; (with_reducible refine (RA.out _ hK).mono ?_); rw [R1.out]; rintro e w1 ⟨rfl, h1⟩; have hK := hK.trans h1; obtain ⟨k0, k1, k2, k3⟩ := hold.out _ hK)
          | (go_at_call 61; (with_reducible refine (RB.out _ hK).mono ?_); rw [R2.out]; rintro e w2 ⟨rfl, h2⟩; have hK := hK.trans h2; obtain ⟨k0, k1, k2, k3⟩ := hold.out _ hK)
          | (go_at_call 80; (with_reducible refine (HL.out _ (HR0.out _ hK) (HR1.out _ hK) R1.out R2.out).mono ?_); rw [E1.out]; rintro e w3 ⟨rfl, h3⟩; have hK := hK.trans h3; obtain ⟨k0, k1, k2, k3⟩ := hold.out _ hK)
          | (go_at_call 80; (with_reducible refine (HM.out _ (HR1.out _ hK) (HR0.out _ hK) R2.out R1.out).mono ?_); rw [E2.out]; rintro e w4 ⟨rfl, h4⟩; have hK := hK.trans h4; obtain ⟨k0, k1, k2, k3⟩ := hold.out _ hK))
        go_ret2
        exact ⟨by rw [EV.out]; rfl, hS0.trans hK⟩
      · have EV := Lib.hid (show cmpZ na xs nb ys = (0, 0) by rw [ev0, if_neg (by omega), if_neg (by omega)])
        have E1 := Lib.hid (show slessB na xs nb ys = false by unfold slessB; exact decide_eq_false (by omega))
        have E2 := Lib.hid (show slessB nb ys na xs = false by unfold slessB; exact decide_eq_false (by omega))
        clear ev0 h
        go_enter Tryz.func51, Tryz.ntmps51
        go_wp2_with fail
        rw [← HW.out]
        go_wp2_with (first
          | (go_at_call 61; (with_reducible refine (RA.out _ hK).mono ?_); rw [R1.out]; rintro e w1 ⟨rfl, h1⟩; have hK := hK.trans h1; obtain ⟨k0, k1, k2, k3⟩ := hold.out _ hK)
          | (go_at_call 61; (with_reducible refine (RB.out _ hK).mono ?_); rw [R2.out]; rintro e w2 ⟨rfl, h2⟩; have hK := hK.trans h2; obtain ⟨k0, k1, k2, k3⟩ := hold.out _ hK)
          | (go_at_call 80; (with_reducible refine (HL.out _ (HR0.out _ hK) (HR1.out _ hK) R1.out R2.out).mono ?_); rw [E1.out]; rintro e w3 ⟨rfl, h3⟩; have hK := hK.trans h3; obtain ⟨k0, k1, k2, k3⟩ := hold.out _ hK)
          | (go_at_call 80; (with_reducible refine (HM.out _ (HR1.out _ hK) (HR0.out _ hK) R2.out R1.out).mono ?_); rw [E2.out]; rintro e w4 ⟨rfl, h4⟩; have hK := hK.trans h4; obtain ⟨k0, k1, k2, k3⟩ := hold.out _ hK))
        go_ret2
        exact ⟨by rw [EV.out]; rfl, hS0.trans hK⟩
      · have EV := Lib.hid (show cmpZ na xs nb ys = (1, 0) by rw [ev0, if_neg (by omega), if_pos h])
        have E1 := Lib.hid (show slessB na xs nb ys = false by unfold slessB; exact decide_eq_false (by omega))
        have E2 := Lib.hid (show slessB nb ys na xs = true by unfold slessB; exact decide_eq_true h)
        clear ev0 h
        go_enter Tryz.func51, Tryz.ntmps51
        go_wp2_with fail
        rw [← HW.out]
        go_wp2_with (first
          | (go_at_call 61; (with_reducible refine (RA.out _ hK).mono ?_); rw [R1.out]; rintro e w1 ⟨rfl, h1⟩; have hK := hK.trans h1; obtain ⟨k0, k1, k2, k3⟩ := hold.out _ hK)
          | (go_at_call 61; (with_reducible refine (RB.out _ hK).mono ?_); rw [R2.out]; rintro e w2 ⟨rfl, h2⟩; have hK := hK.trans h2; obtain ⟨k0, k1, k2, k3⟩ := hold.out _ hK)
          | (go_at_call 80; (with_reducible refine (HL.out _ (HR0.out _ hK) (HR1.out _ hK) R1.out R2.out).mono ?_); rw [E1.out]; rintro e w3 ⟨rfl, h3⟩; have hK := hK.trans h3; obtain ⟨k0, k1, k2, k3⟩ := hold.out _ hK)
          | (go_at_call 80; (with_reducible refine (HM.out _ (HR1.out _ hK) (HR0.out _ hK) R2.out R1.out).mono ?_); rw [E2.out]; rintro e w4 ⟨rfl, h4⟩; have hK := hK.trans h4; obtain ⟨k0, k1, k2, k3⟩ := hold.out _ hK))
        go_ret2
        exact ⟨by rw [EV.out]; rfl, hS0.trans hK⟩
    · have R1 := Lib.hid r1
      have R2 := Lib.hid (show srightB nb ys = false by simpa using r2)
      have EV := Lib.hid (show cmpZ na xs nb ys = (0, 2) by unfold cmpZ; rw [if_neg (fun h => r2 h.2)])
      clear r1 r2
      go_enter Tryz.func51, Tryz.ntmps51
      go_wp2_with fail
      rw [← HW.out]
      go_wp2_with (first
        | (go_at_call 61; (with_reducible refine (RA.out _ hK).mono ?_); rw [R1.out]; rintro e w1 ⟨rfl, h1⟩; have hK := hK.trans h1; obtain ⟨k0, k1, k2, k3⟩ := hold.out _ hK)
        | (go_at_call 61; (with_reducible refine (RB.out _ hK).mono ?_); rw [R2.out]; rintro e w2 ⟨rfl, h2⟩; have hK := hK.trans h2; obtain ⟨k0, k1, k2, k3⟩ := hold.out _ hK))
      go_ret2
      exact ⟨by rw [EV.out]; rfl, hS0.trans hK⟩
  · have R1 := Lib.hid (show srightB na xs = false by simpa using r1)
    have EV := Lib.hid (show cmpZ na xs nb ys = (0, 2) by unfold cmpZ; rw [if_neg (fun h => r1 h.1)])
    clear r1
    go_enter Tryz.func51, Tryz.ntmps51
    go_wp2_with fail
    rw [← HW.out]
    go_wp2_with (first
      | (go_at_call 61; (with_reducible refine (RA.out _ hK).mono ?_); rw [R1.out]; rintro e w1 ⟨rfl, h1⟩; have hK := hK.trans h1; obtain ⟨k0, k1, k2, k3⟩ := hold.out _ hK))
    go_ret2
    exact ⟨by rw [EV.out]; rfl, hS0.trans hK⟩
end Go.Proofs.YtbbemgeinlehmaaGreatDoor.Ref03
