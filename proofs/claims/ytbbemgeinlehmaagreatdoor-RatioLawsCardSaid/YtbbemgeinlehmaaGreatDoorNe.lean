/- What estimate, subtractTimes, addBack and divideStep of package nat give back. What subtractTimes, addBack and divideStep of package nat give back. What divideStep and divideLong of package nat give back. What divideLong of package nat gives back. What DivMod of package nat gives back. What the calls of package nat give back: all of them but the texts'. -/
import Derived.Test.YtbbemgeinlehmaaGreatDoorNd
import Derived.Deep.RegionWith
import Derived.Test.YtbbemgeinlehmaaGreatDoorNc
namespace Go.Proofs.YtbbemgeinlehmaaGreatDoor.Nat02
open Go.RowKit
set_option linter.unusedVariables false
open Go.Proofs.YtbbemgeinlehmaaGreatDoor.Dig

theorem quiet_add {P : Program} {f : FuncId} {args : Array Value} {w : World} {a n : Nat} {v : Value}
    (h : Calls P f args (w.drewN (a + n)) fun e w' => e = .returned v ∧ ∃ m, w' = (w.drewN (a + n)).drewN m) :
    Calls P f args (w.drewN (a + n)) fun e w'' => e = .returned v ∧ ∃ m, w'' = w.drewN (a + m) :=
  h.mono fun _ _ ⟨he, m, hm⟩ => ⟨he, n + m, by rw [hm, World.drewN_drewN, Nat.add_assoc]⟩

theorem est_test {h lo l r0 p : Nat} (hh : h = p / 4294967296) (hlo : lo = p % 4294967296) (hr : r0 < 4294967296) :
    (l < h → l * 4294967296 + r0 < p) ∧ (h = l → (r0 < lo ↔ l * 4294967296 + r0 < p)) ∧ (h < l → ¬ l * 4294967296 + r0 < p) := by omega

set_option maxRecDepth 100000 in
set_option maxHeartbeats 4000000 in
theorem estimate_any (va vb : Value) (W D : List Nat) (m : Nat) (w : World) (hx : Row w va W) (hy : Row w vb D) (lW : W.length = m + 3) (lD : D.length = m + 2) (hm : m ≤ 10000) (hf : 2147483648 ≤ D.getD (m + 1) 0) :
    Calls Tryz.prog 129 #[va, vb] w fun e w' => e = .returned (.int .u32 ((estD W D : Nat) : Int)) ∧ ∃ n, w' = w.drewN n := by
  obtain ⟨dx, A, cA, rfl, hcx, -⟩ := hx
  obtain ⟨dy, B, cB, rfl, hcy, -⟩ := hy
  obtain ⟨b, o, rfl, hcc⟩ := hcx (by omega)
  obtain ⟨b2, o2, rfl, hcc2⟩ := hcy (by omega)
  have c2 := hcc (m + 2) (by omega)
  have c1 := hcc (m + 1) (by omega)
  have c0 := hcc m (by omega)
  have cf := hcc2 (m + 1) (by omega)
  have cs := hcc2 m (by omega)
  have b2' := getD_lt dx (m + 2)
  have b1' := getD_lt dx (m + 1)
  have b0' := getD_lt dx m
  have bf' := getD_lt dy (m + 1)
  have bs' := getD_lt dy m
  have he : estD W D = estQ (W.getD (m + 2) 0) (W.getD (m + 1) 0) (W.getD m 0) (D.getD (m + 1) 0) (D.getD m 0) := by
    unfold estD; rw [lD]; rfl
  obtain ⟨E, hE⟩ : ∃ e, e = estD W D := ⟨_, rfl⟩
  rw [← hE] at he ⊢
  obtain ⟨r2, hr2⟩ : ∃ d, d = W.getD (m + 2) 0 := ⟨_, rfl⟩
  obtain ⟨r1, hr1⟩ : ∃ d, d = W.getD (m + 1) 0 := ⟨_, rfl⟩
  obtain ⟨r0, hr0⟩ : ∃ d, d = W.getD m 0 := ⟨_, rfl⟩
  obtain ⟨f, hff⟩ : ∃ d, d = D.getD (m + 1) 0 := ⟨_, rfl⟩
  obtain ⟨s, hss⟩ : ∃ d, d = D.getD m 0 := ⟨_, rfl⟩
  rw [← hr2, ← hr1, ← hr0, ← hff, ← hss] at he
  rw [← hr2] at c2 b2'
  rw [← hr1] at c1 b1'
  rw [← hr0] at c0 b0'
  rw [← hff] at cf bf' hf
  rw [← hss] at cs bs'
  rw [lW, lD]
  obtain ⟨p, hp⟩ : ∃ p, p = m + 1 := ⟨_, rfl⟩
  obtain ⟨n, hn⟩ : ∃ p, p = m + 2 := ⟨_, rfl⟩
  obtain ⟨n3, hn3⟩ : ∃ p, p = m + 3 := ⟨_, rfl⟩
  rw [← hn] at c2 ⊢
  rw [← hp] at c1 cf
  rw [← hn3]
  have i1 : (n : Int) - 1 = (p : Int) := by omega
  have i2 : (p : Int) - 1 = (m : Int) := by omega
  have i3 : (p : Int) + 1 = (n : Int) := by omega
  have j1 : (0 : Int) ≤ (p : Int) := by omega
  have j2 : (p : Int) < (n : Int) := by omega
  have j3 : (m : Int) < (n : Int) := by omega
  have j4 : (n : Int) < (n3 : Int) := by omega
  have j5 : (p : Int) < (n3 : Int) := by omega
  have j6 : (m : Int) < (n3 : Int) := by omega
  have j7 : (p : Int) ≤ 10001 := by omega
  have j8 : (0 : Int) ≤ (m : Int) := by omega
  have j9 : (0 : Int) ≤ (n : Int) := by omega
  have k1 : IntKind.i64.wrap ((p : Int) - 1) = (m : Int) := by rw [i2]; exact IntWalk.i64_in _ (by omega)
  have k2 : IntKind.i64.wrap ((p : Int) + 1) = (n : Int) := by rw [i3]; exact IntWalk.i64_in _ (by omega)
  have hn3' : n3 ≤ 10003 := by omega
  clear dx dy hcx hcy hcc hcc2 hr2 hr1 hr0 hff hss lW lD hE hp hn hn3 hm
  by_cases h1 : f ≤ r2
  · have e : E = 4294967295 := by rw [he, estQ, if_pos h1]
    subst e
    clear he
    go_enter Tryz.func129, Tryz.ntmps129
    go_wp2
    go_quiet (fail)
    go_wp2
    go_ret
    exact ⟨rfl, _, by go_simp; rfl⟩
  · have h1' : r2 < f := by omega
    obtain ⟨q, hq⟩ : ∃ q, q = (r2 * 4294967296 + r1) / f := ⟨_, rfl⟩
    obtain ⟨l, hl⟩ : ∃ q, q = (r2 * 4294967296 + r1) % f := ⟨_, rfl⟩
    have hq1 : q < 4294967296 := by
      rw [hq, Nat.div_lt_iff_lt_mul (by omega)]
      have : (r2 + 1) * 4294967296 ≤ f * 4294967296 := Nat.mul_le_mul_right _ h1'
      omega
    have hl1 : l < f := by rw [hl]; exact Nat.mod_lt _ (by omega)
    have HD := Lib.hid fun W => Bits.div32 r2 r1 f q l W b1' bf' h1' hq hl
    obtain ⟨h, hh⟩ : ∃ u, u = (q * s) / 4294967296 := ⟨_, rfl⟩
    obtain ⟨lo, hlo⟩ : ∃ u, u = (q * s) % 4294967296 := ⟨_, rfl⟩
    have HM := Lib.hid fun W => Bits.mul32 q s h lo W hq1 bs' hh hlo
    rw [estQ, if_neg h1, ← hq, ← hl] at he
    obtain ⟨t1, t2, t3⟩ := est_test (l := l) (r0 := r0) hh hlo b0'
    obtain ⟨T, hT⟩ : ∃ t, t = (l * 4294967296 + r0 < q * s) := ⟨_, rfl⟩
    have hh1 : h < 4294967296 := by
      rw [hh, Nat.div_lt_iff_lt_mul (by omega)]
      have : q * s ≤ 4294967295 * 4294967295 := Nat.mul_le_mul (by omega) (by omega)
      omega
    have hlo1 : lo < 4294967296 := by rw [hlo]; exact Nat.mod_lt _ (by omega)
    have hq0 : l * 4294967296 + r0 < q * s → 1 ≤ q := fun h => by
      rcases Nat.eq_zero_or_pos q with h0 | h0
      · rw [h0] at h; simp at h
      · exact h0
    clear hq hl hh hlo h1
    rcases Nat.lt_trichotomy l h with hc | hc | hc
    · have hTT := t1 hc
      rw [if_pos hTT] at he
      subst he
      have hq2 := hq0 hTT
      clear t1 t2 t3 hT hTT hq0
      go_enter Tryz.func129, Tryz.ntmps129
      go_wp2
      go_quiet (fail)
      go_wp2
      go_quiet ((go_at_call 114; exact quiet_add (HD.out _)))
      go_wp2_with (go_at_call 127; (with_reducible refine (HM.out _).mono ?_); rintro e w1 ⟨rfl, rfl⟩)
      go_ret
      exact ⟨ret_int (by omega), _, by go_simp; rfl⟩
    · subst hc
      by_cases hc2 : r0 < lo
      · have hTT := (t2 rfl).1 hc2
        rw [if_pos hTT] at he
        subst he
        have hq2 := hq0 hTT
        clear t1 t2 t3 hT hTT hq0
        go_enter Tryz.func129, Tryz.ntmps129
        go_wp2
        go_quiet (fail)
        go_wp2
        go_quiet ((go_at_call 114; exact quiet_add (HD.out _)))
        go_wp2_with (go_at_call 127; (with_reducible refine (HM.out _).mono ?_); rintro e w1 ⟨rfl, rfl⟩)
        go_ret
        exact ⟨ret_int (by omega), _, by go_simp; rfl⟩
      · have hTT : ¬ l * 4294967296 + r0 < q * s := fun h => hc2 ((t2 rfl).2 h)
        rw [if_neg hTT] at he
        subst he
        have hc3 : lo ≤ r0 := by omega
        clear t1 t2 t3 hT hTT hq0
        go_enter Tryz.func129, Tryz.ntmps129
        go_wp2
        go_quiet (fail)
        go_wp2
        go_quiet ((go_at_call 114; exact quiet_add (HD.out _)))
        go_wp2_with (go_at_call 127; (with_reducible refine (HM.out _).mono ?_); rintro e w1 ⟨rfl, rfl⟩)
        go_ret
        exact ⟨rfl, _, by go_simp; rfl⟩
    · have hTT := t3 hc
      rw [if_neg hTT] at he
      subst he
      have hc2 : h ≤ l := by omega
      have hc3 : ((h : Int) == (l : Int)) = false := by rw [beq_eq_false_iff_ne]; omega
      clear t1 t2 t3 hT hTT hq0
      go_enter Tryz.func129, Tryz.ntmps129
      go_wp2
      go_quiet (fail)
      go_wp2
      go_quiet ((go_at_call 114; exact quiet_add (HD.out _)))
      go_wp2_with (go_at_call 127; (with_reducible refine (HM.out _).mono ?_); rintro e w1 ⟨rfl, rfl⟩)
      go_ret
      exact ⟨rfl, _, by go_simp; rfl⟩
end Go.Proofs.YtbbemgeinlehmaaGreatDoor.Nat02

namespace Go.Proofs.YtbbemgeinlehmaaGreatDoor.Nat02
open Go.RowKit
set_option linter.unusedVariables false
open Go.Proofs.YtbbemgeinlehmaaGreatDoor.Dig

/-- what is left of a product that was taken away in its place; was it too much? -/
def RetSubT (g o n : Nat) (ds W D : List Nat) (d : Nat) (w : World) (e : Ending) (w' : World) : Prop :=
  ∃ (b : Nat) (outs : List Nat), e = .returned (.bool ((b : Int) != 0)) ∧ b ≤ 1 ∧ outs.length = n + 1 ∧ IsDig outs ∧ num outs + num D * d = num W + 4294967296 ^ (n + 1) * b ∧ Blk w' g (splice ds o outs) ∧ w.grownBy w' (some g)

set_option maxRecDepth 100000 in
set_option maxHeartbeats 4000000 in
theorem subTimes_any (g o n c : Nat) (vb : Value) (ds D : List Nat) (d : Nat) (w : World) (hg : Blk w g ds) (ho : o + (n + 1) ≤ ds.length) (hy : Row w vb D) (hf : Far g vb) (hn : D.length = n) (hl : ds.length ≤ 10000) (hd : d < 4294967296) :
    Calls Tryz.prog 130 #[.slice (some ⟨g, o, none⟩) (n + 1) c, vb, .int .u32 (d : Int)] w (RetSubT g o n ds ((ds.drop o).take (n + 1)) D d w) := by
  have hRW := hy
  obtain ⟨dy, B, cB, rfl, hcy, -⟩ := hy
  have HF := Lib.hid hf
  have HC := Lib.hid hcy
  have HD := Lib.hid (And.intro dy hg.dig)
  have HG := Lib.hid hg
  have HRW := Lib.hid hRW
  obtain ⟨L, hL⟩ : ∃ l, l = ds.length := ⟨_, rfl⟩
  rw [hn] at HF HRW ⊢
  rw [← hL] at ho hl
  obtain ⟨WW, hWW⟩ : ∃ l, l = (ds.drop o).take (n + 1) := ⟨_, rfl⟩
  have hWl : WW.length = n + 1 := by rw [hWW]; simp; omega
  have hWg : ∀ k, k < n + 1 → WW.getD k 0 = ds.getD (o + k) 0 := fun k hk => by rw [hWW]; exact drop_take_getD hk
  rw [← hWW]
  have HN := Lib.hid (And.intro hn (And.intro hL (And.intro hWl hWg)))
  have hn1 : n ≤ 10000 := by omega
  clear hf hcy dy hg hn hL hRW hWW hWl hWg
  go_enter Tryz.func130, Tryz.ntmps130
  go_wp2
  go_loopw [7, 8, 15] (fun cv bv i wr => ∃ (k t u : Nat) (outs : List Nat), k ≤ n ∧ i = .int .i64 k ∧ cv = .int .u32 t ∧ bv = .int .u32 u ∧ t < 4294967296 ∧ u ≤ 1 ∧ Hid (outs.length = k ∧ IsDig outs ∧ num outs + num (D.take k) * d = num (WW.take k) + 4294967296 ^ k * (t + u)) ∧ Hid (Blk wr g (splice ds o outs) ∧ w.grownBy wr (some g))) (fun _ _ i _ => n - (intOf i).toNat)
  case atStart => exact ⟨0, 0, 0, [], by omega, rfl, rfl, rfl, by omega, by omega, ⟨rfl, isDig_nil, by simp [num]⟩, by rw [splice_nil]; exact ⟨HG.out, only_refl _ _⟩⟩
  case round =>
    obtain ⟨k, t, u, outs, hk, rfl, rfl, rfl, ht, hu, hv, hb⟩ := hrel
    by_cases hlt : k < n
    · have hN := HN.out
      obtain ⟨b, o2, rfl, hcc⟩ := HC.out (by omega)
      have hcell := (HRW.out.grown HF.out hb.out.2).at_ hlt
      have hlen : (splice ds o outs).length = L := by rw [splice_len (by have := hv.out.1; omega)]; omega
      have g1 := hb.out.1.cell (i := o + k) (by omega)
      have g2 := hb.out.1.frozen (o + k)
      rw [splice_getD_ge (by have := hv.out.1; omega) (by omega)] at g1
      have hy1 := getD_lt HD.out.1 k
      have hx1 := getD_lt HD.out.2 (o + k)
      have hstep := subT_step (D := D) (d := d) hv.out.1 (by rw [hN.2.2.2 k (by omega)]; exact hx1) hu hv.out.2.2
      rw [hN.2.2.2 k (by omega)] at hstep
      obtain ⟨x, hx⟩ : ∃ d, d = ds.getD (o + k) 0 := ⟨_, rfl⟩
      obtain ⟨y, hy⟩ : ∃ d, d = D.getD k 0 := ⟨_, rfl⟩
      rw [← hx, ← hy] at hstep
      rw [← hx] at g1 hx1
      rw [← hy] at hcell hy1
      have hfit := timesPlus_fit hy1 hd ht (show 0 < 4294967296 by omega)
      obtain ⟨p, hp⟩ : ∃ p, p = y * d := ⟨_, rfl⟩
      obtain ⟨h, hh⟩ : ∃ s, s = y * d / 4294967296 := ⟨_, rfl⟩
      obtain ⟨l, hl2⟩ : ∃ s, s = y * d % 4294967296 := ⟨_, rfl⟩
      have HM := Lib.hid fun W => Bits.mul32 y d h l W hy1 hd hh hl2
      rw [← hp] at hstep hfit hh hl2
      obtain ⟨l2, hl3⟩ : ∃ s, s = (l + t) % 4294967296 := ⟨_, rfl⟩
      obtain ⟨t1, ht1⟩ : ∃ s, s = (l + t) / 4294967296 := ⟨_, rfl⟩
      have HA := Lib.hid fun W => Bits.add32z l t l2 t1 W (by omega) ht hl3 ht1
      obtain ⟨s, hs⟩ : ∃ s, s = (4294967296 + x - l2 - u) % 4294967296 := ⟨_, rfl⟩
      obtain ⟨u2, hu2⟩ : ∃ s, s = 1 - (4294967296 + x - l2 - u) / 4294967296 := ⟨_, rfl⟩
      have HS2 := Lib.hid fun W => Bits.sub32 x l2 u s u2 W hx1 (by omega) hu hs hu2
      have a1 : (p + t) % 4294967296 = l2 := by omega
      have a2 : (p + t) / 4294967296 = t1 + h := by omega
      rw [a1, a2, ← hs, ← hu2] at hstep
      have hs1 : s < 4294967296 := by omega
      have hu21 : u2 ≤ 1 := by omega
      have ht2 : t1 + h < 4294967296 := by omega
      have hset := hb.out.1.set (i := o + k) (d := s) (by omega) hs1
      have e1 := splice_set (ds := ds) (o := o) (d := s) (outs := outs) (by have := hv.out.1; omega)
      rw [hv.out.1] at e1
      rw [e1] at hset
      have HS := Lib.hid (And.intro hstep (And.intro hset (only_set (i := o + k) hb.out.2 (.int .u32 (s : Int)))))
      clear hcc hx hy hp hh hl2 hl3 ht1 hs hu2 a1 a2 hstep hlen hset e1 hN hfit
      go_wp2_with (first
        | (go_at_call 127; (with_reducible refine (HM.out _).mono ?_); rintro e w1 ⟨rfl, rfl⟩)
        | (go_at_call 93; (with_reducible refine (HA.out _).mono ?_); rintro e w1 ⟨rfl, rfl⟩)
        | (go_at_call 109; (with_reducible refine (HS2.out _).mono ?_); rintro e w1 ⟨rfl, rfl⟩))
      go_roundw
      case rel => exact ⟨k + 1, t1 + h, u2, outs ++ [s], by omega, by go_num, by go_num, rfl, ht2, hu21, ⟨by rw [List.length_append, hv.out.1]; rfl, isDig_snoc hv.out.2.1 hs1, HS.out.1⟩, ⟨HS.out.2.1, HS.out.2.2⟩⟩
      case measure => simp [intOf]; omega
    · obtain rfl : k = n := by omega
      have hN := HN.out
      have hlen : (splice ds o outs).length = L := by rw [splice_len (by have := hv.out.1; omega)]; omega
      have g1 := hb.out.1.cell (i := o + k) (by omega)
      have g2 := hb.out.1.frozen (o + k)
      rw [splice_getD_ge (by have := hv.out.1; omega) (by omega)] at g1
      have hx1 := getD_lt HD.out.2 (o + k)
      have hend := subT_end (d := d) hv.out.1 hN.2.2.1 hN.1 (by rw [hN.2.2.2 k (by omega)]; exact hx1) ht hu hv.out.2.2
      rw [hN.2.2.2 k (by omega)] at hend
      obtain ⟨x, hx⟩ : ∃ d, d = ds.getD (o + k) 0 := ⟨_, rfl⟩
      rw [← hx] at hend
      rw [← hx] at g1 hx1
      obtain ⟨s, hs⟩ : ∃ s, s = (4294967296 + x - t - u) % 4294967296 := ⟨_, rfl⟩
      obtain ⟨u2, hu2⟩ : ∃ s, s = 1 - (4294967296 + x - t - u) / 4294967296 := ⟨_, rfl⟩
      have HS2 := Lib.hid fun W => Bits.sub32 x t u s u2 W hx1 ht hu hs hu2
      rw [← hs, ← hu2] at hend
      have hs1 : s < 4294967296 := by omega
      have hu21 : u2 ≤ 1 := by omega
      have hset := hb.out.1.set (i := o + k) (d := s) (by omega) hs1
      have e1 := splice_set (ds := ds) (o := o) (d := s) (outs := outs) (by have := hv.out.1; omega)
      rw [hv.out.1] at e1
      rw [e1] at hset
      have HS := Lib.hid (And.intro hend (And.intro hset (only_set (i := o + k) hb.out.2 (.int .u32 (s : Int)))))
      clear hx hs hu2 hend hlen hset e1 hN
      go_wp2_with (go_at_call 109; (with_reducible refine (HS2.out _).mono ?_); rintro e w1 ⟨rfl, rfl⟩)
      go_ret
      exact ⟨u2, outs ++ [s], rfl, hu21, by rw [List.length_append, hv.out.1]; rfl, isDig_snoc hv.out.2.1 hs1, HS.out.1, HS.out.2.1, HS.out.2.2⟩

/-- what is added back in its place wraps round -/
def RetBack (g o n : Nat) (ds W D : List Nat) (w : World) (e : Ending) (w' : World) : Prop :=
  e = .returned (.tuple #[]) ∧ ∃ (c : Nat) (outs : List Nat), c ≤ 1 ∧ outs.length = n + 1 ∧ IsDig outs ∧ num outs + 4294967296 ^ (n + 1) * c = num W + num D ∧ Blk w' g (splice ds o outs) ∧ w.grownBy w' (some g)

set_option maxRecDepth 100000 in
set_option maxHeartbeats 4000000 in
theorem addBack_any (g o n c : Nat) (vb : Value) (ds D : List Nat) (w : World) (hg : Blk w g ds) (ho : o + (n + 1) ≤ ds.length) (hy : Row w vb D) (hf : Far g vb) (hn : D.length = n) (hl : ds.length ≤ 10000) :
    Calls Tryz.prog 131 #[.slice (some ⟨g, o, none⟩) (n + 1) c, vb] w (RetBack g o n ds ((ds.drop o).take (n + 1)) D w) := by
  have hRW := hy
  obtain ⟨dy, B, cB, rfl, hcy, -⟩ := hy
  have HF := Lib.hid hf
  have HC := Lib.hid hcy
  have HD := Lib.hid (And.intro dy hg.dig)
  have HG := Lib.hid hg
  have HRW := Lib.hid hRW
  obtain ⟨L, hL⟩ : ∃ l, l = ds.length := ⟨_, rfl⟩
  rw [hn] at HF HRW ⊢
  rw [← hL] at ho hl
  obtain ⟨WW, hWW⟩ : ∃ l, l = (ds.drop o).take (n + 1) := ⟨_, rfl⟩
  have hWl : WW.length = n + 1 := by rw [hWW]; simp; omega
  have hWg : ∀ k, k < n + 1 → WW.getD k 0 = ds.getD (o + k) 0 := fun k hk => by rw [hWW]; exact drop_take_getD hk
  rw [← hWW]
  have HN := Lib.hid (And.intro hn (And.intro hL (And.intro hWl hWg)))
  have hn1 : n ≤ 10000 := by omega
  clear hf hcy dy hg hn hL hRW hWW hWl hWg
  go_enter Tryz.func131, Tryz.ntmps131
  go_wp2
  go_loopw [4, 8] (fun cv i wr => ∃ (k t : Nat) (outs : List Nat), k ≤ n ∧ i = .int .i64 k ∧ cv = .int .u32 t ∧ t ≤ 1 ∧ Hid (outs.length = k ∧ IsDig outs ∧ num outs + 4294967296 ^ k * t = num (WW.take k) + num (D.take k)) ∧ Hid (Blk wr g (splice ds o outs) ∧ w.grownBy wr (some g))) (fun _ i _ => n - (intOf i).toNat)
  case atStart => exact ⟨0, 0, [], by omega, rfl, rfl, by omega, ⟨rfl, isDig_nil, by simp [num]⟩, by rw [splice_nil]; exact ⟨HG.out, only_refl _ _⟩⟩
  case round =>
    obtain ⟨k, t, outs, hk, rfl, rfl, ht, hv, hb⟩ := hrel
    by_cases hlt : k < n
    · have hN := HN.out
      obtain ⟨b, o2, rfl, hcc⟩ := HC.out (by omega)
      have hcell := (HRW.out.grown HF.out hb.out.2).at_ hlt
      have hlen : (splice ds o outs).length = L := by rw [splice_len (by have := hv.out.1; omega)]; omega
      have g1 := hb.out.1.cell (i := o + k) (by omega)
      have g2 := hb.out.1.frozen (o + k)
      rw [splice_getD_ge (by have := hv.out.1; omega) (by omega)] at g1
      have hy1 := getD_lt HD.out.1 k
      have hx1 := getD_lt HD.out.2 (o + k)
      have hstep := plus_step hv.out.1 hv.out.2.2
      rw [hN.2.2.2 k (by omega)] at hstep
      obtain ⟨x, hx⟩ : ∃ d, d = ds.getD (o + k) 0 := ⟨_, rfl⟩
      obtain ⟨y, hy⟩ : ∃ d, d = D.getD k 0 := ⟨_, rfl⟩
      rw [← hx, ← hy] at hstep
      rw [← hx] at g1 hx1
      rw [← hy] at hcell hy1
      obtain ⟨s, hs⟩ : ∃ s, s = (x + y + t) % 4294967296 := ⟨_, rfl⟩
      obtain ⟨t2, ht2⟩ : ∃ s, s = (x + y + t) / 4294967296 := ⟨_, rfl⟩
      have HA := Lib.hid fun W => Bits.add32 x y t s t2 W hx1 hy1 (by omega) hs ht2
      rw [← hs, ← ht2] at hstep
      have hs1 : s < 4294967296 := by omega
      have ht21 : t2 ≤ 1 := by omega
      have hset := hb.out.1.set (i := o + k) (d := s) (by omega) hs1
      have e1 := splice_set (ds := ds) (o := o) (d := s) (outs := outs) (by have := hv.out.1; omega)
      rw [hv.out.1] at e1
      rw [e1] at hset
      have HS := Lib.hid (And.intro hstep (And.intro hset (only_set (i := o + k) hb.out.2 (.int .u32 (s : Int)))))
      clear hcc hx hy hs ht2 hstep hlen hset e1 hN
      have i1 : (0 : Int) ≤ (k : Int) := by omega
      have i2 : (k : Int) < (n : Int) := by omega
      have i3 : (k : Int) < (n : Int) + 1 := by omega
      go_wp2
      go_region_with (first | (go_at_call 93; (with_reducible refine (HA.out _).mono ?_); rintro e w1 ⟨rfl, rfl⟩))
      all_goals
        go_wp2
        go_roundw
        case rel => exact ⟨k + 1, t2, outs ++ [s], by omega, by go_num, rfl, ht21, ⟨by rw [List.length_append, hv.out.1]; rfl, isDig_snoc hv.out.2.1 hs1, HS.out.1⟩, ⟨HS.out.2.1, only_drew HS.out.2.2⟩⟩
        case measure => simp [intOf]; omega
    · obtain rfl : k = n := by omega
      have hN := HN.out
      have hlen : (splice ds o outs).length = L := by rw [splice_len (by have := hv.out.1; omega)]; omega
      have g1 := hb.out.1.cell (i := o + k) (by omega)
      have g2 := hb.out.1.frozen (o + k)
      rw [splice_getD_ge (by have := hv.out.1; omega) (by omega)] at g1
      have hx1 := getD_lt HD.out.2 (o + k)
      have hend := addBack_end hv.out.1 hN.2.2.1 hN.1 hv.out.2.2
      rw [hN.2.2.2 k (by omega)] at hend
      obtain ⟨x, hx⟩ : ∃ d, d = ds.getD (o + k) 0 := ⟨_, rfl⟩
      rw [← hx] at hend
      rw [← hx] at g1 hx1
      obtain ⟨s, hs⟩ : ∃ s, s = (x + t) % 4294967296 := ⟨_, rfl⟩
      obtain ⟨u2, hu2⟩ : ∃ s, s = (x + t) / 4294967296 := ⟨_, rfl⟩
      have hsi : ((x : Int) + (t : Int)) % 4294967296 = (s : Int) := by omega
      rw [← hs, ← hu2] at hend
      have hs1 : s < 4294967296 := by omega
      have hu21 : u2 ≤ 1 := by omega
      have hset := hb.out.1.set (i := o + k) (d := s) (by omega) hs1
      have e1 := splice_set (ds := ds) (o := o) (d := s) (outs := outs) (by have := hv.out.1; omega)
      rw [hv.out.1] at e1
      rw [e1] at hset
      have HS := Lib.hid (And.intro hend (And.intro hset (only_set (i := o + k) hb.out.2 (.int .u32 (s : Int)))))
      clear hx hs hu2 hend hlen hset e1 hN
      go_wp2
      go_end0
      exact ⟨rfl, u2, outs ++ [s], hu21, by rw [List.length_append, hv.out.1]; rfl, isDig_snoc hv.out.2.1 hs1, HS.out.1, HS.out.2.1, HS.out.2.2⟩
end Go.Proofs.YtbbemgeinlehmaaGreatDoor.Nat02

namespace Go.Proofs.YtbbemgeinlehmaaGreatDoor.Nat02
open Go.RowKit
set_option linter.unusedVariables false
open Go.Proofs.YtbbemgeinlehmaaGreatDoor.Dig

theorem window_splice {ds outs : List Nat} {o n : Nat} (h : o + outs.length ≤ ds.length) (hn : outs.length = n) : ((splice ds o outs).drop o).take n = outs := by
  rw [drop_splice h, List.take_append_of_le_length (by omega), List.take_of_length_le (by omega)]
theorem splice_splice {ds a b : List Nat} {o : Nat} (h : o + a.length ≤ ds.length) (hn : a.length = b.length) : splice (splice ds o a) o b = splice ds o b := by
  unfold splice
  have e1 : (ds.take o ++ a ++ ds.drop (o + a.length)).take o = ds.take o := by
    rw [List.append_assoc, List.take_append_of_le_length (by simp; omega), List.take_take, Nat.min_self]
  have e2 : (ds.take o ++ a ++ ds.drop (o + a.length)).drop (o + b.length) = ds.drop (o + b.length) := by
    rw [List.drop_append_of_le_length (by simp; omega), ← hn, List.drop_of_length_le (by simp; omega), List.nil_append]
  rw [e1, e2]

/-- a digit of the quotient, and what is left, in its place -/
def RetStep (g o n : Nat) (ds W D : List Nat) (w : World) (e : Ending) (w' : World) : Prop :=
  ∃ outs : List Nat, e = .returned (.int .u32 ((num W / num D : Nat) : Int)) ∧ outs.length = n ∧ IsDig outs ∧ num outs = num W % num D ∧ Blk w' g (splice ds o outs) ∧ w.grownBy w' (some g)

set_option maxRecDepth 100000 in
set_option maxHeartbeats 4000000 in
theorem divideStep_any (g o m c : Nat) (vb : Value) (ds D : List Nat) (w : World) (hg : Blk w g ds) (ho : o + (m + 3) ≤ ds.length) (hy : Row w vb D) (hf : Far g vb) (lD : D.length = m + 2) (hl : ds.length ≤ 10000) (hc : m + 3 ≤ c)
    (ht : 2147483648 ≤ D.getD (m + 1) 0) (hlt : num ((ds.drop o).take (m + 3)) < num D * 4294967296) :
    Calls Tryz.prog 122 #[.slice (some ⟨g, o, none⟩) (m + 3) c, vb] w (RetStep g o (m + 3) ds ((ds.drop o).take (m + 3)) D w) := by
  have hWrow := hg.row (o := o) (n := m + 3) (c := c) ho hc
  obtain ⟨WW, hWW⟩ : ∃ l, l = (ds.drop o).take (m + 3) := ⟨_, rfl⟩
  have lW : WW.length = m + 3 := by rw [hWW]; simp; omega
  have dW : IsDig WW := by rw [hWW]; exact isDig_take (isDig_drop hg.dig o) _
  have hsub := fun (W : World) (h1 : Blk W g ds) (h2 : Row W vb D) => subTimes_any g o (m + 2) c vb ds D (estD WW D) W h1 ho h2 hf lD hl (estD_lt dW (by omega) (by rw [lD]; exact ht))
  rw [← hWW] at hWrow hlt hsub ⊢
  have hok := estD_ok dW hy.dig lD lW (by rw [lD]; exact ht) hlt
  have hp : 0 < num D := by
    rcases Nat.eq_zero_or_pos (num D) with h | h
    · rw [h] at hlt; simp at hlt
    · exact h
  have hDlt : num D < 4294967296 ^ (m + 2) := by have := num_lt hy.dig; rwa [lD] at this
  have hDlt2 : num D < 4294967296 ^ (m + 2 + 1) := Nat.lt_of_lt_of_le hDlt (Nat.pow_le_pow_right (by omega) (by omega))
  have hq1 : num WW / num D < 4294967296 := by rw [Nat.div_lt_iff_lt_mul hp, Nat.mul_comm]; exact hlt
  have hEst := Lib.hid fun (W : World) (h1 : Row W (.slice (some ⟨g, o, none⟩) (m + 3) c) WW) (h2 : Row W vb D) => estimate_any (.slice (some ⟨g, o, none⟩) (m + 3) c) vb WW D m W h1 h2 lW lD (by omega) ht
  have HS := Lib.hid hsub
  have HR := Lib.hid (And.intro hg (And.intro hy (And.intro hf hWrow)))
  have HP := Lib.hid (And.intro hp (And.intro hDlt2 (And.intro lD ho)))
  have HL := Lib.hid hl
  have hE3 := estD_lt (W := WW) (D := D) dW (by omega) (by rw [lD]; exact ht)
  obtain ⟨E, hE⟩ : ∃ e, e = estD WW D := ⟨_, rfl⟩
  rw [← hE] at hEst HS hok hE3
  obtain ⟨Q, hQ⟩ : ∃ e, e = num WW / num D := ⟨_, rfl⟩
  rw [← hQ] at hok hq1
  obtain ⟨ok1, ok2⟩ := hok
  have HQ := Lib.hid hQ
  have hkeep := Lib.hid fun (W : World) (n : Nat) (h : Blk W g ds) => And.intro (h.drewN n) (only_drewN (only_refl W g) n)
  have hfin : Hid (∀ (v : Value) (w' : World) (outs : List Nat), v = .int .u32 (Q : Int) → outs.length = m + 3 → IsDig outs → num outs = num WW % num D → Blk w' g (splice ds o outs) → w.grownBy w' (some g) → RetStep g o (m + 3) ds WW D w (.returned v) w') :=
    fun v w' outs h1 h2 h3 h4 h5 h6 => ⟨outs, by rw [h1, HQ.out], h2, h3, h4, h5, h6⟩
  clear hWrow hWW lW dW hsub hlt hg hy hf hp hDlt hDlt2 hE hQ lD ho hl ht
  by_cases hcase : E = Q
  · subst hcase
    clear ok1 ok2
    go_enter Tryz.func122, Tryz.ntmps122
    go_wp2_with (first
      | (go_at_call 129; (with_reducible refine (hEst.out _ HR.out.2.2.2 HR.out.2.1).mono ?_); rintro e w1 ⟨rfl, nn, rfl⟩)
      | (go_at_call 130; (with_reducible refine (HS.out _ (HR.out.1.drewN nn) (HR.out.2.1.since ((Since.refl w).drewN nn))).mono ?_); rintro e w2 ⟨b, outs, rfl, hb1, hlo, hdo, hvo, hbo, hgo⟩; obtain ⟨rfl, hnum⟩ := step_fine hlo hdo HQ.out hvo hb1; have HO := Lib.hid (And.intro hlo (And.intro hdo (And.intro hnum (And.intro hbo hgo)))); clear hlo hdo hvo hbo hgo hnum hb1))
    go_ret
    exact hfin.out _ _ outs rfl HO.out.1 HO.out.2.1 HO.out.2.2.1 HO.out.2.2.2.1 (only_trans (only_drewN (only_refl w g) nn) HO.out.2.2.2.2)
  · have HE := Lib.hid (show E = Q + 1 by omega)
    have hE1 : 1 ≤ E := by omega
    clear ok1 ok2 hcase
    go_enter Tryz.func122, Tryz.ntmps122
    go_wp2_with (first
      | (go_at_call 129; (with_reducible refine (hEst.out _ HR.out.2.2.2 HR.out.2.1).mono ?_); rintro e w1 ⟨rfl, nn, rfl⟩)
      | (go_at_call 130; (with_reducible refine (HS.out _ (HR.out.1.drewN nn) (HR.out.2.1.since ((Since.refl w).drewN nn))).mono ?_); rintro e w2 ⟨b, outs, rfl, hb1, hlo, hdo, hvo, hbo, hgo⟩; obtain ⟨rfl, hnum⟩ := step_back HP.out.1 HP.out.2.1 (by rw [HE.out, HQ.out]) hvo hb1; have HO := Lib.hid (And.intro hlo (And.intro hdo (And.intro hnum (And.intro hbo hgo)))); clear hlo hdo hvo hbo hgo hnum hb1)
      | (go_at_call 131; (with_reducible refine (addBack_any g o (m + 2) c vb (splice ds o outs) D _ HO.out.2.2.2.1 (by rw [splice_len (by rw [HO.out.1]; exact HP.out.2.2.2)]; exact HP.out.2.2.2) ((HR.out.2.1.since ((Since.refl w).drewN nn)).grown HR.out.2.2.1 HO.out.2.2.2.2) HR.out.2.2.1 HP.out.2.2.1 (by rw [splice_len (by rw [HO.out.1]; exact HP.out.2.2.2)]; exact HL.out)).mono ?_); rintro e w3 ⟨rfl, c2, outs2, hc2, hlo2, hdo2, hvo2, hbo2, hgo2⟩; have HO2 := Lib.hid (And.intro hc2 (And.intro hlo2 (And.intro hdo2 (And.intro hvo2 (And.intro hbo2 hgo2))))); clear hc2 hlo2 hdo2 hvo2 hbo2 hgo2))
    go_ret
    have hw := window_splice (ds := ds) (o := o) (outs := outs) (n := m + 2 + 1) (by rw [HO.out.1]; exact HP.out.2.2.2) HO.out.1
    have h4 := HO2.out.2.2.2.1
    rw [hw] at h4
    have hb2 := HO2.out.2.2.2.2.1
    rw [splice_splice (by rw [HO.out.1]; exact HP.out.2.2.2) (by rw [HO.out.1, HO2.out.2.1])] at hb2
    refine hfin.out _ _ outs2 (by have := HE.out; show Value.int _ _ = Value.int _ _; congr 1; omega) HO2.out.2.1 HO2.out.2.2.1 ?_ hb2 (only_trans (only_drewN (only_refl w g) nn) (only_trans HO.out.2.2.2.2 HO2.out.2.2.2.2.2))
    exact back_num (V := num D) HO2.out.2.1 HO2.out.2.2.1 (Nat.lt_trans (Nat.mod_lt _ HP.out.1) HP.out.2.1) HO.out.2.2.1 h4 HO2.out.1
end Go.Proofs.YtbbemgeinlehmaaGreatDoor.Nat02

namespace Go.Proofs.YtbbemgeinlehmaaGreatDoor.Nat02
open Go.RowKit
set_option linter.unusedVariables false
open Go.Proofs.YtbbemgeinlehmaaGreatDoor.Dig

theorem bit_lt {x : Nat} (h : x < 4294967296) : x < 2 ^ Lib.bitLen x ∧ Lib.bitLen x ≤ 32 := by
  have h32 := Lib.bitLen_le x 32 (by omega) h
  refine ⟨?_, h32⟩
  rcases Nat.lt_or_ge x (2 ^ Lib.bitLen x) with h1 | h1
  · exact h1
  · have := bitLen_ge x (Lib.bitLen x) (by omega) (by omega) h1; omega
theorem bit_ge {x : Nat} (h : x < 4294967296) (h0 : 0 < x) : 1 ≤ Lib.bitLen x ∧ 2 ^ (Lib.bitLen x - 1) ≤ x := by
  have h1 : 1 ≤ Lib.bitLen x := bitLen_ge x 0 (by omega) (by omega) (by simp; omega)
  refine ⟨h1, ?_⟩
  rcases Nat.lt_or_ge x (2 ^ (Lib.bitLen x - 1)) with h2 | h2
  · have h3 := Lib.bitLen_le x (Lib.bitLen x - 1) (by have := (bit_lt h).2; omega) h2; omega
  · exact h2
/-- shifted by its leading noughts the highest bit of a digit is set -/
theorem shift_top {x s : Nat} (h : x < 4294967296) (h0 : 0 < x) (hs : s = 32 - Lib.bitLen x) : s ≤ 31 ∧ 2147483648 ≤ x * 2 ^ s ∧ (x + 1) * 2 ^ s ≤ 4294967296 := by
  obtain ⟨a, b⟩ := bit_lt h
  obtain ⟨c, d⟩ := bit_ge h h0
  refine ⟨by omega, ?_, ?_⟩
  · have h1 : 2 ^ (Lib.bitLen x - 1) * 2 ^ s ≤ x * 2 ^ s := Nat.mul_le_mul_right _ d
    rw [← Nat.pow_add, show Lib.bitLen x - 1 + s = 31 by omega] at h1
    exact h1
  · have h1 : (x + 1) * 2 ^ s ≤ 2 ^ Lib.bitLen x * 2 ^ s := Nat.mul_le_mul_right _ a
    rw [← Nat.pow_add, show Lib.bitLen x + s = 32 by omega] at h1
    exact h1
/-- the divisor, shifted: its digits but the last one, which is nought -/
theorem divisor_ok {ys rs : List Nat} {n s : Nat} (dy : IsDig ys) (ly : ys.length = n + 1) (dr : IsDig rs) (lr : rs.length = n + 2) (hr : num rs = num ys * 2 ^ s) (h1 : 2147483648 ≤ ys.getD n 0 * 2 ^ s) (h2 : (ys.getD n 0 + 1) * 2 ^ s ≤ 4294967296) :
    num (rs.take (n + 1)) = num ys * 2 ^ s ∧ 2147483648 ≤ (rs.take (n + 1)).getD n 0 ∧ num ys * 2 ^ s ≤ 4294967296 ^ (n + 1) := by
  have hy := num_take_succ ys n
  rw [List.take_of_length_le (by omega : ys.length ≤ n + 1)] at hy
  have hyt := num_take_lt dy (j := n) (by omega)
  have hlt : num ys * 2 ^ s < 4294967296 ^ (n + 1) := by
    have a : num ys + 1 ≤ 4294967296 ^ n * (ys.getD n 0 + 1) := by rw [Nat.mul_add]; omega
    have b : (num ys + 1) * 2 ^ s ≤ 4294967296 ^ n * (ys.getD n 0 + 1) * 2 ^ s := Nat.mul_le_mul_right _ a
    have c : 4294967296 ^ n * ((ys.getD n 0 + 1) * 2 ^ s) ≤ 4294967296 ^ n * 4294967296 := Nat.mul_le_mul_left _ h2
    have d : 0 < 2 ^ s := Nat.pow_pos (by omega)
    have e : (num ys + 1) * 2 ^ s = num ys * 2 ^ s + 2 ^ s := by rw [Nat.add_mul, Nat.one_mul]
    rw [Nat.mul_assoc] at b
    rw [Nat.pow_succ]
    omega
  have hr2 := num_take_succ rs (n + 1)
  rw [List.take_of_length_le (by omega : rs.length ≤ n + 1 + 1)] at hr2
  have h0 : rs.getD (n + 1) 0 = 0 := by
    rcases Nat.eq_zero_or_pos (rs.getD (n + 1) 0) with h | h
    · exact h
    · have : 4294967296 ^ (n + 1) * 1 ≤ 4294967296 ^ (n + 1) * rs.getD (n + 1) 0 := Nat.mul_le_mul_left _ h
      omega
  rw [h0, Nat.mul_zero, Nat.add_zero, hr] at hr2
  refine ⟨hr2.symm, ?_, Nat.le_of_lt hlt⟩
  have ht := num_take_succ (rs.take (n + 1)) n
  rw [List.take_of_length_le (by simp; omega : (rs.take (n + 1)).length ≤ n + 1), ← hr2] at ht
  have htl := num_take_lt (isDig_take dr (n + 1)) (j := n) (by simp; omega)
  rcases Nat.lt_or_ge ((rs.take (n + 1)).getD n 0) 2147483648 with h | h
  · exfalso
    have a : 4294967296 ^ n * ((rs.take (n + 1)).getD n 0 + 1) ≤ 4294967296 ^ n * 2147483648 := Nat.mul_le_mul_left _ h
    have b : 4294967296 ^ n * 2147483648 ≤ 4294967296 ^ n * (ys.getD n 0 * 2 ^ s) := Nat.mul_le_mul_left _ h1
    have c : 4294967296 ^ n * (ys.getD n 0 * 2 ^ s) ≤ num ys * 2 ^ s := by
      rw [← Nat.mul_assoc]
      exact Nat.mul_le_mul_right _ (by omega)
    rw [Nat.mul_add] at a
    omega
  · exact h
theorem only_new {a w w' : World} {g g' : Nat} (h : a.grownBy w (some g)) (k : w.grownBy w' (some g')) (hg : a.heap.size ≤ g') : a.grownBy w' (some g) :=
  ⟨k.os.trans h.os, k.tape.trans h.tape, k.output.trans h.output, Nat.le_trans h.size k.size, fun i hi hn => (k.block i (Nat.lt_of_lt_of_le hi h.size) (fun e => by injection e; omega)).trans (h.block i hi hn)⟩

/-- what a long division leaves: the quotient in its place, and a new slice with the rest -/
def RetLong (gq m : Nat) (xs ys : List Nat) (w : World) (e : Ending) (w' : World) : Prop :=
  ∃ (g : Nat) (qs : List Nat), e = .returned (.slice (some ⟨g, 0, none⟩) (digs (num xs % num ys)).length (digs (num xs % num ys)).length) ∧
    Row w' (.slice (some ⟨g, 0, none⟩) (digs (num xs % num ys)).length (digs (num xs % num ys)).length) (digs (num xs % num ys)) ∧
    Blk w' gq qs ∧ qs.length = m ∧ num qs = num xs / num ys ∧ w.grownBy w' (some gq)

set_option maxRecDepth 100000 in
set_option maxHeartbeats 8000000 in
theorem divideLong_any (gq m r : Nat) (va vb : Value) (xs ys : List Nat) (w : World) (hq : Blk w gq (List.replicate m 0)) (hx : Row w va xs) (hy : Row w vb ys) (fx : Far gq va) (fy : Far gq vb) (lx : xs.length ≤ 1000)
    (ly : ys.length = r + 2) (ny : Norm ys) (hm : 1 ≤ m) (hm2 : m ≤ xs.length + 1 - (r + 2)) (hle : r + 2 ≤ xs.length) (hlt : num xs < num ys * 4294967296 ^ m) :
    Calls Tryz.prog 113 #[.slice (some ⟨gq, 0, none⟩) m m, va, vb] w (RetLong gq m xs ys w) := by
  have HX := Lib.hid hx
  have HY := Lib.hid hy
  have dy := hy.dig
  have hp := num_pos ny (by omega)
  obtain ⟨dx, A, cA, rfl, -, -⟩ := hx
  obtain ⟨_, B, cB, rfl, hcy, -⟩ := hy
  obtain ⟨b0, o0, rfl, hcc⟩ := hcy (by omega)
  have hcell := hcc (r + 1) (by omega)
  have ht1 := getD_lt dy (r + 1)
  have ht0 : 0 < ys.getD (r + 1) 0 := by
    rcases ny with h | h
    · omega
    · rw [ly, show r + 2 - 1 = r + 1 by omega] at h; omega
  obtain ⟨s, hs⟩ : ∃ s, s = 32 - Lib.bitLen (ys.getD (r + 1) 0) := ⟨_, rfl⟩
  obtain ⟨s31, sA, sB⟩ := shift_top ht1 ht0 hs
  have hz := fun W => Bits.zeros32 ((ys.getD (r + 1) 0 : Nat) : Int) W (by omega) (by omega)
  have hbl := (bit_lt ht1).2
  obtain ⟨t, htt⟩ : ∃ t, t = ys.getD (r + 1) 0 := ⟨_, rfl⟩
  rw [← htt] at hcell ht1 ht0 hs hbl
  have hz2 : ∀ W, Calls Tryz.prog 120 #[.int .u32 (t : Int)] W fun e w' => e = .returned (.int .i64 (s : Int)) ∧ W = w' := fun W => by
    have h := hz W
    rw [← htt, Int.toNat_natCast, show (32 - (Lib.bitLen t : Int)) = (s : Int) by omega] at h
    exact h.mono fun e w' ⟨a, b⟩ => ⟨a, b.symm⟩
  have HZ := Lib.hid hz2
  obtain ⟨L, hL⟩ : ∃ l, l = xs.length := ⟨_, rfl⟩
  obtain ⟨n, hn⟩ : ∃ n, n = r + 2 := ⟨_, rfl⟩
  have hU1 := fun (W : World) (h : Row W (.slice A L cA) xs) => shiftUp_any (.slice A L cA) xs s W h (by omega) s31
  have hU2 := fun (W : World) (h : Row W (.slice (some ⟨b0, o0, none⟩) n cB) ys) => shiftUp_any (.slice (some ⟨b0, o0, none⟩) n cB) ys s W h (by omega) s31
  have HU := Lib.hid (And.intro hU1 hU2)
  rw [← hL] at HX fx hle hm2 lx ⊢
  rw [ly, ← hn] at HY fy ⊢
  rw [← hn] at hle hm2
  have hn1 : (n : Int) - 1 = ((r + 1 : Nat) : Int) := by omega
  have hN := Lib.hid (And.intro hL (And.intro ly (And.intro hn (And.intro dy (And.intro sA sB)))))
  have HP := Lib.hid (And.intro hp (And.intro hlt (And.intro fx (And.intro fy hq))))
  have i1 : (0 : Int) ≤ (r : Int) + 1 := by omega
  have i2 : (r : Int) + 1 < (n : Int) := by omega
  have i3 : ((r : Int) + 1).toNat = r + 1 := by omega
  have hn2 : (n : Int) - 1 = (r : Int) + 1 := by omega
  have hn3 : n ≤ 1000 := by omega
  have hm3 : m ≤ 1000 := by omega
  clear hz hz2 hU1 hU2 hs ht1 ht0 hbl htt hcy hcc dx dy hp hlt fx fy hq ly hL hn ny sA sB hn1
  go_enter Tryz.func113, Tryz.ntmps113
  go_wp2_with (first
    | (go_at_call 120; (with_reducible refine (HZ.out _).mono ?_); rintro e w1 ⟨rfl, rfl⟩))
  refine (HU.out.1 _ HX.out).mono ?_
  rintro e w1 ⟨gr, R0, rfl, hg1, hb1, hl1, hv1, hs1⟩
  have H1 := Lib.hid (And.intro hg1 (And.intro hb1 (And.intro hl1 (And.intro hv1 hs1))))
  have e1 := hN.out.1
  have E1 := Lib.hid e1
  rw [← e1]
  clear e1 hg1 hb1 hl1 hv1 hs1
  go_wp2_with fail
  refine (HU.out.2 _ (HY.out.since H1.out.2.2.2.2)).mono ?_
  rintro e w2 ⟨gd, D0, rfl, hg2, hb2, hl2, hv2, hs2⟩
  have H2 := Lib.hid (And.intro hg2 (And.intro hb2 (And.intro hl2 (And.intro hv2 hs2))))
  have e2 : ys.length = n := by have h := hN.out; omega
  rw [e2]
  clear e2 hg2 hb2 hl2 hv2 hs2
  go_wp2_with fail
  have hLL := hN.out
  have hPP := HP.out
  have h1 := H1.out
  have h2 := H2.out
  have hgq := hPP.2.2.2.2.lt
  have hgr := h1.2.1.lt
  have hD := divisor_ok (ys := ys) (rs := D0) (n := r + 1) (s := s) hLL.2.2.2.1 hLL.2.1 h2.2.1.dig (by omega) h2.2.2.2.1 hLL.2.2.2.2.1 hLL.2.2.2.2.2
  rw [show r + 1 + 1 = n by omega] at hD
  obtain ⟨V, hV⟩ : ∃ v, v = num ys * 2 ^ s := ⟨_, rfl⟩
  obtain ⟨A2, hA2⟩ : ∃ v, v = num xs * 2 ^ s := ⟨_, rfl⟩
  rw [← hV] at hD
  have hVp : 0 < V := by rw [hV]; exact Nat.mul_pos hPP.1 (Nat.pow_pos (by omega))
  have hst : LongInv A2 V n L m m R0 [] := by
    refine long_start h1.2.1.dig (by omega) (by omega) (by rw [h1.2.2.2.1, hA2]) ?_
    rw [hA2, hV, Nat.mul_right_comm]
    exact Nat.mul_lt_mul_of_pos_right hPP.2.1 (Nat.pow_pos (by omega))
  have hqr : Row w2 (.slice (some ⟨gd, 0, none⟩) n (n + 1)) (D0.take n) := by
    have := h2.2.1.row (o := 0) (n := n) (c := n + 1) (by omega) (by omega)
    rwa [List.drop_zero] at this
  have hlD : (D0.take n).length = r + 2 := by simp; omega
  have hs12 := h1.2.2.2.2.trans h2.2.2.2.2
  have HG := Lib.hid (And.intro hst (And.intro (h1.2.1.since h2.2.2.2.2) (And.intro (hPP.2.2.2.2.since hs12) (And.intro h2.2.1 (only_of_since (g := gq) hs12)))))
  have HB := Lib.hid (And.intro (show gq ≠ gr by omega) (And.intro (show gd ≠ gr by omega) (And.intro (show gd ≠ gq by omega) (show w.heap.size ≤ gr by omega))))
  have HD := Lib.hid (And.intro hD (And.intro hVp (And.intro hlD (And.intro hV hA2))))
  clear hLL hPP h1 h2 hgq hgr hD hVp hst hqr hlD hs12 hV hA2
  go_loopw [10] (fun i wr => ∃ (k : Nat) (R qs : List Nat), k ≤ m ∧ i = .int .i64 ((k : Int) - 1) ∧ Hid (LongInv A2 V n L m k R qs) ∧ Hid (Blk wr gr R ∧ Blk wr gq (splice (List.replicate m 0) k qs) ∧ Blk wr gd D0 ∧ w.grownBy wr (some gq))) (fun i _ => (intOf i + 1).toNat)
  case atStart => exact ⟨m, R0, [], Nat.le_refl _, by go_num, HG.out.1, HG.out.2.1, by rw [splice_nil]; exact HG.out.2.2.1, HG.out.2.2.2.1, HG.out.2.2.2.2⟩
  case round =>
    clear HG
    obtain ⟨k, R, qs, hk, rfl, hv, hb⟩ := hrel
    rcases k with _ | j
    · obtain ⟨e1, e2, e3, e4⟩ := long_end hv.out
      have hdd := HD.out
      have hp2 := Nat.pow_pos (n := s) (show 0 < 2 by omega)
      rw [hdd.2.2.2.1, hdd.2.2.2.2] at e1 e2
      rw [Nat.mul_div_mul_right _ _ hp2] at e1
      rw [Nat.mul_mod_mul_right] at e2
      have hlen : R.length = L + 1 := hv.out.2.1
      have hb1 := hb.out.1
      have hbq : Blk wr gq qs := by
        have := hb.out.2.1
        have e5 : splice (List.replicate m 0) 0 qs = qs := splice_zero_end e4
        rwa [e5] at this
      have HSD := Lib.hid fun (W : World) (h : Blk W gr R) => shiftDown_any gr R s W h (by omega) s31
      rw [hlen] at HSD
      have HE := Lib.hid (And.intro e1 (And.intro e2 (And.intro e4 (And.intro hlen (And.intro hb1 (And.intro hbq hb.out.2.2.2))))))
      clear e1 e2 e3 e4 hdd hp2 hlen hb1 hbq
      go_wp2_with fail
      refine (HSD.out _ HE.out.2.2.2.2.1).mono ?_
      rintro e w3 ⟨rfl, rs, hrl, hrn, hrb, hrg⟩
      have hrn2 : num rs = num xs % num ys := by
        rw [hrn, HE.out.2.1, Nat.mul_div_cancel _ (Nat.pow_pos (by omega))]
      have hrow := hrb.row_all (c := L + 1) hrl (Nat.le_refl _)
      have hsig := sig_le hrb.dig
      have htk := take_sig hrb.dig
      have hbq3 := HE.out.2.2.2.2.2.1.grown hrg (by intro h; injection h with h; exact HB.out.1 h)
      have hon3 := only_new HE.out.2.2.2.2.2.2 hrg HB.out.2.2.2
      have hsl : (rs.take (sig rs)).length = sig rs := by simp; omega
      obtain ⟨S, hS⟩ : ∃ s, s = sig rs := ⟨_, rfl⟩
      rw [← hS] at hsl htk hsig
      have HR := Lib.hid (And.intro hrow (And.intro hrn2 (And.intro htk (And.intro hbq3 (And.intro hon3 (And.intro hsl (And.intro hrl (And.intro hS hsig))))))))
      clear hrl hrn hrb hrg hrn2 hrow hsig htk hbq3 hon3 hsl hS
      go_wp2_with fail
      refine (significant_any (.slice (some ⟨gr, 0, none⟩) (L + 1) (L + 1)) rs _ HR.out.1 (by have := HR.out.2.2.2.2.2.2.1; omega)).mono ?_
      rw [← HR.out.2.2.2.2.2.2.2.1]
      rintro e w4 ⟨rfl, rfl⟩
      go_wp2_with fail
      refine (clone_any (.slice (some ⟨gr, 0, none⟩) (L + 1) (L + 1)) rs S _ HR.out.1 HR.out.2.2.2.2.2.2.2.2 (by have := HR.out.2.2.2.2.2.2.1; omega)).mono ?_
      rintro e w5 ⟨g5, rfl, hg5, hb5, hs5⟩
      rw [HR.out.2.2.2.2.2.1]
      have hfin : RetLong gq m xs ys w (.returned (.slice (some ⟨g5, 0, none⟩) S S)) w5 := by
        have hr := HR.out
        have e5 : digs (num xs % num ys) = rs.take S := by rw [← hr.2.1]; exact hr.2.2.1
        refine ⟨g5, qs, by rw [e5, hr.2.2.2.2.2.1], by rw [e5, hr.2.2.2.2.2.1]; exact hb5.row_all hr.2.2.2.2.2.1 (Nat.le_refl _), hr.2.2.2.1.since hs5, HE.out.2.2.1, HE.out.1, only_trans hr.2.2.2.2.1 (only_of_since hs5)⟩
      have HF := Lib.hid hfin
      clear hfin hg5 hb5 hs5
      go_wp2_with fail
      go_ret
      exact HF.out
    · have e : ((j + 1 : Nat) : Int) - 1 = (j : Int) := by omega
      rw [e]
      clear e
      have hdd := HD.out
      have hLL := hN.out
      have hlen : R.length = L + 1 := hv.out.2.1
      have hwlt := window_lt hv.out.1 hv.out.2.2.2.2.2 hdd.1.2.2 (by omega)
      have hrowD : Row wr (.slice (some ⟨gd, 0, none⟩) n (n + 1)) (D0.take n) := by
        have hl0 : D0.length = n + 1 := by have := H2.out.2.2.1; omega
        have := hb.out.2.2.1.row (o := 0) (n := n) (c := n + 1) (by omega) (by omega)
        rwa [List.drop_zero] at this
      have hstep := divideStep_any gr j r (L + 1 - j) (.slice (some ⟨gd, 0, none⟩) n (n + 1)) R (D0.take n) wr hb.out.1 (by omega) hrowD (Far.blk HB.out.2.1) hdd.2.2.1 (by omega) (by omega) hdd.1.2.1 (by rw [hdd.1.1, show r + 3 = n + 1 by omega]; exact hwlt)
      rw [show r + 3 = n + 1 by omega] at hstep
      have HST := Lib.hid hstep
      have hjm : j < m := by omega
      have hqlen : (splice (List.replicate m 0) (j + 1) qs).length = m := by rw [splice_len (by have := hv.out.2.2.2.1; simp; omega)]; simp
      have j1 : (0 : Int) ≤ (j : Int) := by omega
      have j2 : (j : Int) + (n : Int) + 1 ≤ (L : Int) + 1 := by omega
      have j3 : L + 1 ≠ j := by omega
      have j4 : j + n + 1 - j = n + 1 := by omega
      have j5 : ((j : Int) + (n : Int) + 1).toNat = j + n + 1 := by omega
      have j6 : (j : Int) ≤ (j : Int) + (n : Int) + 1 := by omega
      have HQ := Lib.hid (And.intro hqlen hlen)
      clear hdd hLL hlen hwlt hrowD hstep hqlen
      go_wp2_with fail
      refine HST.out.mono ?_
      rintro e w4 ⟨O, rfl, hO1, hO2, hO3, hO4, hO5⟩
      have hqn : num ((R.drop j).take (n + 1)) / num (D0.take n) < 4294967296 := by
        rw [HD.out.1.1, Nat.div_lt_iff_lt_mul HD.out.2.1, Nat.mul_comm]
        exact window_lt hv.out.1 hv.out.2.2.2.2.2 HD.out.1.2.2 (by have := HQ.out; omega)
      have hnext := long_step (q := num ((R.drop j).take (n + 1)) / num (D0.take n)) hv.out HD.out.1.2.2 (by omega) hO1 hO2 (by rw [hO3, HD.out.1.1]) (by rw [HD.out.1.1]) hqn HD.out.2.1
      obtain ⟨q, hq⟩ : ∃ q, q = num ((R.drop j).take (n + 1)) / num (D0.take n) := ⟨_, rfl⟩
      rw [← hq] at hqn hnext ⊢
      have hbq4 := hb.out.2.1.grown hO5 (by intro h; injection h with h; exact HB.out.1 h)
      have hbd4 := hb.out.2.2.1.grown hO5 (by intro h; injection h with h; exact HB.out.2.1 h)
      have hon4 := only_new hb.out.2.2.2 hO5 HB.out.2.2.2
      have f1 := hbq4.cell (i := j) (by have := HQ.out; omega)
      have f2 := hbq4.frozen j
      have hbq5 := hbq4.set (i := j) (d := q) (by have := HQ.out; omega) hqn
      rw [splice_set_down (by simp; omega)] at hbq5
      have hr5 := hO4.setOther (a := ⟨gq, j, none⟩) (by exact fun h => HB.out.1 h.symm) (.int .u32 (q : Int))
      have hd5 := hbd4.setOther (a := ⟨gq, j, none⟩) (by exact HB.out.2.2.1) (.int .u32 (q : Int))
      have hon5 := only_set (i := j) hon4 (.int .u32 (q : Int))
      obtain ⟨z, hz⟩ : ∃ z, z = (splice (List.replicate m 0) (j + 1) qs).getD j 0 := ⟨_, rfl⟩
      rw [← hz] at f1
      have HX5 := Lib.hid (And.intro hnext (And.intro hr5 (And.intro hbq5 (And.intro hd5 hon5))))
      clear hO1 hO2 hO3 hO4 hO5 hnext hq hbq4 hbd4 hon4 hbq5 hr5 hd5 hon5 hz
      go_wp2_with fail
      go_roundw
      case rel => exact ⟨j, splice R j O, q :: qs, by omega, rfl, HX5.out.1, HX5.out.2.1, HX5.out.2.2.1, HX5.out.2.2.2.1, HX5.out.2.2.2.2⟩
      case measure => simp [intOf] <;> omega
end Go.Proofs.YtbbemgeinlehmaaGreatDoor.Nat02

namespace Go.Proofs.YtbbemgeinlehmaaGreatDoor.Nat02
open Go.RowKit
set_option linter.unusedVariables false
open Go.Proofs.YtbbemgeinlehmaaGreatDoor.Dig

/-- what DivMod hands back -/
def RetDM (Q R : List Nat) (x : Int) (w : World) (e : Ending) (w' : World) : Prop := ∃ v1 v2, e = .returned (.tuple #[v1, v2, .int .i64 x]) ∧ Row w' v1 Q ∧ Row w' v2 R ∧ Since w w'
theorem cmpL_neg {xs ys : List Nat} (hx : IsDig xs) (hy : IsDig ys) (nx : Norm xs) (ny : Norm ys) (h : ¬ num xs < num ys) : 0 ≤ cmpL xs ys := by
  rcases Int.lt_or_le (cmpL xs ys) 0 with h1 | h1
  · exact absurd ((cmpL_lt hx hy nx ny).1 h1) h
  · exact h1
theorem qlen_one {xs ys : List Nat} (hx : IsDig xs) (hy : IsDig ys) (h1 : ys.length = 1 ∧ 1 ≤ xs.length) (h : qlen xs ys = xs.length - ys.length) : xs.getD (qlen xs ys) 0 < num ys := by
  have hc : cmpL (xs.drop (xs.length - ys.length)) ys < 0 := by
    unfold qlen at h
    split at h
    · omega
    · omega
  rw [h]
  have hlen : (xs.drop (xs.length - ys.length)).length = ys.length := by simp; omega
  unfold cmpL at hc
  rw [hlen, if_neg (by omega), if_neg (by omega)] at hc
  split at hc
  · rename_i hlt
    have := num_drop xs (xs.length - ys.length)
    omega
  · split at hc <;> simp at hc
theorem reads_far {g o n b p nx c : Nat} {ds xs : List Nat} {w : World} (h : Row w (.slice (some ⟨b, p, none⟩) nx c) xs) (hf : Far g (.slice (some ⟨b, p, none⟩) nx c)) (hn : n ≤ nx) : Reads g o n ds xs (some ⟨b, p, none⟩) w :=
  fun wr k outs h1 h2 h3 i hi => ⟨b, p, rfl, (h.grown hf h3).at_ (by omega)⟩

set_option maxRecDepth 100000 in
set_option maxHeartbeats 8000000 in
theorem divmod_good (vx vy : Value) (xs ys : List Nat) (w : World) (hx : Row w vx xs) (hy : Row w vy ys) (rx : rightB xs = true) (ry : rightB ys = true) (h0 : ys.length ≠ 0) :
    Calls Tryz.prog 95 #[vx, vy] w (RetDM (digs (num xs / num ys)) (digs (num xs % num ys)) 0 w) := by
  have HX := Lib.hid hx
  have HY := Lib.hid hy
  have nx := right_norm rx
  have ny := right_norm ry
  have dx := hx.dig
  have dy := hy.dig
  have hp := num_pos ny.2 h0
  have hfar := fun (g : Nat) (hg : w.heap.size ≤ g) => And.intro (Far.of hx hg) (Far.of hy hg)
  obtain ⟨_, A, cA, rfl, hcx, -⟩ := hx
  obtain ⟨_, B, cB, rfl, hcy, -⟩ := hy
  obtain ⟨b0, o0, rfl, hcc⟩ := hcy (by omega)
  have hcy0 := hcc 0 (by omega)
  rw [Nat.add_zero] at hcy0
  have HR := Lib.hid (And.intro rx (And.intro ry (And.intro nx ny)))
  have HD := Lib.hid (And.intro dx (And.intro dy hp))
  obtain ⟨n, hn⟩ : ∃ n, n = xs.length := ⟨_, rfl⟩
  obtain ⟨m, hm⟩ : ∃ n, n = ys.length := ⟨_, rfl⟩
  have hn1 : n ≤ 256 := by omega
  have hm1 : m ≤ 256 := by omega
  rw [← hn, ← hm] at hfar
  have HFAR := Lib.hid hfar
  rw [← hm] at h0
  have hmz : ((m : Int) == 0) = false := by rw [beq_eq_false_iff_ne]; omega
  rw [← hn] at HX ⊢
  rw [← hm] at HY ⊢
  have HN := Lib.hid (And.intro hn (And.intro hm h0))
  have HCM := Lib.hid fun (W : World) (h1 : Row W (.slice A n cA) xs) (h2 : Row W (.slice (some ⟨b0, o0, none⟩) m cB) ys) => compare_any (.slice A n cA) (.slice (some ⟨b0, o0, none⟩) m cB) xs ys W h1 h2 (by omega) (by omega)
  obtain ⟨C, hC⟩ : ∃ c, c = cmpL xs ys := ⟨_, rfl⟩
  have hlt := cmpL_lt dx dy nx.2 ny.2
  rw [← hC] at HCM hlt
  clear hcx hcy hcc dx dy nx ny hn hm rx ry hp hfar hC h0
  by_cases hless : num xs < num ys
  · have hC2 : C < 0 := hlt.2 hless
    have e1 : num xs / num ys = 0 := Nat.div_eq_of_lt hless
    have e2 : digs (num xs % num ys) = xs := by rw [Nat.mod_eq_of_lt hless]; exact digs_num HD.out.1 HR.out.2.2.1.2
    rw [e1, e2, digs_zero]
    have hcl := fun (W : World) (h1 : Row W (.slice A n cA) xs) => clone_any (.slice A n cA) xs n W h1 (by have := HN.out; omega) (by have := HN.out; omega)
    rw [show xs.take n = xs by rw [List.take_of_length_le (by have := HN.out; omega)]] at hcl
    have HCL := Lib.hid hcl
    clear e1 e2 hlt hless hcl
    go_enter Tryz.func95, Tryz.ntmps95
    go_wp2_with (first
      | (go_at_call 88; (with_reducible refine (right_yes (.slice A n cA) xs _ HX.out (by have := HN.out; omega)).mono ?_); rw [HR.out.1]; rintro e w1 ⟨rfl, rfl⟩)
      | (go_at_call 88; (with_reducible refine (right_yes (.slice (some ⟨b0, o0, none⟩) m cB) ys _ HY.out (by have := HN.out; omega)).mono ?_); rw [HR.out.2.1]; rintro e w1 ⟨rfl, rfl⟩)
      | (go_at_call 100; (with_reducible refine (HCM.out _ HX.out HY.out).mono ?_); rintro e w1 ⟨rfl, nn, rfl⟩)
      | (go_at_call 102; (with_reducible refine (HCL.out _ (HX.out.since ((Since.refl w).drewN nn))).mono ?_); rintro e w2 ⟨g2, rfl, hg2, hb2, hs2⟩))
    go_ret3
    exact ⟨_, _, rfl, Row.nil _, hb2.row_all rfl (Nat.le_refl _), ((Since.refl w).drewN nn).trans hs2⟩
  · have hC2 : 0 ≤ C := by
      rcases Int.lt_or_le C 0 with h1 | h1
      · exact absurd (hlt.1 h1) hless
      · exact h1
    have hle : num ys ≤ num xs := by omega
    have hml : m ≤ n := by have := HN.out; have := norm_len_le HD.out.1 HR.out.2.2.2.2 hle; omega
    clear hlt hless
    by_cases h2 : n ≤ 2
    · have hx64 : num xs < 18446744073709551616 := by
        have h1 := num_lt HD.out.1
        have h3 := Nat.pow_le_pow_right (n := 4294967296) (by omega) (show xs.length ≤ 2 by have := HN.out; omega)
        omega
      have HV := Lib.hid (And.intro (fun (W : World) (h1 : Row W (.slice A n cA) xs) => value_any (.slice A n cA) xs W h1 (by have := HN.out; omega)) (fun (W : World) (h1 : Row W (.slice (some ⟨b0, o0, none⟩) m cB) ys) => value_any (.slice (some ⟨b0, o0, none⟩) m cB) ys W h1 (by have := HN.out; omega)))
      obtain ⟨X, hX⟩ : ∃ x, x = num xs := ⟨_, rfl⟩
      obtain ⟨Y, hY⟩ : ∃ x, x = num ys := ⟨_, rfl⟩
      have hYp : 0 < Y := by have := HD.out.2.2; omega
      rw [← hX] at hx64 hle ⊢
      rw [← hY] at hle ⊢
      simp only [← hX, ← hY] at HV
      obtain ⟨q, hq⟩ : ∃ q, q = X / Y := ⟨_, rfl⟩
      obtain ⟨r, hr⟩ : ∃ q, q = X % Y := ⟨_, rfl⟩
      have hqi : (X : Int) / (Y : Int) = (q : Int) := by rw [hq]; simp
      have hri : (X : Int) % (Y : Int) = (r : Int) := by rw [hr]; simp
      have hq1 : q ≤ X := by rw [hq]; exact Nat.div_le_self _ _
      have hr1 : r ≤ X := by rw [hr]; exact Nat.mod_le _ _
      rw [← hq, ← hr]
      have HOF := Lib.hid (And.intro (fun W => of_new q W (by omega)) (fun W => of_new r W (by omega)))
      have hqw : IntKind.u64.wrap (q : Int) = (q : Int) := IntWalk.u64_in _ (by omega)
      have hrw : IntKind.u64.wrap (r : Int) = (r : Int) := IntWalk.u64_in _ (by omega)
      clear hX hY hq hr
      go_enter Tryz.func95, Tryz.ntmps95
      go_wp2_with (first
        | (go_at_call 88; (with_reducible refine (right_yes (.slice A n cA) xs _ HX.out (by have := HN.out; omega)).mono ?_); rw [HR.out.1]; rintro e w1 ⟨rfl, rfl⟩)
        | (go_at_call 88; (with_reducible refine (right_yes (.slice (some ⟨b0, o0, none⟩) m cB) ys _ HY.out (by have := HN.out; omega)).mono ?_); rw [HR.out.2.1]; rintro e w1 ⟨rfl, rfl⟩)
        | (go_at_call 100; (with_reducible refine (HCM.out _ HX.out HY.out).mono ?_); rintro e w1 ⟨rfl, nn, rfl⟩))
      have s0 : Since w (w.drewN nn) := (Since.refl w).drewN nn
      refine (HV.out.1 _ (HX.out.since s0)).mono ?_
      rintro e w2 ⟨rfl, rfl⟩
      go_wp2_with fail
      refine (HV.out.2 _ (HY.out.since s0)).mono ?_
      rintro e w2 ⟨rfl, rfl⟩
      go_wp2_with fail
      refine (HOF.out.1 _).mono ?_
      rintro e w3 ⟨g3, rfl, hg3, hb3, hs3⟩
      have s3 := s0.trans hs3
      go_wp2_with fail
      refine (HV.out.1 _ (HX.out.since s3)).mono ?_
      rintro e w2 ⟨rfl, rfl⟩
      go_wp2_with fail
      refine (HV.out.2 _ (HY.out.since s3)).mono ?_
      rintro e w2 ⟨rfl, rfl⟩
      go_wp2_with fail
      refine (HOF.out.2 _).mono ?_
      rintro e w4 ⟨g4, rfl, hg4, hb4, hs4⟩
      have hfin := And.intro ((hb3.since hs4).row_all (c := (digs q).length) rfl (Nat.le_refl _)) (And.intro (hb4.row_all (c := (digs r).length) rfl (Nat.le_refl _)) (s3.trans hs4))
      have HF := Lib.hid hfin
      clear hfin hg3 hb3 hs3 hg4 hb4 hs4 s0 s3
      go_wp2_with fail
      go_ret3
      exact ⟨_, _, rfl, HF.out.1, HF.out.2.1, HF.out.2.2⟩
    · have h2' : 2 < n := by omega
      obtain ⟨q1, q2, q3, q4, q5⟩ := qlen_ok HD.out.1 HD.out.2.1 HR.out.2.2.1.2 HR.out.2.2.2.2 (by have := HN.out; omega) hle
      have hqn := fun (qs : List Nat) (h1 : num qs = num xs / num ys) (h2 : IsDig qs) (h3 : qs.length = qlen xs ys) => quot_norm (m := qlen xs ys) HD.out.2.2 h1 h2 h3 q4
      have h1d := qlen_one HD.out.1 HD.out.2.1 (xs := xs) (ys := ys)
      have hQL := fun (W : World) (h1 : Row W (.slice A n cA) xs) (h2 : Row W (.slice (some ⟨b0, o0, none⟩) m cB) ys) => quotientLength_any (.slice A n cA) (.slice (some ⟨b0, o0, none⟩) m cB) xs ys W h1 h2 (by have := HN.out; omega) (by have := HN.out; omega) (by have := HN.out; omega)
      obtain ⟨Q, hQ⟩ : ∃ q, q = qlen xs ys := ⟨_, rfl⟩
      rw [← hQ] at q1 q2 q3 q4 q5 hqn h1d hQL
      have hQ257 : Q ≤ 257 := by have := HN.out; omega
      have hmk := make_digits Q (by omega)
      have HQ := Lib.hid (And.intro q1 (And.intro q2 (And.intro q3 (And.intro q5 (And.intro hqn h1d)))))
      have HQL := Lib.hid hQL
      clear q1 q2 q3 q4 q5 hqn h1d hQL hQ h2
      obtain ⟨bA, oA, rfl⟩ : ∃ b o, A = some ⟨b, o, none⟩ := by
        obtain ⟨_, A', c', e, hc, _⟩ := HX.out
        injection e with e1 e2 e3
        obtain ⟨b, o, e4, _⟩ := hc (by omega)
        exact ⟨b, o, by rw [e1, e4]⟩
      by_cases hm1 : m = 1
      · have hone : ((m : Int) == 1) = true := by rw [beq_iff_eq]; omega
        have hNN := HN.out
        obtain ⟨d, hd⟩ : ∃ d, d = ys.getD 0 0 := ⟨_, rfl⟩
        rw [← hd] at hcy0
        have hnumd : num ys = d := by
          have h1 := num_take_succ ys 0
          rw [List.take_of_length_le (by omega : ys.length ≤ 0 + 1)] at h1
          rw [h1, hd]; simp [num]
        have hd1 : d < 4294967296 := by rw [hd]; exact getD_lt HD.out.2.1 0
        have hd0 : 0 < d := by have := HD.out.2.2; omega
        have hcond : Q = xs.length ∨ (Q + 1 = xs.length ∧ xs.getD Q 0 < d) := by
          rcases HQ.out.2.2.2.1 with h | h
          · right
            exact ⟨by omega, by rw [← hnumd]; exact HQ.out.2.2.2.2.2 (by omega) h⟩
          · left; omega
        have HB := Lib.hid (And.intro hnumd (And.intro hd1 (And.intro hd0 hcond)))
        have HBY : Hid (∀ (W : World) (g : Nat), Row W (.slice (some ⟨bA, oA, none⟩) n cA) xs → Blk W g (List.replicate Q 0) → Far g (.slice (some ⟨bA, oA, none⟩) n cA) → Calls Tryz.prog 103 #[.slice (some ⟨g, 0, none⟩) Q Q, .slice (some ⟨bA, oA, none⟩) n cA, .int .u32 (d : Int)] W (RetDiv g 0 Q (List.replicate Q 0) xs d W)) := fun W g h1 h2 h3 => by
          have hh := byDigit_any g 0 Q Q (some ⟨bA, oA, none⟩) cA (List.replicate Q 0) xs d W h2 (by simp) (by simp; omega) (by omega) (by rw [← HN.out.1]; exact h1) hcond hd0 hd1 (reads_far h1 h3 (by have := HQ.out; omega))
          rw [← HN.out.1] at hh
          exact hh
        have s1 : ∀ k (c : Array Value) (e : TypeId), Since w ((w.drewN k).alloc (.cells c e)) := fun k c e => ((Since.refl w).drewN k).alloc _
        have hm0 : 0 < m := by omega
        have hcW : ∀ (k : Nat) (c : Array Value) (e : TypeId), ((w.drewN k).alloc (.cells c e)).cell? ⟨b0, o0, none⟩ = some (.int .u32 (d : Int)) := fun k c e => (Below.cell (s1 k c e) (World.block_lt_of_cell? _ _ hcy0)).trans hcy0
        clear hNN hd hnumd hcond hm1
        go_enter Tryz.func95, Tryz.ntmps95
        go_wp2_with (first
          | (go_at_call 88; (with_reducible refine (right_yes (.slice (some ⟨bA, oA, none⟩) n cA) xs _ HX.out (by have := HN.out; omega)).mono ?_); rw [HR.out.1]; rintro e w1 ⟨rfl, rfl⟩)
          | (go_at_call 88; (with_reducible refine (right_yes (.slice (some ⟨b0, o0, none⟩) m cB) ys _ HY.out (by have := HN.out; omega)).mono ?_); rw [HR.out.2.1]; rintro e w1 ⟨rfl, rfl⟩)
          | (go_at_call 100; (with_reducible refine (HCM.out _ HX.out HY.out).mono ?_); rintro e w1 ⟨rfl, nn, rfl⟩)
          | (go_at_call 112; (with_reducible refine (HQL.out _ (HX.out.since ((Since.refl w).drewN nn)) (HY.out.since ((Since.refl w).drewN nn))).mono ?_); rintro e w2 ⟨rfl, n2, rfl⟩))
        refine (HBY.out _ w.heap.size (HX.out.since (s1 _ _ _)) (Blk.made (w.drewN _) Q) (HFAR.out w.heap.size (Nat.le_refl _)).1).mono ?_
        rintro e w3 ⟨outs, rfl, ho1, ho2, ho3, ho4, ho5⟩
        have e5 : splice (List.replicate Q 0) 0 outs = outs := splice_zero_end ho1
        rw [e5] at ho4
        have hs3 := only_since (s1 _ _ _) ho5 (Nat.le_refl _)
        obtain ⟨r, hr⟩ : ∃ r, r = num xs % d := ⟨_, rfl⟩
        rw [← hr]
        have hr1 : r < 18446744073709551616 := by
          have := Nat.mod_lt (num xs) HB.out.2.2.1
          have := HB.out.2.1
          omega
        have hdq : digs (num xs / num ys) = outs := HQ.out.2.2.2.2.1 outs (by rw [HB.out.1]; exact ho3) ho2 ho1
        have hdr : num xs % num ys = r := by rw [HB.out.1, hr]
        have HO := Lib.hid (And.intro ho4 (And.intro hs3 (And.intro hdq (And.intro hdr ho1))))
        clear ho1 ho2 ho3 ho4 ho5 e5 hs3 hdq hdr hr
        go_wp2_with (go_at_call 68; (with_reducible refine (of_new r _ hr1).mono ?_); rintro e w4 ⟨g4, rfl, hg4, hb4, hs4⟩)
        go_ret3
        refine ⟨_, _, rfl, ?_, ?_, HO.out.2.1.trans hs4⟩
        · rw [HO.out.2.2.1]
          exact (HO.out.1.since hs4).row_all HO.out.2.2.2.2 (Nat.le_refl _)
        · rw [HO.out.2.2.2.1]
          exact hb4.row_all rfl (Nat.le_refl _)
      · have hone : ((m : Int) == 1) = false := by rw [beq_eq_false_iff_ne]; omega
        obtain ⟨rr, hrr⟩ : ∃ r, ys.length = r + 2 := ⟨ys.length - 2, by have := HN.out; omega⟩
        have HLG : Hid (∀ (W : World) (g : Nat), Row W (.slice (some ⟨bA, oA, none⟩) n cA) xs → Row W (.slice (some ⟨b0, o0, none⟩) m cB) ys → Blk W g (List.replicate Q 0) → Far g (.slice (some ⟨bA, oA, none⟩) n cA) → Far g (.slice (some ⟨b0, o0, none⟩) m cB) → Calls Tryz.prog 113 #[.slice (some ⟨g, 0, none⟩) Q Q, .slice (some ⟨bA, oA, none⟩) n cA, .slice (some ⟨b0, o0, none⟩) m cB] W (RetLong g Q xs ys W)) := fun W g h1 h2 h3 h4 h5 =>
          divideLong_any g Q rr _ _ xs ys W h3 h1 h2 h4 h5 (by have := HN.out; omega) hrr HR.out.2.2.2.2 HQ.out.1 (by have := HQ.out; have := HN.out; omega) (by have := HN.out; omega) HQ.out.2.2.1
        have s1 : ∀ k (c : Array Value) (e : TypeId), Since w ((w.drewN k).alloc (.cells c e)) := fun k c e => ((Since.refl w).drewN k).alloc _
        clear hm1 hrr
        go_enter Tryz.func95, Tryz.ntmps95
        go_wp2_with (first
          | (go_at_call 88; (with_reducible refine (right_yes (.slice (some ⟨bA, oA, none⟩) n cA) xs _ HX.out (by have := HN.out; omega)).mono ?_); rw [HR.out.1]; rintro e w1 ⟨rfl, rfl⟩)
          | (go_at_call 88; (with_reducible refine (right_yes (.slice (some ⟨b0, o0, none⟩) m cB) ys _ HY.out (by have := HN.out; omega)).mono ?_); rw [HR.out.2.1]; rintro e w1 ⟨rfl, rfl⟩)
          | (go_at_call 100; (with_reducible refine (HCM.out _ HX.out HY.out).mono ?_); rintro e w1 ⟨rfl, nn, rfl⟩)
          | (go_at_call 112; (with_reducible refine (HQL.out _ (HX.out.since ((Since.refl w).drewN nn)) (HY.out.since ((Since.refl w).drewN nn))).mono ?_); rintro e w2 ⟨rfl, n2, rfl⟩))
        refine (HLG.out _ w.heap.size (HX.out.since (s1 _ _ _)) (HY.out.since (s1 _ _ _)) (Blk.made (w.drewN _) Q) (HFAR.out w.heap.size (Nat.le_refl _)).1 (HFAR.out w.heap.size (Nat.le_refl _)).2).mono ?_
        rintro e w3 ⟨g3, qs, rfl, ho1, ho2, ho3, ho4, ho5⟩
        have hs3 := only_since (s1 _ _ _) ho5 (Nat.le_refl _)
        have hdq : digs (num xs / num ys) = qs := HQ.out.2.2.2.2.1 qs ho4 ho2.dig ho3
        have HO := Lib.hid (And.intro ho1 (And.intro hs3 (And.intro hdq (And.intro ho2 ho3))))
        clear ho1 ho2 ho3 ho4 ho5 hs3 hdq
        go_wp2_with fail
        go_ret3
        exact ⟨_, _, rfl, by rw [HO.out.2.2.1]; exact HO.out.2.2.2.1.row_all HO.out.2.2.2.2 (Nat.le_refl _), HO.out.1, HO.out.2.1⟩
theorem divmod_any (va vb : Value) (xs ys : List Nat) (w : World) (hx : Row w va xs) (hy : Row w vb ys) (lx : xs.length ≤ 10000) (ly : ys.length ≤ 10000) :
    Calls Tryz.prog 95 #[va, vb] w fun e w' => ∃ v1 v2, e = .returned (.tuple #[v1, v2, .int .i64 (divE xs ys)]) ∧ Row w' v1 (divQ xs ys) ∧ Row w' v2 (divR xs ys) ∧ Since w w' := by
  by_cases h : (rightB xs = true ∧ rightB ys = true) ∧ ys.length ≠ 0
  · have e1 : divQ xs ys = digs (num xs / num ys) := by unfold divQ; rw [if_pos h]
    have e2 : divR xs ys = digs (num xs % num ys) := by unfold divR; rw [if_pos h]
    have e3 : divE xs ys = 0 := by unfold divE; rw [if_pos h]
    rw [e1, e2, e3]
    exact divmod_good va vb xs ys w hx hy h.1.1 h.1.2 h.2
  · have e1 : divQ xs ys = [] := by unfold divQ; rw [if_neg h]
    have e2 : divR xs ys = [] := by unfold divR; rw [if_neg h]
    have e3 : divE xs ys = 2 := by unfold divE; rw [if_neg h]
    rw [e1, e2, e3]
    clear e1 e2 e3
    have HX := Lib.hid hx
    have HY := Lib.hid hy
    have LX := Lib.hid (And.intro lx ly)
    obtain ⟨_, B, cB, rfl, -, -⟩ := hy
    clear hx lx
    by_cases r1 : rightB xs = true
    · by_cases r2 : rightB ys = true
      · have h0 : ys.length = 0 := by
          by_cases h0 : ys.length = 0
          · exact h0
          · exact absurd ⟨⟨r1, r2⟩, h0⟩ h
        have hz : ((ys.length : Int) == 0) = true := by rw [beq_iff_eq]; omega
        clear h h0
        go_enter Tryz.func95, Tryz.ntmps95
        go_wp2_with (first
          | (go_at_call 88; (with_reducible refine (right_yes va xs _ HX.out LX.out.1).mono ?_); rintro e w1 ⟨rfl, rfl⟩)
          | (go_at_call 88; (with_reducible refine (right_yes (.slice B ys.length cB) ys _ HY.out LX.out.2).mono ?_); rintro e w1 ⟨rfl, rfl⟩))
        go_ret3
        exact ⟨_, _, rfl, Row.nil _, Row.nil _, Since.refl _⟩
      · have r2' : rightB ys = false := by simpa using r2
        clear h r2
        go_enter Tryz.func95, Tryz.ntmps95
        go_wp2_with (first
          | (go_at_call 88; (with_reducible refine (right_yes va xs _ HX.out LX.out.1).mono ?_); rintro e w1 ⟨rfl, rfl⟩)
          | (go_at_call 88; (with_reducible refine (right_yes (.slice B ys.length cB) ys _ HY.out LX.out.2).mono ?_); rintro e w1 ⟨rfl, rfl⟩))
        go_ret3
        exact ⟨_, _, rfl, Row.nil _, Row.nil _, Since.refl _⟩
    · have r1' : rightB xs = false := by simpa using r1
      clear h r1
      go_enter Tryz.func95, Tryz.ntmps95
      go_wp2_with (first
        | (go_at_call 88; (with_reducible refine (right_yes va xs _ HX.out LX.out.1).mono ?_); rintro e w1 ⟨rfl, rfl⟩)
        | (go_at_call 88; (with_reducible refine (right_yes (.slice B ys.length cB) ys _ HY.out LX.out.2).mono ?_); rintro e w1 ⟨rfl, rfl⟩))
      go_ret3
      exact ⟨_, _, rfl, Row.nil _, Row.nil _, Since.refl _⟩
end Go.Proofs.YtbbemgeinlehmaaGreatDoor.Nat02


