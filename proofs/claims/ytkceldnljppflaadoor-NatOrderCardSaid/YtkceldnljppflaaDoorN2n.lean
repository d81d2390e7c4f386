/- What DivMod of package nat gives back. -/
import Derived.Test.YtkceldnljppflaaDoorN2m
namespace Go.Proofs.YtkceldnljppflaaDoor.Nat02
open Go.RowKit
set_option linter.unusedVariables false
open Go.Proofs.YtkceldnljppflaaDoor.Dig

/-- what DivMod hands back -/
def RetDM (Q R : List Nat) (x : Int) (w : World) (e : Ending) (w' : World) : Prop := ∃ v1 v2, e = .returned (.tuple #[v1, v2, .int .i64 x]) ∧ Row w' v1 Q ∧ Row w' v2 R ∧ Since w w'
theorem cmpL_neg {xs ys : List Nat} (hx : IsDig xs) (hy : IsDig ys) (nx : Norm xs) (ny : Norm ys) (h : ¬ num xs < num ys) : 0 ≤ cmpL xs ys := by
  rcases Int.lt_or_le (cmpL xs ys) 0 with h1 | h1
  · exact absurd ((cmpL_lt hx hy nx ny).1 h1) h
  · exact h1
theorem qlen_one {xs ys : List Nat} (hx : IsDig xs) (hy : IsDig ys) (h1 : ys.length = 1 ∧ 1 ≤ xs.length) (h : qlen xs ys = xs.length - ys.length) : xs.getD (qlen xs ys) 0 < num ys := by
  have hc : cmpL (xs.drop (xs.length - ys.length)) ys < 0 := by
    unfold qlen at h
    split at h
    · omega
    · omega
  rw [h]
  have hlen : (xs.drop (xs.length - ys.length)).length = ys.length := by simp; omega
  unfold cmpL at hc
  rw [hlen, if_neg (by omega), if_neg (by omega)] at hc
  split at hc
  · rename_i hlt
    have := num_drop xs (xs.length - ys.length)
    omega
  · split at hc <;> simp at hc
theorem reads_far {g o n b p nx c : Nat} {ds xs : List Nat} {w : World} (h : Row w (.slice (some ⟨b, p, none⟩) nx c) xs) (hf : Far g (.slice (some ⟨b, p, none⟩) nx c)) (hn : n ≤ nx) : Reads g o n ds xs (some ⟨b, p, none⟩) w :=
  fun wr k outs h1 h2 h3 i hi => ⟨b, p, rfl, (h.grown hf h3).at_ (by omega)⟩

set_option maxRecDepth 100000 in
set_option maxHeartbeats 8000000 in
theorem divmod_good (vx vy : Value) (xs ys : List Nat) (w : World) (hx : Row w vx xs) (hy : Row w vy ys) (rx : rightB xs = true) (ry : rightB ys = true) (h0 : ys.length ≠ 0) :
    Calls Tryd.prog 28 #[vx, vy] w (RetDM (digs (num xs / num ys)) (digs (num xs % num ys)) 0 w) := by
  have HX := Lib.hid hx
  have HY := Lib.hid hy
  have nx := right_norm rx
  have ny := right_norm ry
  have dx := hx.dig
  have dy := hy.dig
  have hp := num_pos ny.2 h0
  have hfar := fun (g : Nat) (hg : w.heap.size ≤ g) => And.intro (Far.of hx hg) (Far.of hy hg)
  obtain ⟨_, A, cA, rfl, hcx, -⟩ := hx
  obtain ⟨_, B, cB, rfl, hcy, -⟩ := hy
  obtain ⟨b0, o0, rfl, hcc⟩ := hcy (by omega)
  have hcy0 := hcc 0 (by omega)
  rw [Nat.add_zero] at hcy0
  have HR := Lib.hid (And.intro rx (And.intro ry (And.intro nx ny)))
  have HD := Lib.hid (And.intro dx (And.intro dy hp))
  obtain ⟨n, hn⟩ : ∃ n, n = xs.length := ⟨_, rfl⟩
  obtain ⟨m, hm⟩ : ∃ n, n = ys.length := ⟨_, rfl⟩
  have hn1 : n ≤ 256 := by omega
  have hm1 : m ≤ 256 := by omega
  rw [← hn, ← hm] at hfar
  have HFAR := Lib.hid hfar
  rw [← hm] at h0
  have hmz : ((m : Int) == 0) = false := by rw [beq_eq_false_iff_ne]; omega
  rw [← hn] at HX ⊢
  rw [← hm] at HY ⊢
  have HN := Lib.hid (And.intro hn (And.intro hm h0))
  have HCM := Lib.hid fun (W : World) (h1 : Row W (.slice A n cA) xs) (h2 : Row W (.slice (some ⟨b0, o0, none⟩) m cB) ys) => compare_any (.slice A n cA) (.slice (some ⟨b0, o0, none⟩) m cB) xs ys W h1 h2 (by omega) (by omega)
  obtain ⟨C, hC⟩ : ∃ c, c = cmpL xs ys := ⟨_, rfl⟩
  have hlt := cmpL_lt dx dy nx.2 ny.2
  rw [← hC] at HCM hlt
  clear hcx hcy hcc dx dy nx ny hn hm rx ry hp hfar hC h0
  by_cases hless : num xs < num ys
  · have hC2 : C < 0 := hlt.2 hless
    have e1 : num xs / num ys = 0 := Nat.div_eq_of_lt hless
    have e2 : digs (num xs % num ys) = xs := by rw [Nat.mod_eq_of_lt hless]; exact digs_num HD.out.1 HR.out.2.2.1.2
    rw [e1, e2, digs_zero]
    have hcl := fun (W : World) (h1 : Row W (.slice A n cA) xs) => clone_any (.slice A n cA) xs n W h1 (by have := HN.out; omega) (by have := HN.out; omega)
    rw [show xs.take n = xs by rw [List.take_of_length_le (by have := HN.out; omega)]] at hcl
    have HCL := Lib.hid hcl
    clear e1 e2 hlt hless hcl
    go_enter Tryd.func28, Tryd.ntmps28
    go_wp2_with (first
      | (go_at_call 17; (with_reducible refine (right_yes (.slice A n cA) xs _ HX.out (by have := HN.out; omega)).mono ?_); rw [HR.out.1]; rintro e w1 ⟨rfl, rfl⟩)
      | (go_at_call 17; (with_reducible refine (right_yes (.slice (some ⟨b0, o0, none⟩) m cB) ys _ HY.out (by have := HN.out; omega)).mono ?_); rw [HR.out.2.1]; rintro e w1 ⟨rfl, rfl⟩)
      | (go_at_call 35; (with_reducible refine (HCM.out _ HX.out HY.out).mono ?_); rintro e w1 ⟨rfl, nn, rfl⟩)
      | (go_at_call 49; (with_reducible refine (HCL.out _ (HX.out.since ((Since.refl w).drewN nn))).mono ?_); rintro e w2 ⟨g2, rfl, hg2, hb2, hs2⟩))
    go_ret3
    exact ⟨_, _, rfl, Row.nil _, hb2.row_all rfl (Nat.le_refl _), ((Since.refl w).drewN nn).trans hs2⟩
  · have hC2 : 0 ≤ C := by
      rcases Int.lt_or_le C 0 with h1 | h1
      · exact absurd (hlt.1 h1) hless
      · exact h1
    have hle : num ys ≤ num xs := by omega
    have hml : m ≤ n := by have := HN.out; have := norm_len_le HD.out.1 HR.out.2.2.2.2 hle; omega
    clear hlt hless
    by_cases h2 : n ≤ 2
    · have hx64 : num xs < 18446744073709551616 := by
        have h1 := num_lt HD.out.1
        have h3 := Nat.pow_le_pow_right (n := 4294967296) (by omega) (show xs.length ≤ 2 by have := HN.out; omega)
        omega
      have HV := Lib.hid (And.intro (fun (W : World) (h1 : Row W (.slice A n cA) xs) => value_any (.slice A n cA) xs W h1 (by have := HN.out; omega)) (fun (W : World) (h1 : Row W (.slice (some ⟨b0, o0, none⟩) m cB) ys) => value_any (.slice (some ⟨b0, o0, none⟩) m cB) ys W h1 (by have := HN.out; omega)))
      obtain ⟨X, hX⟩ : ∃ x, x = num xs := ⟨_, rfl⟩
      obtain ⟨Y, hY⟩ : ∃ x, x = num ys := ⟨_, rfl⟩
      have hYp : 0 < Y := by have := HD.out.2.2; omega
      rw [← hX] at hx64 hle ⊢
      rw [← hY] at hle ⊢
      simp only [← hX, ← hY] at HV
      obtain ⟨q, hq⟩ : ∃ q, q = X / Y := ⟨_, rfl⟩
      obtain ⟨r, hr⟩ : ∃ q, q = X % Y := ⟨_, rfl⟩
      have hqi : (X : Int) / (Y : Int) = (q : Int) := by rw [hq]; simp
      have hri : (X : Int) % (Y : Int) = (r : Int) := by rw [hr]; simp
      have hq1 : q ≤ X := by rw [hq]; exact Nat.div_le_self _ _
      have hr1 : r ≤ X := by rw [hr]; exact Nat.mod_le _ _
      rw [← hq, ← hr]
      have HOF := Lib.hid (And.intro (fun W => of_new q W (by omega)) (fun W => of_new r W (by omega)))
      have hqw : IntKind.u64.wrap (q : Int) = (q : Int) := IntWalk.u64_in _ (by omega)
      have hrw : IntKind.u64.wrap (r : Int) = (r : Int) := IntWalk.u64_in _ (by omega)
      clear hX hY hq hr
      go_enter Tryd.func28, Tryd.ntmps28
      go_wp2_with (first
        | (go_at_call 17; (with_reducible refine (right_yes (.slice A n cA) xs _ HX.out (by have := HN.out; omega)).mono ?_); rw [HR.out.1]; rintro e w1 ⟨rfl, rfl⟩)
        | (go_at_call 17; (with_reducible refine (right_yes (.slice (some ⟨b0, o0, none⟩) m cB) ys _ HY.out (by have := HN.out; omega)).mono ?_); rw [HR.out.2.1]; rintro e w1 ⟨rfl, rfl⟩)
        | (go_at_call 35; (with_reducible refine (HCM.out _ HX.out HY.out).mono ?_); rintro e w1 ⟨rfl, nn, rfl⟩))
      have s0 : Since w (w.drewN nn) := (Since.refl w).drewN nn
      refine (HV.out.1 _ (HX.out.since s0)).mono ?_
      rintro e w2 ⟨rfl, rfl⟩
      go_wp2_with fail
      refine (HV.out.2 _ (HY.out.since s0)).mono ?_
      rintro e w2 ⟨rfl, rfl⟩
      go_wp2_with fail
      refine (HOF.out.1 _).mono ?_
      rintro e w3 ⟨g3, rfl, hg3, hb3, hs3⟩
      have s3 := s0.trans hs3
      go_wp2_with fail
      refine (HV.out.1 _ (HX.out.since s3)).mono ?_
      rintro e w2 ⟨rfl, rfl⟩
      go_wp2_with fail
      refine (HV.out.2 _ (HY.out.since s3)).mono ?_
      rintro e w2 ⟨rfl, rfl⟩
      go_wp2_with fail
      refine (HOF.out.2 _).mono ?_
      rintro e w4 ⟨g4, rfl, hg4, hb4, hs4⟩
      have hfin := And.intro ((hb3.since hs4).row_all (c := (digs q).length) rfl (Nat.le_refl _)) (And.intro (hb4.row_all (c := (digs r).length) rfl (Nat.le_refl _)) (s3.trans hs4))
      have HF := Lib.hid hfin
      clear hfin hg3 hb3 hs3 hg4 hb4 hs4 s0 s3
      go_wp2_with fail
      go_ret3
      exact ⟨_, _, rfl, HF.out.1, HF.out.2.1, HF.out.2.2⟩
    · have h2' : 2 < n := by omega
      obtain ⟨q1, q2, q3, q4, q5⟩ := qlen_ok HD.out.1 HD.out.2.1 HR.out.2.2.1.2 HR.out.2.2.2.2 (by have := HN.out; omega) hle
      have hqn := fun (qs : List Nat) (h1 : num qs = num xs / num ys) (h2 : IsDig qs) (h3 : qs.length = qlen xs ys) => quot_norm (m := qlen xs ys) HD.out.2.2 h1 h2 h3 q4
      have h1d := qlen_one HD.out.1 HD.out.2.1 (xs := xs) (ys := ys)
      have hQL := fun (W : World) (h1 : Row W (.slice A n cA) xs) (h2 : Row W (.slice (some ⟨b0, o0, none⟩) m cB) ys) => quotientLength_any (.slice A n cA) (.slice (some ⟨b0, o0, none⟩) m cB) xs ys W h1 h2 (by have := HN.out; omega) (by have := HN.out; omega) (by have := HN.out; omega)
      obtain ⟨Q, hQ⟩ : ∃ q, q = qlen xs ys := ⟨_, rfl⟩
      rw [← hQ] at q1 q2 q3 q4 q5 hqn h1d hQL
      have hQ257 : Q ≤ 257 := by have := HN.out; omega
      have hmk := make_digits Q (by omega)
      have HQ := Lib.hid (And.intro q1 (And.intro q2 (And.intro q3 (And.intro q5 (And.intro hqn h1d)))))
      have HQL := Lib.hid hQL
      clear q1 q2 q3 q4 q5 hqn h1d hQL hQ h2
      obtain ⟨bA, oA, rfl⟩ : ∃ b o, A = some ⟨b, o, none⟩ := by
        obtain ⟨_, A', c', e, hc, _⟩ := HX.out
        injection e with e1 e2 e3
        obtain ⟨b, o, e4, _⟩ := hc (by omega)
        exact ⟨b, o, by rw [e1, e4]⟩
      by_cases hm1 : m = 1
      · have hone : ((m : Int) == 1) = true := by rw [beq_iff_eq]; omega
        have hNN := HN.out
        obtain ⟨d, hd⟩ : ∃ d, d = ys.getD 0 0 := ⟨_, rfl⟩
        rw [← hd] at hcy0
        have hnumd : num ys = d := by
          have h1 := num_take_succ ys 0
          rw [List.take_of_length_le (by omega : ys.length ≤ 0 + 1)] at h1
          rw [h1, hd]; simp [num]
        have hd1 : d < 4294967296 := by rw [hd]; exact getD_lt HD.out.2.1 0
        have hd0 : 0 < d := by have := HD.out.2.2; omega
        have hcond : Q = xs.length ∨ (Q + 1 = xs.length ∧ xs.getD Q 0 < d) := by
          rcases HQ.out.2.2.2.1 with h | h
          · right
            exact ⟨by omega, by rw [← hnumd]; exact HQ.out.2.2.2.2.2 (by omega) h⟩
          · left; omega
        have HB := Lib.hid (And.intro hnumd (And.intro hd1 (And.intro hd0 hcond)))
        have HBY : Hid (∀ (W : World) (g : Nat), Row W (.slice (some ⟨bA, oA, none⟩) n cA) xs → Blk W g (List.replicate Q 0) → Far g (.slice (some ⟨bA, oA, none⟩) n cA) → Calls Tryd.prog 51 #[.slice (some ⟨g, 0, none⟩) Q Q, .slice (some ⟨bA, oA, none⟩) n cA, .int .u32 (d : Int)] W (RetDiv g 0 Q (List.replicate Q 0) xs d W)) := fun W g h1 h2 h3 => by
          have hh := byDigit_any g 0 Q Q (some ⟨bA, oA, none⟩) cA (List.replicate Q 0) xs d W h2 (by simp) (by simp; omega) (by omega) (by rw [← HN.out.1]; exact h1) hcond hd0 hd1 (reads_far h1 h3 (by have := HQ.out; omega))
          rw [← HN.out.1] at hh
          exact hh
        have s1 : ∀ k (c : Array Value) (e : TypeId), Since w ((w.drewN k).alloc (.cells c e)) := fun k c e => ((Since.refl w).drewN k).alloc _
        have hm0 : 0 < m := by omega
        have hcW : ∀ (k : Nat) (c : Array Value) (e : TypeId), ((w.drewN k).alloc (.cells c e)).cell? ⟨b0, o0, none⟩ = some (.int .u32 (d : Int)) := fun k c e => (Below.cell (s1 k c e) (World.block_lt_of_cell? _ _ hcy0)).trans hcy0
        clear hNN hd hnumd hcond hm1
        go_enter Tryd.func28, Tryd.ntmps28
        go_wp2_with (first
          | (go_at_call 17; (with_reducible refine (right_yes (.slice (some ⟨bA, oA, none⟩) n cA) xs _ HX.out (by have := HN.out; omega)).mono ?_); rw [HR.out.1]; rintro e w1 ⟨rfl, rfl⟩)
          | (go_at_call 17; (with_reducible refine (right_yes (.slice (some ⟨b0, o0, none⟩) m cB) ys _ HY.out (by have := HN.out; omega)).mono ?_); rw [HR.out.2.1]; rintro e w1 ⟨rfl, rfl⟩)
          | (go_at_call 35; (with_reducible refine (HCM.out _ HX.out HY.out).mono ?_); rintro e w1 ⟨rfl, nn, rfl⟩)
          | (go_at_call 50; (with_reducible refine (HQL.out _ (HX.out.since ((Since.refl w).drewN nn)) (HY.out.since ((Since.refl w).drewN nn))).mono ?_); rintro e w2 ⟨rfl, n2, rfl⟩))
        refine (HBY.out _ w.heap.size (HX.out.since (s1 _ _ _)) (Blk.made (w.drewN _) Q) (HFAR.out w.heap.size (Nat.le_refl _)).1).mono ?_
        rintro e w3 ⟨outs, rfl, ho1, ho2, ho3, ho4, ho5⟩
        have e5 : splice (List.replicate Q 0) 0 outs = outs := splice_zero_end ho1
        rw [e5] at ho4
        have hs3 := only_since (s1 _ _ _) ho5 (Nat.le_refl _)
        obtain ⟨r, hr⟩ : ∃ r, r = num xs % d := ⟨_, rfl⟩
        rw [← hr]
        have hr1 : r < 18446744073709551616 := by
          have := Nat.mod_lt (num xs) HB.out.2.2.1
          have := HB.out.2.1
          omega
        have hdq : digs (num xs / num ys) = outs := HQ.out.2.2.2.2.1 outs (by rw [HB.out.1]; exact ho3) ho2 ho1
        have hdr : num xs % num ys = r := by rw [HB.out.1, hr]
        have HO := Lib.hid (And.intro ho4 (And.intro hs3 (And.intro hdq (And.intro hdr ho1))))
        clear ho1 ho2 ho3 ho4 ho5 e5 hs3 hdq hdr hr
        go_wp2_with (go_at_call 20; (with_reducible refine (of_new r _ hr1).mono ?_); rintro e w4 ⟨g4, rfl, hg4, hb4, hs4⟩)
        go_ret3
        refine ⟨_, _, rfl, ?_, ?_, HO.out.2.1.trans hs4⟩
        · rw [HO.out.2.2.1]
          exact (HO.out.1.since hs4).row_all HO.out.2.2.2.2 (Nat.le_refl _)
        · rw [HO.out.2.2.2.1]
          exact hb4.row_all rfl (Nat.le_refl _)
      · have hone : ((m : Int) == 1) = false := by rw [beq_eq_false_iff_ne]; omega
        obtain ⟨rr, hrr⟩ : ∃ r, ys.length = r + 2 := ⟨ys.length - 2, by have := HN.out; omega⟩
        have HLG : Hid (∀ (W : World) (g : Nat), Row W (.slice (some ⟨bA, oA, none⟩) n cA) xs → Row W (.slice (some ⟨b0, o0, none⟩) m cB) ys → Blk W g (List.replicate Q 0) → Far g (.slice (some ⟨bA, oA, none⟩) n cA) → Far g (.slice (some ⟨b0, o0, none⟩) m cB) → Calls Tryd.prog 52 #[.slice (some ⟨g, 0, none⟩) Q Q, .slice (some ⟨bA, oA, none⟩) n cA, .slice (some ⟨b0, o0, none⟩) m cB] W (RetLong g Q xs ys W)) := fun W g h1 h2 h3 h4 h5 =>
          divideLong_any g Q rr _ _ xs ys W h3 h1 h2 h4 h5 (by have := HN.out; omega) hrr HR.out.2.2.2.2 HQ.out.1 (by have := HQ.out; have := HN.out; omega) (by have := HN.out; omega) HQ.out.2.2.1
        have s1 : ∀ k (c : Array Value) (e : TypeId), Since w ((w.drewN k).alloc (.cells c e)) := fun k c e => ((Since.refl w).drewN k).alloc _
        clear hm1 hrr
        go_enter Tryd.func28, Tryd.ntmps28
        go_wp2_with (first
          | (go_at_call 17; (with_reducible refine (right_yes (.slice (some ⟨bA, oA, none⟩) n cA) xs _ HX.out (by have := HN.out; omega)).mono ?_); rw [HR.out.1]; rintro e w1 ⟨rfl, rfl⟩)
          | (go_at_call 17; (with_reducible refine (right_yes (.slice (some ⟨b0, o0, none⟩) m cB) ys _ HY.out (by have := HN.out; omega)).mono ?_); rw [HR.out.2.1]; rintro e w1 ⟨rfl, rfl⟩)
          | (go_at_call 35; (with_reducible refine (HCM.out _ HX.out HY.out).mono ?_); rintro e w1 ⟨rfl, nn, rfl⟩)
          | (go_at_call 50; (with_reducible refine (HQL.out _ (HX.out.since ((Since.refl w).drewN nn)) (HY.out.since ((Since.refl w).drewN nn))).mono ?_); rintro e w2 ⟨rfl, n2, rfl⟩))
        refine (HLG.out _ w.heap.size (HX.out.since (s1 _ _ _)) (HY.out.since (s1 _ _ _)) (Blk.made (w.drewN _) Q) (HFAR.out w.heap.size (Nat.le_refl _)).1 (HFAR.out w.heap.size (Nat.le_refl _)).2).mono ?_
        rintro e w3 ⟨g3, qs, rfl, ho1, ho2, ho3, ho4, ho5⟩
        have hs3 := only_since (s1 _ _ _) ho5 (Nat.le_refl _)
        have hdq : digs (num xs / num ys) = qs := HQ.out.2.2.2.2.1 qs ho4 ho2.dig ho3
        have HO := Lib.hid (And.intro ho1 (And.intro hs3 (And.intro hdq (And.intro ho2 ho3))))
        clear ho1 ho2 ho3 ho4 ho5 hs3 hdq
        go_wp2_with fail
        go_ret3
        exact ⟨_, _, rfl, by rw [HO.out.2.2.1]; exact HO.out.2.2.2.1.row_all HO.out.2.2.2.2 (Nat.le_refl _), HO.out.1, HO.out.2.1⟩
theorem divmod_any (va vb : Value) (xs ys : List Nat) (w : World) (hx : Row w va xs) (hy : Row w vb ys) (lx : xs.length ≤ 10000) (ly : ys.length ≤ 10000) :
    Calls Tryd.prog 28 #[va, vb] w fun e w' => ∃ v1 v2, e = .returned (.tuple #[v1, v2, .int .i64 (divE xs ys)]) ∧ Row w' v1 (divQ xs ys) ∧ Row w' v2 (divR xs ys) ∧ Since w w' := by
  by_cases h : (rightB xs = true ∧ rightB ys = true) ∧ ys.length ≠ 0
  · have e1 : divQ xs ys = digs (num xs / num ys) := by unfold divQ; rw [if_pos h]
    have e2 : divR xs ys = digs (num xs % num ys) := by unfold divR; rw [if_pos h]
    have e3 : divE xs ys = 0 := by unfold divE; rw [if_pos h]
    rw [e1, e2, e3]
    exact divmod_good va vb xs ys w hx hy h.1.1 h.1.2 h.2
  · have e1 : divQ xs ys = [] := by unfold divQ; rw [if_neg h]
    have e2 : divR xs ys = [] := by unfold divR; rw [if_neg h]
    have e3 : divE xs ys = 2 := by unfold divE; rw [if_neg h]
    rw [e1, e2, e3]
    clear e1 e2 e3
    have HX := Lib.hid hx
    have HY := Lib.hid hy
    have LX := Lib.hid (And.intro lx ly)
    obtain ⟨_, B, cB, rfl, -, -⟩ := hy
    clear hx lx
    by_cases r1 : rightB xs = true
    · by_cases r2 : rightB ys = true
      · have h0 : ys.length = 0 := by
          by_cases h0 : ys.length = 0
          · exact h0
          · exact absurd ⟨⟨r1, r2⟩, h0⟩ h
        have hz : ((ys.length : Int) == 0) = true := by rw [beq_iff_eq]; omega
        clear h h0
        go_enter Tryd.func28, Tryd.ntmps28
        go_wp2_with (first
          | (go_at_call 17; (with_reducible refine (right_yes va xs _ HX.out LX.out.1).mono ?_); rintro e w1 ⟨rfl, rfl⟩)
          | (go_at_call 17; (with_reducible refine (right_yes (.slice B ys.length cB) ys _ HY.out LX.out.2).mono ?_); rintro e w1 ⟨rfl, rfl⟩))
        go_ret3
        exact ⟨_, _, rfl, Row.nil _, Row.nil _, Since.refl _⟩
      · have r2' : rightB ys = false := by simpa using r2
        clear h r2
        go_enter Tryd.func28, Tryd.ntmps28
        go_wp2_with (first
          | (go_at_call 17; (with_reducible refine (right_yes va xs _ HX.out LX.out.1).mono ?_); rintro e w1 ⟨rfl, rfl⟩)
          | (go_at_call 17; (with_reducible refine (right_yes (.slice B ys.length cB) ys _ HY.out LX.out.2).mono ?_); rintro e w1 ⟨rfl, rfl⟩))
        go_ret3
        exact ⟨_, _, rfl, Row.nil _, Row.nil _, Since.refl _⟩
    · have r1' : rightB xs = false := by simpa using r1
      clear h r1
      go_enter Tryd.func28, Tryd.ntmps28
      go_wp2_with (first
        | (go_at_call 17; (with_reducible refine (right_yes va xs _ HX.out LX.out.1).mono ?_); rintro e w1 ⟨rfl, rfl⟩)
        | (go_at_call 17; (with_reducible refine (right_yes (.slice B ys.length cB) ys _ HY.out LX.out.2).mono ?_); rintro e w1 ⟨rfl, rfl⟩))
      go_ret3
      exact ⟨_, _, rfl, Row.nil _, Row.nil _, Since.refl _⟩
end Go.Proofs.YtkceldnljppflaaDoor.Nat02
