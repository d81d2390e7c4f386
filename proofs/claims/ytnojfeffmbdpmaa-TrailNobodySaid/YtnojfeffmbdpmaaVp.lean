/- Layer 10 (trail): alive. -/
import Derived.Test.YtnojfeffmbdpmaaVq
import Derived.Test.YtnojfeffmbdpmaaVo
namespace Go.Proofs.Ytnojfeffmbdpmaa.Tr
open Go.RowKit
set_option linter.unusedVariables false
set_option linter.unusedSimpArgs false
open Go.Proofs.Ytnojfeffmbdpmaa.Dig Go.Proofs.Ytnojfeffmbdpmaa.Lx Go.Proofs.Ytnojfeffmbdpmaa.Tk Go.Proofs.Ytnojfeffmbdpmaa.Ti Go.Proofs.Ytnojfeffmbdpmaa.Zs

theorem sl_one {W : World} {g : Nat} {a b : Int} {t : TypeId} (h : Bx W g #[.int .i64 a, .int .i64 b] t) : Sl 2 QR W (.slice (some ⟨g, 0, none⟩) 1 1) [(a, b)] := by
  refine ⟨_, 1, rfl, Nat.le_refl _, fun _ => ⟨g, 0, rfl, fun i x hx => ?_⟩⟩
  match i, hx with
  | 0, hx =>
    have e : x = (a, b) := (Option.some.inj hx).symm
    subst e
    refine ⟨[.int .i64 a, .int .i64 b], rfl, rfl, fun j y hy => ?_⟩
    match j, hy with
    | 0, hy => cases hy; exact h.cell 0
    | 1, hy => cases hy; exact h.cell 1
    | j + 2, hy => simp at hy
  | i + 1, hx => simp at hx
theorem sld_one {W : World} {g : Nat} {v : Value} {d : List Rn} {t : TypeId} (h : Bx W g #[v] t) (hd : Sl 2 QR W v d) : Sl 1 QD W (.slice (some ⟨g, 0, none⟩) 1 1) [d] := by
  refine ⟨_, 1, rfl, Nat.le_refl _, fun _ => ⟨g, 0, rfl, fun i x hx => ?_⟩⟩
  match i, hx with
  | 0, hx =>
    have e : x = d := (Option.some.inj hx).symm
    subst e
    refine ⟨[v], ⟨v, rfl, hd⟩, rfl, fun j y hy => ?_⟩
    match j, hy with
    | 0, hy => cases hy; exact h.cell 0
    | j + 1, hy => simp at hy
  | i + 1, hx => simp at hx
theorem level_at {G : Nat → Bool} {N : Nat} {w : World} {b : Nat} {s : Sto} (h : TrailAt G N w b s) {n : Nat} (hn : s.W.length = n) : Calls Try.prog 23 #[.pointer (some ⟨b, 0, none⟩)] w fun e w' => e = .returned (.int .i64 (n : Int)) ∧ Since w w' := by
  obtain ⟨vD, vL, mc, ms, cs, h⟩ := h
  obtain ⟨AL, cL, rfl⟩ := owns_slice h.rowL
  have hlen := h.lvs.len
  simp only [List.length_reverse] at hlen
  have hb := h.bx
  rw [← hlen, hn] at hb
  exact level_yes hb
theorem len_at {G : Nat → Bool} {N : Nat} {w : World} {b : Nat} {s : Sto} (h : TrailAt G N w b s) {n : Nat} (hn : s.D.length = n) : Calls Try.prog 24 #[.pointer (some ⟨b, 0, none⟩)] w fun e w' => e = .returned (.int .i64 (n : Int)) ∧ Since w w' := by
  obtain ⟨vD, vL, mc, ms, cs, h⟩ := h
  obtain ⟨AL, cL, rfl⟩ := owns_slice h.rowD
  have hb := h.bx
  rw [hn] at hb
  exact len_yes hb
theorem ranges_at {v1 v2 : Value} {xs ys : List Rn} {w : World} (h1 : Sl 2 QR w v1 xs) (h2 : Sl 2 QR w v2 ys) (hl : ys.length ≤ 1100000) {b : Bool} (hb : decide (xs = ys) = b) : Calls Try.prog 25 #[v1, v2] w (RetT b w) := by
  subst hb; exact ranges_any _ _ _ _ _ h1 h2 hl
theorem doms_at {v1 v2 : Value} {xs ys : Ds} {w : World} (h1 : Sl 1 QD w v1 xs) (h2 : Sl 1 QD w v2 ys) (hl : xs.length ≤ 100000) (hl2 : ys.length ≤ 100000) (hd : ∀ d ∈ ys, d.length ≤ 1100000) {b : Bool} (hb : decide (xs = ys) = b) : Calls Try.prog 21 #[v1, v2] w (RetT b w) := by
  subst hb; exact doms_any _ _ _ _ _ h1 h2 hl hl2 hd
/-- a store that the law made: the law began at w -/
structure Live (w : World) (G : Nat → Bool) (N : Nat) (wr : World) (b : Nat) (s : Sto) : Prop where
  t : TrailAt G N wr b s
  v : Since w (veil G wr)
  k : Since w wr
  g : ∀ k, G k = true → k < wr.heap.size
  o : ∀ k, k < w.heap.size → G k = false
theorem Live.since {w : World} {G : Nat → Bool} {N : Nat} {wr w' : World} {b : Nat} {s : Sto} (h : Live w G N wr b s) (k : Since wr w') : Live w G N w' b s :=
  ⟨h.t.since k, h.v.trans (Since.veil k G), h.k.trans k, fun i hi => Nat.lt_of_lt_of_le (h.g i hi) k.size, h.o⟩
theorem Turn.live {w : World} {G : Nat → Bool} {N N' : Nat} {wr w' : World} {b : Nat} {s s' : Sto} (h : Live w G N wr b s) (T : Turn G wr w') (t : TrailAt G N' w' b s') : Live w G N' w' b s' ∧ Since (Tr.veil G wr) (Tr.veil G w') := by
  have V : Since (Tr.veil G wr) (Tr.veil G w') := T.veil fun _ _ => rfl
  have hk := h.k.size
  exact ⟨⟨t, h.v.trans V, Below.trans h.k ⟨T.os, T.tape, T.output, T.size, fun i hi => T.block i (by omega) (h.o i hi)⟩, fun i hi => Nat.lt_of_lt_of_le (h.g i hi) T.size, h.o⟩, V⟩
theorem Since.low {w wr w' : World} (h : Since w wr) (k : Below w.heap.size wr w') : Since w w' := Below.trans h k
theorem Live.up {w : World} {G : Nat → Bool} {N N' : Nat} {wr : World} {b : Nat} {s : Sto} (h : Live w G N wr b s) (k : N ≤ N') : Live w G N' wr b s := ⟨h.t.up k, h.v, h.k, h.g, h.o⟩
/-- Narrow, Push, Pop, Changed where what they answer is known -/
theorem narrow_at {w : World} {G : Nat → Bool} {N : Nat} {wr : World} {b : Nat} {s s' : Sto} {x : Int} {vd : Value} {d : List Rn} {r : Bool} {z : Int} (h : Live w G N wr b s) (hN : N < 1000000) (hd : Sl 2 QR wr vd d) (hb : Bd d) (hl : d.length ≤ 1100000) (e : narrowD s x d = (s', r, z)) :
    Calls Try.prog 12 #[.pointer (some ⟨b, 0, none⟩), .int .i64 x, vd] wr fun en w' => en = .returned (.tuple #[.bool r, .int .i64 z]) ∧ Live w G (N + 2) w' b s' ∧ Since (veil G wr) (veil G w') := by
  have h1 := tnarrow_any h.t h.g hN x vd d hd hb hl
  rw [e] at h1
  exact h1.mono fun en w' ⟨h2, h3, h4⟩ => ⟨h2, h4.live h h3⟩
theorem push_at {w : World} {G : Nat → Bool} {N : Nat} {wr : World} {b : Nat} {s s' : Sto} {z : Int} (h : Live w G N wr b s) (e : pushD s = (s', z)) :
    Calls Try.prog 15 #[.pointer (some ⟨b, 0, none⟩)] wr fun en w' => en = .returned (.int .i64 z) ∧ ∃ G', Live w G' N w' b s' ∧ Since (veil G wr) (veil G' w') := by
  have h1 := tpush_any h.t h.g
  rw [e] at h1
  refine h1.mono fun en w' ⟨h2, G', h3, ⟨T, hs⟩, h5⟩ => ⟨h2, G', ⟨h3, ?_, ?_, h5, fun k hk => ?_⟩, T.veil hs⟩
  · exact h.v.trans (T.veil hs)
  · have hk := h.k.size
    exact Below.trans h.k ⟨T.os, T.tape, T.output, T.size, fun i hi => T.block i (by omega) (h.o i hi)⟩
  · have := h.k.size
    rw [hs k (by omega)]; exact h.o k hk
theorem pop_at {w : World} {G : Nat → Bool} {N : Nat} {wr : World} {b : Nat} {s s' : Sto} {z : Int} (h : Live w G N wr b s) (e : popD s = (s', z)) :
    Calls Try.prog 17 #[.pointer (some ⟨b, 0, none⟩)] wr fun en w' => en = .returned (.int .i64 z) ∧ Live w G N w' b s' ∧ Since (veil G wr) (veil G w') := by
  have h1 := tpop_any h.t h.g
  rw [e] at h1
  exact h1.mono fun en w' ⟨h2, h3, h4⟩ => ⟨h2, h4.live h h3⟩
theorem changed_at {w : World} {G : Nat → Bool} {N : Nat} {wr : World} {b : Nat} {s s' : Sto} {l : List Int} (h : Live w G N wr b s) (hN : N ≤ 900000) (e : changedD s = (s', l)) {n : Nat} (hn : l.length = n) :
    Calls Try.prog 20 #[.pointer (some ⟨b, 0, none⟩)] wr fun en w' => ∃ A c, en = .returned (.slice A n c) ∧ Sl 1 QI (veil G w') (.slice A n c) l ∧ Live w G N w' b s' ∧ Since (veil G wr) (veil G w') := by
  have h1 := changed_any h.t h.g hN
  rw [e] at h1
  exact h1.mono fun en w' ⟨v, h2, h3, h4, h5⟩ => by
    obtain ⟨A, c, rfl⟩ := h3.form
    rw [hn] at h2 h3
    exact ⟨A, c, h2, h3, h5.live h h4⟩
theorem get_at {w : World} {G : Nat → Bool} {N : Nat} {wr : World} {b : Nat} {s : Sto} {x : Int} {l : List Rn} (h : Live w G N wr b s) (e : getD' s x = l) {n : Nat} (hn : l.length = n) :
    Calls Try.prog 26 #[.pointer (some ⟨b, 0, none⟩), .int .i64 x] wr fun en w' => ∃ A c, en = .returned (.slice A n c) ∧ Sl 2 QR (veil G w') (.slice A n c) l ∧ Since wr w' := by
  have h1 := tget_any h.t h.g x
  rw [e] at h1
  exact h1.mono fun en w' ⟨v, h2, h3, h4⟩ => by
    obtain ⟨A, c, rfl⟩ := h3.form
    rw [hn] at h2 h3
    exact ⟨A, c, h2, h3, h4⟩
theorem all_at {w : World} {G : Nat → Bool} {N : Nat} {wr : World} {b : Nat} {s : Sto} (h : Live w G N wr b s) {n : Nat} (hn : s.D.length = n) :
    Calls Try.prog 22 #[.pointer (some ⟨b, 0, none⟩)] wr fun en w' => ∃ A c, en = .returned (.slice A n c) ∧ Sl 1 QD (veil G w') (.slice A n c) s.D ∧ Since wr w' :=
  (all_any h.t h.g).mono fun en w' ⟨v, h2, h3, h4, h5⟩ => by
    obtain ⟨A, c, rfl⟩ := h3.form
    rw [hn] at h2 h3
    exact ⟨A, c, h2, h3, h4⟩
abbrev s1 : Sto := ⟨[[(1, 5)]], [[[(1, 5)]]], [false]⟩
abbrev s2 : Sto := ⟨[[(3, 5)]], [[[(1, 5)]]], [true]⟩
abbrev s3 : Sto := ⟨[[(3, 5)]], [[[(1, 5)]]], [false]⟩
abbrev s4 : Sto := ⟨[[(1, 5)]], [], [false]⟩
theorem al0 : rightD [[(1, 5)]] = true := by decide
theorem al1 : pushD (newD [[(1, 5)]]) = (s1, 0) := by rfl
theorem al2 : narrowD s1 0 [(3, 9)] = (s2, true, 0) := by rfl
theorem al3 : narrowD s2 0 [(7, 9)] = (s2, false, 12) := by rfl
theorem al4 : changedD s2 = (s3, [0]) := by rfl
theorem al5 : popD s3 = (s4, 0) := by rfl
theorem al6 : getD' s3 0 = [(3, 5)] := by rfl
theorem al7 : getD' s4 0 = [(1, 5)] := by rfl
theorem bd_one (a b : Int) (ha : -1000 ≤ a ∧ a ≤ 1000) (hb : -1000 ≤ b ∧ b ≤ 1000) : Bd [(a, b)] := fun r hr => by
  simp at hr; subst hr; exact ⟨by simp only [fits]; omega, by simp only [fits]; omega⟩
theorem new_yes {w : World} {v : Value} {ds : Ds} (h : Sl 1 QD w v ds) (hl : ds.length ≤ 100000) (hb : BdD ds) (hr : rightD ds = true) :
    Calls Try.prog 9 #[v] w fun e w' => ∃ b G, e = .returned (.pointer (some ⟨b, 0, none⟩)) ∧ Live w G 0 w' b (newD ds) :=
  (tnew_any v ds w h hl hb).mono fun e w' hh => by
    rcases hh with ⟨h1, -⟩ | ⟨-, h2⟩
    · rw [hr] at h1; cases h1
    · obtain ⟨b, G, h3, h4, h5, h6, h7, h8⟩ := h2
      exact ⟨b, G, h3, h4, h5, h6, h7, h8⟩
theorem new_no {w : World} {v : Value} {ds : Ds} (h : Sl 1 QD w v ds) (hl : ds.length ≤ 100000) (hb : BdD ds) (hr : rightD ds = false) :
    Calls Try.prog 9 #[v] w fun e w' => e = .returned (.pointer none) ∧ Since w w' :=
  (tnew_any v ds w h hl hb).mono fun e w' hh => by
    rcases hh with ⟨-, h1⟩ | ⟨h2, -⟩
    · exact h1
    · rw [hr] at h2; cases h2
section
open Go.RowKit
set_option linter.unusedVariables false
set_option linter.unusedSimpArgs false
open Go.Proofs.Ytnojfeffmbdpmaa.Dig Go.Proofs.Ytnojfeffmbdpmaa.Lx Go.Proofs.Ytnojfeffmbdpmaa.Tk Go.Proofs.Ytnojfeffmbdpmaa.Ti Go.Proofs.Ytnojfeffmbdpmaa.Zs

theorem alive_new (w : World) : Sl 1 QD ((w.alloc (.cells #[.int .i64 1, .int .i64 5] 65)).alloc (.cells #[.slice (some ⟨w.heap.size, 0, none⟩) 1 1] 33)) (.slice (some ⟨w.heap.size + 1, 0, none⟩) 1 1) [[(1, 5)]] := by
  refine sld_one (Bx.new (Since.refl _) (by simp)) (sl_one ((Bx.fresh w _ _).since (since_alloc _ _)))
theorem bdd_one (a b : Int) (ha : -1000 ≤ a ∧ a ≤ 1000) (hb : -1000 ≤ b ∧ b ≤ 1000) : BdD [[(a, b)]] := fun d hd => by
  simp at hd; subst hd; exact ⟨bd_one a b ha hb, by simp⟩
set_option maxRecDepth 100000 in
set_option maxHeartbeats 4000000 in
theorem alive_any (w : World) : Calls Try.prog 7 #[] w (RetT true w) := by
  have e1 := bd_one 3 9 (by omega) (by omega)
  have e2 := bd_one 7 9 (by omega) (by omega)
  have E0 := Lib.hid (bdd_one 1 5 (by omega) (by omega))
  have E1 := Lib.hid e1
  have E2 := Lib.hid e2
  clear e1 e2
  go_enter Try.func7, Try.ntmps7
  go_wp2_with (first
    | (go_at_call 9; (with_reducible refine (new_yes (alive_new w) (by decide) E0.out al0).mono ?_); rintro e w1 ⟨b, G, rfl, t1⟩; have T1 := Lib.hid t1; clear t1)
    | (go_at_call 15; (with_reducible refine (push_at T1.out al1).mono ?_); rintro e w2 ⟨rfl, G2, t2, -⟩; have T2 := Lib.hid t2; clear t2)
    | (go_at_call 12; (with_reducible refine (narrow_at (T2.out.since (since_alloc _ _)) (by decide) (sl_one (Bx.fresh w2 _ _)) E1.out (by decide) al2).mono ?_); rintro e w3 ⟨rfl, t3, -⟩; have T3 := Lib.hid t3; clear t3)
    | (go_at_call 12; (with_reducible refine (narrow_at (T3.out.since (since_alloc _ _)) (by decide) (sl_one (Bx.fresh w3 _ _)) E2.out (by decide) al3).mono ?_); rintro e w4 ⟨rfl, t4, -⟩; have T4 := Lib.hid t4; clear t4)
    | (go_at_call 20; (with_reducible refine (changed_at T4.out (by decide) al4 (n := 1) rfl).mono ?_); rintro e w5 ⟨Ac, cc, rfl, -, t5, -⟩; have T5 := Lib.hid t5; clear t5)
    | (go_at_call 26; (with_reducible refine (get_at T5.out al6 (n := 1) rfl).mono ?_); rintro e w6 ⟨Ag, cg, rfl, hg, k6⟩; have HG6 := Lib.hid hg; have K6 := Lib.hid k6; clear hg k6)
    | (go_at_call 25; (with_reducible refine (ranges_at ((sl_unveil HG6.out).since stR (since_alloc _ _)) (sl_one (Bx.fresh w6 _ _)) (by decide) (b := true) (by decide)).mono ?_); rintro e w7 ⟨rfl, k7⟩; have K7 := Lib.hid (K6.out.trans ((since_alloc _ _).trans k7)); clear k7)
    | (go_at_call 23; (with_reducible refine (level_at (T5.out.since K7.out).t (n := 1) rfl).mono ?_); rintro e w8 ⟨rfl, k8⟩; have K8 := Lib.hid (K7.out.trans k8); clear k8)
    | (go_at_call 17; (with_reducible refine (pop_at (T5.out.since K8.out) al5).mono ?_); rintro e w9 ⟨rfl, t9, -⟩; have T9 := Lib.hid t9; clear t9)
    | (go_at_call 26; (with_reducible refine (get_at T9.out al7 (n := 1) rfl).mono ?_); rintro e w10 ⟨Ah, ch, rfl, hg, k10⟩; have HG10 := Lib.hid hg; have K10 := Lib.hid k10; clear hg k10)
    | (go_at_call 25; (with_reducible refine (ranges_at ((sl_unveil HG10.out).since stR (since_alloc _ _)) (sl_one (Bx.fresh w10 _ _)) (by decide) (b := true) (by decide)).mono ?_); rintro e w11 ⟨rfl, k11⟩; have K11 := Lib.hid (K10.out.trans ((since_alloc _ _).trans k11)); clear k11)
    | (go_at_call 24; (with_reducible refine (len_at (T9.out.since K11.out).t (n := 1) rfl).mono ?_); rintro e w12 ⟨rfl, k12⟩))
  go_ret
  exact ⟨rfl, (((Since.refl w).alloc _).alloc _).trans ((T9.out.since K11.out).since k12).k⟩
end
end Go.Proofs.Ytnojfeffmbdpmaa.Tr
