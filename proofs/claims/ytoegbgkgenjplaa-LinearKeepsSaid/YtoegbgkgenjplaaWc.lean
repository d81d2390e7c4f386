/- Layer 13 (reify): slices.Clone of a row of domains; two rows that grow side by side. -/
import Derived.Test.YtoegbgkgenjplaaWb
namespace Go.Proofs.Ytoegbgkgenjplaa.Rf
open Go.RowKit
set_option linter.unusedVariables false
set_option linter.unusedSimpArgs false
open Go.Proofs.Ytoegbgkgenjplaa.Dig Go.Proofs.Ytoegbgkgenjplaa.Lx Go.Proofs.Ytoegbgkgenjplaa.Tk Go.Proofs.Ytoegbgkgenjplaa.Ti Go.Proofs.Ytoegbgkgenjplaa.Zs Go.Proofs.Ytoegbgkgenjplaa.Tr Go.Proofs.Ytoegbgkgenjplaa.Sn Go.Proofs.Ytoegbgkgenjplaa.Ln
/-- the domains D, one behind the other in block g; each lies where it lay in w -/
def Cp (w W : World) (g : Nat) (D : Ln.Ds) : Prop := ∃ cur : Array Value, Bx W g cur 50 ∧ ∀ (i : Nat) (hi : i < D.length), ∃ A c, cur[i]? = some (.slice A D[i].length c) ∧ Sl 2 QR w (.slice A D[i].length c) D[i]
theorem Cp.since {w W W' : World} {g : Nat} {D : Ln.Ds} (h : Cp w W g D) (k : Since W W') : Cp w W' g D := by
  obtain ⟨cur, h1, h2⟩ := h
  exact ⟨cur, h1.since k, h2⟩
theorem Cp.cell {w W : World} {g : Nat} {D : Ln.Ds} (h : Cp w W g D) {i : Nat} (hi : i < D.length) : (∃ u, W.cell? ⟨g, i, none⟩ = some u) ∧ W.frozen? ⟨g, i, none⟩ = false := by
  obtain ⟨cur, h1, h2⟩ := h
  obtain ⟨A, c, h3, -⟩ := h2 i hi
  exact ⟨⟨_, (h1.cell i).trans h3⟩, h1.no i⟩
/-- one of them is put there anew -/
theorem Cp.put {w W : World} {g n c : Nat} {D : Ln.Ds} (h : Cp w W g D) (hn : D.length = n) (hc : n ≤ c) (hs : Since w W) (hg : w.heap.size ≤ g) {i : Nat} (hi : i < D.length) {u : Value} {d : List Rn} (hu : Sl 2 QR (W.setCell ⟨g, i, none⟩ u) u d) : Sl 1 QD (W.setCell ⟨g, i, none⟩ u) (.slice (some ⟨g, 0, none⟩) n c) (D.set i d) := by
  subst hn
  obtain ⟨cur, h1, h2⟩ := h
  have hb := bxset h1 i u rfl
  have hk : Since w (W.setCell ⟨g, i, none⟩ u) := hs.set (p := ⟨g, i, none⟩) hg u
  refine ⟨some ⟨g, 0, none⟩, c, by rw [List.length_set], by rw [List.length_set]; exact hc, fun _ => ⟨g, 0, rfl, fun j x hx => ?_⟩⟩
  by_cases e : i = j
  · subst e
    rw [List.getElem?_set_self hi] at hx
    injection hx with hx
    subst hx
    obtain ⟨A, c', hu'⟩ := hu.form
    refine ⟨[u], ⟨u, rfl, hu⟩, rfl, fun q y hq => ?_⟩
    match q, hq with
    | 0, hq =>
      cases hq
      obtain ⟨A2, c2, h3, -⟩ := h2 i hi
      have hl : i < cur.size := (Array.getElem?_eq_some_iff.1 h3).1
      rw [show 0 + i * 1 + 0 = i by omega, hb.cell i]; simp [hl]
    | q + 1, hq => simp at hq
  · rw [List.getElem?_set_ne e] at hx
    obtain ⟨hj, rfl⟩ := List.getElem?_eq_some_iff.1 hx
    obtain ⟨A, c', h3, h4⟩ := h2 j hj
    refine ⟨[.slice A D[j].length c'], ⟨_, rfl, h4.since stR hk⟩, rfl, fun q y hq => ?_⟩
    match q, hq with
    | 0, hq =>
      cases hq
      rw [show 0 + j * 1 + 0 = j by omega, hb.cell j, Array.getElem?_setIfInBounds_ne e]; exact h3
    | q + 1, hq => simp at hq
set_option maxRecDepth 20000 in
set_option maxHeartbeats 2000000 in
theorem wpList_copyD {w W : World} {D : Ln.Ds} {n c : Nat} {A : Option Addr} (hS : Sl 1 QD w (.slice A n c) D) (hk : Since w W) (hp : 0 < n) (hl : n ≤ 1000) {v0 : Value} (hown : W.ownsRow w.heap.size 50 1 v0 0 [])
    {ops : Array Oper} {rest : List Oper} {o : Oper} {a : Act} {R : Exit → Act → World → Prop} (hw : Region.wanted o (yielded ops a.tmps) = true) (s z : Operand)
    (ho : o.op = .call { callee := .builtin .append, args := #[s, z], argTypes := #[30, 30] }) (hs : a.eval s = v0) (hx : a.eval z = .slice A n c)
    (h : ∀ g d w', Cp w w' g D → w.heap.size ≤ g → g < w'.heap.size → n ≤ d → Since w w' → wpList Try.prog ops R rest (a.put o.dst (.slice (some ⟨g, 0, none⟩) n d)) w') : wpList Try.prog ops R (o :: rest) a W := by
  refine BigFrame.wpList_want hw fun K hK => ?_
  obtain ⟨i, zv, bytes, hi, hz0, hz1, hz2, hz3, hz4⟩ := nD.inf
  have hnl := hS.at_.1
  have hS2 := hS
  obtain ⟨A', c', e1, e2, e3⟩ := hS2
  injection e1 with e4 e5 e6
  subst e4
  obtain ⟨b, o', rfl, hcell⟩ := e3 (by omega)
  have hmul : n * bytes ≤ n * 24 := Nat.mul_le_mul_left _ hz3
  obtain ⟨us, hul, hus⟩ : ∃ us : List Value, us.length = D.length ∧ ∀ (i : Nat) (hi : i < D.length), ∃ A c, us[i]? = some (.slice A D[i].length c) ∧ Sl 2 QR w (.slice A D[i].length c) D[i] ∧ W.cell? ⟨b, o' + i, none⟩ = some (.slice A D[i].length c) := by
    refine ⟨(List.range D.length).map fun i => (W.cell? ⟨b, o' + i, none⟩).getD (.int .i64 0), by simp, fun i hi => ?_⟩
    obtain ⟨b2, o2, B, d, h1, h2, h3⟩ := elD hS hi
    injection h1 with h1
    injection h1 with h1 h1' _
    subst h1 h1'
    have h4 := (hk.cell _ (World.block_lt_of_cell? _ _ h3)).trans h3
    exact ⟨B, d, by simp [hi, h4], h2, h4⟩
  refine wp_append_at W s z 30 ho w.heap.size 50 i zv 1 bytes nD.ht hi hz0 hz1 hz2 hz4 (by decide) v0 0 [] hs hown ⟨b, o', none⟩ n c us hx (by simp [hul, hnl]) ?_ ?_ ?_ ?_ hk.size fun v' w' h2 h3 h4 => ?_
  · intro j u hj
    have hj2 : j < D.length := by rw [← hul]; exact (List.getElem?_eq_some_iff.1 hj).1
    obtain ⟨A2, c2, h5, -, h6⟩ := hus j hj2
    rw [h5] at hj
    injection hj with hj
    subst hj
    rw [add_at]
    exact h6
  · intro u hu
    obtain ⟨j, hj, rfl⟩ := List.mem_iff_getElem.1 hu
    obtain ⟨A2, c2, h5, -, -⟩ := hus j (by rw [← hul]; exact hj)
    rw [List.getElem?_eq_getElem hj] at h5
    injection h5 with h5
    rw [h5]; rfl
  · unfold maxLen; omega
  · rw [Nat.zero_add]; omega
  · simp only [List.nil_append, Nat.zero_add] at h2 h3
    have hsw : Since w w' := Below.grown hk h3 hk.size (fun g hg => (hown.lt g hg).1)
    rcases h2.2 with ⟨-, h5⟩ | ⟨g, cap, cur, rfl, h6, h7, h8, h9, h10, h11⟩
    · omega
    · refine hK _ _ (h g cap w' ⟨cur, h7, fun i hi => ?_⟩ h6 (by have := bx_lt h7; exact this) h8 hsw)
      obtain ⟨A2, c2, h12, h13, -⟩ := hus i hi
      refine ⟨A2, c2, ?_, h13⟩
      rw [Nat.mul_one] at h11
      have h14 : (cur.toList.take n)[i]? = some (.slice A2 D[i].length c2) := by rw [h11]; exact h12
      rw [List.getElem?_take_of_lt (by omega)] at h14
      simpa using h14
set_option maxRecDepth 20000 in
set_option maxHeartbeats 2000000 in
theorem clone2_any (v : Value) (D : Ln.Ds) (w : World) (h : Sl 1 QD w v D) (hp : 0 < D.length) (hl : D.length ≤ 1000) :
    Calls Try.prog 136 #[v] w (fun e w' => ∃ g c, e = .returned (.slice (some ⟨g, 0, none⟩) D.length c) ∧ D.length ≤ c ∧ w.heap.size ≤ g ∧ g < w'.heap.size ∧ Cp w w' g D ∧ Since w w') := by
  have under := Try.underlying30
  have q22 : ∀ (w : World) (a : Option Addr) (n c n' c' : Nat), (binOp .eql 30 (.slice a n c) (.slice none n' c')).run Try.prog w = .ok (.bool a.isNone) w := fun w a n c n' c' => Lib.run_eql_slice_nil w _ _ a n c n' c' under
  obtain ⟨A, c, rfl⟩ := h.form
  obtain ⟨b0, o0, B0, d0, rfl, -, -⟩ := elD h (i := 0) hp
  obtain ⟨n, hn⟩ : ∃ n, n = D.length := ⟨_, rfl⟩
  rw [← hn] at h hl hp ⊢
  have H := Lib.hid h
  clear h hn
  have R0 := Lib.hid (show (w.alloc (.cells #[] 50)).ownsRow w.heap.size 50 1 (.slice (some ⟨w.heap.size, 0, none⟩) 0 0) 0 [] from World.ownsRow_made w #[] 0 (Nat.le_refl _) (Nat.zero_le _) rfl)
  go_enter Try.func136, Try.ntmps136
  go_wp2_with (at_builtin; refine wpList_copyD H.out (since_alloc _ _) hp hl R0.out (by rfl) _ _ rfl rfl rfl ?_; intro g2 c2 w2 h2 h3 h4 h5 h6)
  go_ret
  exact ⟨g2, c2, rfl, h5, h3, h4, h2, h6⟩
-- two rows of numbers that grow side by side
def pX (f : Int) (l : List (Int × Int)) : List Int := f :: (l.filter fun p => p.2 != f).map fun p => p.2
def pA (f : Int) (l : List (Int × Int)) : List Int := 1 :: (l.filter fun p => p.2 != f).map fun p => -p.1
theorem px_no {f : Int} {l : List (Int × Int)} {k : Nat} (hk : k < l.length) (e : l[k].2 = f) : pX f (l.take (k + 1)) = pX f (l.take k) ∧ pA f (l.take (k + 1)) = pA f (l.take k) := by
  unfold pX pA
  rw [List.take_succ_eq_append_getElem hk, List.filter_append, List.filter_cons_of_neg (by simp [e])]
  simp
theorem px_yes {f : Int} {l : List (Int × Int)} {k : Nat} (hk : k < l.length) (e : l[k].2 ≠ f) : pX f (l.take (k + 1)) = pX f (l.take k) ++ [l[k].2] ∧ pA f (l.take (k + 1)) = pA f (l.take k) ++ [-l[k].1] := by
  unfold pX pA
  rw [List.take_succ_eq_append_getElem hk, List.filter_append, List.filter_cons_of_pos (by simp [e])]
  simp
theorem px_len (f : Int) (l : List (Int × Int)) (k : Nat) : (pX f (l.take k)).length ≤ k + 1 ∧ (pA f (l.take k)).length = (pX f (l.take k)).length := by
  unfold pX pA
  have h1 := List.length_filter_le (fun p : Int × Int => p.2 != f) (l.take k)
  have h2 := List.length_take (i := k) (l := l)
  refine ⟨?_, by simp⟩
  simp only [List.length_cons, List.length_map]
  omega
def TwoI (w1 w : World) (b : Nat) (X D : Value) (xs ys : List Int) : Prop := Rq 3 QI0 w1 w X xs ∧ Rq 2 QI0 w1 w D ys ∧ Apart X D ∧ b < w.heap.size ∧ X.ownBlock ≠ some b ∧ D.ownBlock ≠ some b
theorem TwoI.s {w1 w : World} {b : Nat} {X D : Value} {xs ys : List Int} (h : TwoI w1 w b X D xs ys) : Since w1 w := h.1.s
theorem TwoI.since {w1 w w' : World} {b : Nat} {X D : Value} {xs ys : List Int} (h : TwoI w1 w b X D xs ys) (k : Since w w') : TwoI w1 w' b X D xs ys :=
  ⟨h.1.since k, h.2.1.since k, h.2.2.1, Nat.lt_of_lt_of_le h.2.2.2.1 k.size, h.2.2.2.2⟩
theorem TwoI.set {w1 w : World} {b : Nat} {X D : Value} {xs ys : List Int} (h : TwoI w1 w b X D xs ys) (hb : w1.heap.size ≤ b) (i : Nat) (u : Value) : TwoI w1 (w.setCell ⟨b, i, none⟩ u) b X D xs ys :=
  ⟨rqStore h.1 hb h.2.2.2.2.1 u, rqStore h.2.1 hb h.2.2.2.2.2 u, h.2.2.1, by simpa [World.setCell] using h.2.2.2.1, h.2.2.2.2⟩
theorem TwoI.x {w1 w w' : World} {b : Nat} {X X' D : Value} {xs xs' ys : List Int} (h : TwoI w1 w b X D xs ys) (k : Wide X X' w w') (r : Rq 3 QI0 w1 w' X' xs') : TwoI w1 w' b X' D xs' ys :=
  ⟨r, k.rq h.2.2.1 h.2.1 r.s, k.apart h.2.2.1 h.2.1, Nat.lt_of_lt_of_le h.2.2.2.1 k.1.size, Wide.not k h.2.2.2.1 h.2.2.2.2.1, h.2.2.2.2.2⟩
theorem TwoI.d {w1 w w' : World} {b : Nat} {X D D' : Value} {xs ys ys' : List Int} (h : TwoI w1 w b X D xs ys) (k : Wide D D' w w') (r : Rq 2 QI0 w1 w' D' ys') : TwoI w1 w' b X D' xs ys' :=
  ⟨k.rq h.2.2.1.symm h.1 r.s, r, (k.apart h.2.2.1.symm h.1).symm, Nat.lt_of_lt_of_le h.2.2.2.1 k.1.size, h.2.2.2.2.1, Wide.not k h.2.2.2.1 h.2.2.2.2.2⟩
theorem TwoI.slX {w1 w : World} {b : Nat} {X D : Value} {xs ys : List Int} (h : TwoI w1 w b X D xs ys) : Sl 1 QI w X xs := h.1.sl
theorem TwoI.slD {w1 w : World} {b : Nat} {X D : Value} {xs ys : List Int} (h : TwoI w1 w b X D xs ys) : Sl 1 QI w D ys := h.2.1.sl
theorem rq_one {w1 w : World} {t : TypeId} (x : Int) (h : Since w1 w) : Rq t QI0 w1 (w.alloc (.cells #[.int .i64 x] t)) (.slice (some ⟨w.heap.size, 0, none⟩) 1 1) [x] :=
  ⟨[.int .i64 x], ⟨rfl, .inr ⟨w.heap.size, 1, #[.int .i64 x], rfl, h.size, Bx.fresh w _ _, Nat.le_refl _, by unfold maxLen; omega, rfl, rfl⟩⟩, by simpa using (Rws.nil (Q := QI0) (size := 1)).snoc (x := x) (u := [.int .i64 x]) rfl rfl, h.trans (since_alloc _ _)⟩
/-- what exceed asks of linear.Narrow -/
theorem ex_mod {ds : Ln.Ds} {c : Cn} (h : modOk ⟨ds, [c], 0, 0⟩ = true) (hk : 4 ≤ c.k ∧ c.k ≤ 6) : modOk ⟨ds.set (fl c.x).toNat [(1, 1)], [⟨2, pX (fl c.x) (c.a.zip c.x), pA (fl c.x) (c.a.zip c.x), -c.c⟩], 0, 0⟩ = true := by
  obtain ⟨m1, m2, m3⟩ := mod_parts h
  have hp := flg_parts m1 m3 hk
  simp only [modOk, Bool.and_eq_true, decide_eq_true_eq, List.all_cons, List.all_nil, Bool.and_true] at h ⊢
  obtain ⟨⟨⟨⟨h1, h2⟩, h3⟩, h4⟩, h5⟩ := h
  have hb : ∀ x : List Int, bools 2 x = [] := fun x => by unfold bools; rw [if_neg (by omega), if_neg (by omega)]
  have hlen := px_len (fl c.x) (c.a.zip c.x) (c.a.zip c.x).length
  rw [List.take_length] at hlen
  have hz : (c.a.zip c.x).length = c.a.length := by rw [List.length_zip]; have := hp.len; omega
  refine ⟨⟨⟨⟨by rw [List.length_set]; exact h1, by simp⟩, ?_⟩, ?_⟩, h5⟩
  · rw [List.all_eq_true] at h3 ⊢
    intro d hd
    rcases List.mem_or_eq_of_mem_set hd with hd | rfl
    · exact h3 d hd
    · decide
  · simp only [conOk, numOk, Bool.and_eq_true, decide_eq_true_eq, hb] at h4 ⊢
    obtain ⟨⟨⟨⟨⟨⟨⟨g1, g2⟩, g3⟩, g4⟩, g5⟩, g6⟩, g7⟩, g8⟩ := h4
    have hc := hp.lin.cb
    refine ⟨⟨⟨⟨⟨⟨⟨?_, ?_⟩, ?_⟩, ?_⟩, ?_⟩, ?_⟩, ?_⟩, by simp⟩
    · unfold shp; rw [if_pos (by omega)]; simp [hlen.2]
    · unfold sgn okE
      simp
    · have := hp.len; omega
    · rw [List.all_eq_true]
      intro n hn
      rw [within_iff']
      rcases List.mem_cons.1 hn with rfl | hn
      · omega
      · obtain ⟨p, hp1, rfl⟩ := List.mem_map.1 hn
        have h6 := (within_iff' _).1 (List.all_eq_true.1 g4 _ (List.of_mem_zip (List.mem_filter.1 hp1).1).1)
        omega
    · rw [within_iff']; omega
    · simp [tak]
    · rw [List.all_eq_true]
      intro y hy
      rw [List.length_set]
      rcases List.mem_cons.1 hy with rfl | hy
      · have := hp.inx; simp only [isV, Bool.and_eq_true, decide_eq_true_eq]; omega
      · obtain ⟨p, hp1, rfl⟩ := List.mem_map.1 hy
        exact List.all_eq_true.1 g7 _ (List.of_mem_zip (List.mem_filter.1 hp1).1).2
theorem mod_sz {ds : Ln.Ds} {c : Cn} (h : modOk ⟨ds, [c], 0, 0⟩ = true) (hc : c.x.length ≤ 1000 ∧ c.a.length ≤ 1000) : SzM ⟨ds, [c], 0, 0⟩ := by
  obtain ⟨m1, m2, m3⟩ := mod_parts h
  refine ⟨fun d hd => right_len (m1 d hd).1, fun c' hc' => ?_⟩
  simp only [List.mem_singleton] at hc'
  subst hc'
  exact ⟨by omega, by omega⟩
theorem ex_nar {ds : Ln.Ds} {c : Cn} (h : modOk ⟨ds, [c], 0, 0⟩ = true) (hk : 4 ≤ c.k ∧ c.k ≤ 6) (h0 : domAt ds (fl c.x) = [(0, 0)]) {R : Option Ln.Ds} (hR : R = narL 2 (-c.c - 1) (neg c.a) c.x ds) :
    narO ⟨2, pX (fl c.x) (c.a.zip c.x), pA (fl c.x) (c.a.zip c.x), -c.c⟩ (ds.set (fl c.x).toNat [(1, 1)]) = (R.map (fun E => E.set (fl c.x).toNat [(1, 1)]), if R.isSome then 0 else 12) := by
  obtain ⟨m1, m2, m3⟩ := mod_parts h
  have hp := flg_parts m1 m3 hk
  have := narO_is (ex_mod h hk) (by simp only; omega) (R := R.map (fun E => E.set (fl c.x).toNat [(1, 1)])) (by
    subst hR
    exact exceed_eq (c := c.c) (a := c.a) (x := c.x) hp.inx (fun y hy => by have := List.all_eq_true.1 hp.lin.x y hy; simp only [isV, Bool.and_eq_true, decide_eq_true_eq] at this; omega) h0)
  rw [this]
  cases R <;> rfl
/-- and the flag is nought behind it -/
theorem ex_back {ds E : Ln.Ds} {c : Cn} (h : modOk ⟨ds, [c], 0, 0⟩ = true) (hk : 4 ≤ c.k ∧ c.k ≤ 6) (h0 : domAt ds (fl c.x) = [(0, 0)]) (hR : narL 2 (-c.c - 1) (neg c.a) c.x ds = some E) :
    (E.set (fl c.x).toNat [(1, 1)]).set (fl c.x).toNat [(0, 0)] = E ∧ E.length = ds.length := by
  obtain ⟨m1, m2, m3⟩ := mod_parts h
  have hp := flg_parts m1 m3 hk
  obtain ⟨g1, g2⟩ := nar_good m1 hp.lin.x hR
  refine ⟨?_, g2.1⟩
  rw [List.set_set]
  exact set_same (by rw [g2.1]; exact hp.inx.2) (sub_one g1 g2 hp.inx zero_right h0)
end Go.Proofs.Ytoegbgkgenjplaa.Rf
