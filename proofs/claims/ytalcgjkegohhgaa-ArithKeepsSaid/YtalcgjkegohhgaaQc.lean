/- Layer 14 (arith): domains that are handed on by their addresses. -/
import Derived.Test.YtalcgjkegohhgaaQas
import Derived.Test.YtalcgjkegohhgaaLg
namespace Go.Proofs.Ytalcgjkegohhgaa.At
open Go.RowKit
set_option linter.unusedVariables false
set_option linter.unusedSimpArgs false
open Go.Proofs.Ytalcgjkegohhgaa.Dig Go.Proofs.Ytalcgjkegohhgaa.Lx Go.Proofs.Ytalcgjkegohhgaa.Tk Go.Proofs.Ytalcgjkegohhgaa.Ti Go.Proofs.Ytalcgjkegohhgaa.Zs Go.Proofs.Ytalcgjkegohhgaa.Tr Go.Proofs.Ytalcgjkegohhgaa.Sn Go.Proofs.Ytalcgjkegohhgaa.Ln
/-- the domains D in the block g -/
structure DAm (g n : Nat) (w0 w : World) (D : Ln.Ds) : Prop where
  len : D.length = n
  row : ∃ cs : Array Value, Bx w g cs 143 ∧ cs.size = n ∧ (∀ (i : Nat) (d : List Rn), D[i]? = some d → ∃ u, cs[i]? = some u ∧ Sl 2 QR (veil (but g) w) u d ∧ ∀ b, u.ownBlock = some b → w0.heap.size ≤ b ∧ b < w.heap.size ∧ ∀ j, w.frozen? ⟨b, j, none⟩ = false) ∧ ∀ (i j : Nat) (u u' : Value), cs[i]? = some u → cs[j]? = some u' → i ≠ j → ∀ b, u.ownBlock = some b → u'.ownBlock ≠ some b
theorem DAm.since {g n : Nat} {w0 w w' : World} {D : Ln.Ds} (h : DAm g n w0 w D) (k : Since w w') : DAm g n w0 w' D := by
  obtain ⟨hl, cs, h1, h2, h3, h9⟩ := h
  refine ⟨hl, cs, h1.since k, h2, fun i d hd => ?_, h9⟩
  obtain ⟨u, h4, h5, h6⟩ := h3 i d hd
  exact ⟨u, h4, h5.since stR (Since.veil k _), fun b hb => ⟨(h6 b hb).1, Nat.lt_of_lt_of_le (h6 b hb).2.1 k.size, fun j => (World.frozen?_of_block (w := w) (a := ⟨b, j, none⟩) (k.block b (h6 b hb).2.1)).trans ((h6 b hb).2.2 j)⟩⟩
theorem DAm.get {g n : Nat} {w0 w : World} {D : Ln.Ds} (h : DAm g n w0 w D) {i : Nat} (hi : i < D.length) : ∃ A c, w.cell? ⟨g, i, none⟩ = some (.slice A D[i].length c) ∧ Sl 2 QR w (.slice A D[i].length c) D[i] := by
  obtain ⟨hl, cs, h1, h2, h3, h9⟩ := h
  obtain ⟨u, h4, h5, h6⟩ := h3 i _ (List.getElem?_eq_getElem hi)
  have h7 := sl_unveil h5
  obtain ⟨A, c, rfl⟩ := h7.form
  refine ⟨A, c, ?_, h7⟩
  have hi2 : i < cs.size := by omega
  have := h1.cell i
  rw [Array.getElem?_eq_getElem hi2] at h4
  injection h4 with h4
  simpa [hi2, h4] using this
theorem DAm.no {g n : Nat} {w0 w : World} {D : Ln.Ds} (h : DAm g n w0 w D) {i : Nat} (hi : i < n) : w.frozen? ⟨g, i, none⟩ = false := by
  obtain ⟨hl, cs, h1, h2, h3, h9⟩ := h
  exact h1.no i
/-- a domain is put into its place -/
theorem DAm.put2 {g n : Nat} {w0 w1 w : World} {D : Ln.Ds} (h0 : DAm g n w0 w1 D) (kk : Since w1 w) {i : Nat} (hi : i < n) {u : Value} {d : List Rn} (hN : NewR w1 w u d) (hs : w0.heap.size ≤ w1.heap.size) (hgg : g < w1.heap.size) :
    DAm g n w0 (w.setCell ⟨g, i, none⟩ u) (D.set i d) := by
  have hu := hN.1
  have hb : ∀ b, u.ownBlock = some b → w0.heap.size ≤ b ∧ b < w.heap.size ∧ ∀ j, w.frozen? ⟨b, j, none⟩ = false := fun b hb => ⟨Nat.le_trans hs (hN.2 b hb).1, (hN.2 b hb).2⟩
  have hg : ∀ b, u.ownBlock = some b → b ≠ g := fun b hb => by have := (hN.2 b hb).1; omega
  have h := h0.since kk
  obtain ⟨-, cs0, a1, a2, a3, a9⟩ := h0
  obtain ⟨hl, cs, h1, h2, h3, h9⟩ := h
  have ecs : cs0 = cs := by
    have e1 := a1.since kk
    unfold Bx at e1 h1
    rw [e1] at h1
    injection h1 with h1
    injection h1 with h1
  subst ecs
  have hold : ∀ (k : Nat) (u' : Value), cs0[k]? = some u' → ∀ b, u'.ownBlock = some b → b < w1.heap.size := fun k u' hk b hb' => by
    have hkn : k < n := by rw [← a2]; exact (Array.getElem?_eq_some_iff.1 hk).1
    have hkD : k < D.length := by rw [hl]; exact hkn
    obtain ⟨u2, c1, c2, c3⟩ := a3 k _ (List.getElem?_eq_getElem hkD)
    rw [hk] at c1
    injection c1 with c1
    subst c1
    exact (c3 b hb').2.1
  have hT : Turn (but g) w (w.setCell ⟨g, i, none⟩ u) := (Turn.refl _ w).set (fun _ => by simp [but]) u
  have hS : Since (veil (but g) w) (veil (but g) (w.setCell ⟨g, i, none⟩ u)) := hT.veil fun _ _ => rfl
  have hsz : (w.setCell ⟨g, i, none⟩ u).heap.size = w.heap.size := by simp [World.setCell]
  have hfz : ∀ b j, b ≠ g → (w.setCell ⟨g, i, none⟩ u).frozen? ⟨b, j, none⟩ = w.frozen? ⟨b, j, none⟩ := fun b j hne => World.frozen?_of_block (w := w) (a := ⟨b, j, none⟩) (Below.heap_setCell w ⟨g, i, none⟩ u b hne)
  have hfg : ∀ j, w.frozen? ⟨g, j, none⟩ = false ∧ (w.setCell ⟨g, i, none⟩ u).frozen? ⟨g, j, none⟩ = false := fun j => ⟨h1.no j, (bxset h1 i u rfl).no j⟩
  have hfa : ∀ b, (∀ j, w.frozen? ⟨b, j, none⟩ = false) → ∀ j, (w.setCell ⟨g, i, none⟩ u).frozen? ⟨b, j, none⟩ = false := fun b hf j => by
    by_cases e : b = g
    · subst e; exact (hfg j).2
    · rw [hfz b j e]; exact hf j
  refine ⟨by rw [List.length_set]; exact hl, _, bxset h1 i u rfl, by simpa using h2, fun k d' hd => ?_, fun k l v v' hk hlv hne b hb1 hb2 => ?_⟩
  case refine_2 =>
    by_cases e1 : i = k
    · subst e1
      rw [Array.getElem?_setIfInBounds_self_of_lt (by omega)] at hk
      rw [Array.getElem?_setIfInBounds_ne hne] at hlv
      injection hk with hk
      subst hk
      have := (hN.2 b hb1).1
      have := hold l v' hlv b hb2
      omega
    · rw [Array.getElem?_setIfInBounds_ne e1] at hk
      by_cases e2 : i = l
      · subst e2
        rw [Array.getElem?_setIfInBounds_self_of_lt (by omega)] at hlv
        injection hlv with hlv
        subst hlv
        have := (hN.2 b hb2).1
        have := hold k v hk b hb1
        omega
      · rw [Array.getElem?_setIfInBounds_ne e2] at hlv
        exact h9 k l v v' hk hlv hne b hb1 hb2
  by_cases e : i = k
  · subst e
    rw [List.getElem?_set_self (by omega)] at hd
    injection hd with hd
    subst hd
    refine ⟨u, by simp [h2, hi], ?_, fun b k => ⟨(hb b k).1, by rw [hsz]; exact (hb b k).2.1, hfa b (hb b k).2.2⟩⟩
    exact (sl_veil (G := but g) hu fun b k _ => by simpa [but] using hg b k).since stR hS
  · rw [List.getElem?_set_ne e] at hd
    obtain ⟨u', h4, h5, h6⟩ := h3 k d' hd
    exact ⟨u', by rw [Array.getElem?_setIfInBounds_ne e]; exact h4, h5.since stR hS, fun b k => ⟨(h6 b k).1, by rw [hsz]; exact (h6 b k).2.1, hfa b (h6 b k).2.2⟩⟩
theorem pos_len {d : List Rn} : decide (d ≠ []) = decide (0 < d.length) := by cases d <;> simp
set_option maxRecDepth 20000 in
set_option maxHeartbeats 2000000 in
theorem ends_p {g j : Nat} {W : World} {A : Option Addr} {m c : Nat} {d : List Rn} (hc : W.cell? ⟨g, j, none⟩ = some (.slice A m c)) (hS : Sl 2 QR W (.slice A m c) d) (hr : right d = true) (hd : d ≠ []) :
    Calls Try.prog 192 #[.pointer (some ⟨g, j, none⟩)] W (fun e w' => e = .returned (.agg #[.int .i64 (lo d), .int .i64 (hi d)]) ∧ Since W w') := by
  have ka := Lib.hid (since_alloc W (.cells #[.int .i64 0, .int .i64 0] 78))
  have EN := Lib.hid (ends_at2 (hS.since stR ka.out) hr hd)
  have hb := World.block_lt_of_cell? _ _ hc
  have c1 := (ka.out.cell _ hb).trans hc
  have HB := Lib.hid (Bx.fresh W #[.int .i64 0, .int .i64 0] 78)
  generalize lo d = l at *
  generalize hi d = h at *
  clear hS hr hd
  go_enter Try.func192, Try.ntmps192
  go_wp2_with (go_at_call 187; (with_reducible refine (EN.out).mono ?_); rintro e w2 ⟨rfl, k2⟩; have ky := since_alloc w2 (.cells #[.int .i64 l, .int .i64 h] 78); have B0 := HB.out.since (k2.trans ky); have D0 := B0.put2 (.int .i64 l) (.int .i64 h); obtain ⟨q0, q1⟩ := B0.two; obtain ⟨r0, r1⟩ := B0.two'; obtain ⟨s0, s1⟩ := D0.two; unfold put2 at s0 s1; have KE := Lib.hid (since_put2 (ka.out.trans (k2.trans ky)) (Nat.le_refl _) (.int .i64 l) (.int .i64 h)); unfold put2 at KE; have D9 := Lib.hid D0; clear k2 ky B0 D0)
  refine bodyPost_ret (v := .agg #[.int .i64 l, .int .i64 h]) ?_ rfl ⟨rfl, KE.out⟩
  have hd9 := D9.out
  unfold put2 Bx at hd9
  exact results_cell_row rfl _ _ _ _ _ _ _ rfl hd9 Try.underlying78 rfl (by kernel_rfl)
set_option maxRecDepth 20000 in
set_option maxHeartbeats 2000000 in
theorem lohi_p {g j : Nat} {W : World} {A : Option Addr} {m c : Nat} {d : List Rn} (hc : W.cell? ⟨g, j, none⟩ = some (.slice A m c)) (hS : Sl 2 QR W (.slice A m c) d) (hr : right d = true) (hd : d ≠ []) :
    Calls Try.prog 150 #[.pointer (some ⟨g, j, none⟩)] W (fun e w' => e = .returned (.int .i64 (lo d)) ∧ Since W w') ∧ Calls Try.prog 151 #[.pointer (some ⟨g, j, none⟩)] W (fun e w' => e = .returned (.int .i64 (hi d)) ∧ Since W w') := by
  have EN := Lib.hid (ends_p hc hS hr hd)
  generalize lo d = l at *
  generalize hi d = h at *
  clear hc hS hr hd
  constructor
  · have hfd : ∀ w : World, (Instr.field 78 (.agg #[.int .i64 l, .int .i64 h]) 0).run Try.prog w = .ok (.int .i64 l) w := fun _ => by kernel_rfl
    go_enter Try.func150, Try.ntmps150
    go_wp2_with (go_at_call 192; (with_reducible refine (EN.out).mono ?_); rintro e w2 ⟨rfl, k2⟩)
    go_ret
    exact ⟨rfl, k2⟩
  · have hfd : ∀ w : World, (Instr.field 78 (.agg #[.int .i64 l, .int .i64 h]) 1).run Try.prog w = .ok (.int .i64 h) w := fun _ => by kernel_rfl
    go_enter Try.func151, Try.ntmps151
    go_wp2_with (go_at_call 192; (with_reducible refine (EN.out).mono ?_); rintro e w2 ⟨rfl, k2⟩)
    go_ret
    exact ⟨rfl, k2⟩
set_option maxRecDepth 20000 in
set_option maxHeartbeats 2000000 in
theorem has_p {g j : Nat} {W : World} {A : Option Addr} {m c : Nat} {d : List Rn} (hc : W.cell? ⟨g, j, none⟩ = some (.slice A m c)) (hS : Sl 2 QR W (.slice A m c) d) (hr : right d = true) :
    Calls Try.prog 147 #[.pointer (some ⟨g, j, none⟩), .int .i64 0] W (fun e w' => e = .returned (.bool (has d 0)) ∧ Since W w') := by
  have HA := Lib.hid (has_any _ d 0 W hS (right_len hr) (okF_bd hr (Int.le_refl _)) (by decide))
  generalize has d 0 = b at *
  clear hS hr
  go_enter Try.func147, Try.ntmps147
  go_wp2_with (go_at_call 84; (with_reducible refine (HA.out).mono ?_); rintro e w2 ⟨rfl, k2⟩)
  go_ret
  exact ⟨rfl, k2⟩
/-- a step on one domain: what is left of it, and whether that is something -/
def RetS (g n : Nat) (w0 w : World) (o : Option Ln.Ds) (e : Ending) (w' : World) : Prop :=
  e = .returned (.bool o.isSome) ∧ (∀ E, o = some E → DAm g n w0 w' E) ∧ Og g w w'
theorem RetS.yes {g n : Nat} {w0 w w' : World} {E : Ln.Ds} (h : DAm g n w0 w' E) (k : Og g w w') : RetS g n w0 w (some E) (.returned (.bool true)) w' := ⟨rfl, fun _ e => (by cases e; exact h), k⟩
theorem RetS.no {g n : Nat} {w0 w w' : World} (k : Og g w w') : RetS g n w0 w none (.returned (.bool false)) w' := ⟨rfl, fun _ e => (by cases e), k⟩
theorem RetS.parts {g n : Nat} {w0 w w' : World} {o : Option Ln.Ds} {e : Ending} (h : RetS g n w0 w o e w') : (o = none ∧ e = .returned (.bool false) ∧ Og g w w') ∨ ∃ E, o = some E ∧ e = .returned (.bool true) ∧ DAm g n w0 w' E ∧ Og g w w' := by
  obtain ⟨h1, h2, h3⟩ := h
  cases o with
  | none => exact .inl ⟨rfl, h1, h3⟩
  | some E => exact .inr ⟨E, rfl, h1, h2 E rfl, h3⟩
/-- the row as it is handed on: in a block that is younger than the call's world -/
structure DM (g n : Nat) (w0 w : World) (D : Ln.Ds) : Prop where
  at_ : DAm g n w0 w D
  lo_ : w0.heap.size ≤ g
  hi_ : g < w.heap.size
  gd : Gd D
theorem DM.since {g n : Nat} {w0 w w' : World} {D : Ln.Ds} (h : DM g n w0 w D) (k : Since w w') : DM g n w0 w' D := ⟨h.at_.since k, h.lo_, Nat.lt_of_lt_of_le h.hi_ k.size, h.gd⟩
theorem DM.cell {g n : Nat} {w0 w : World} {D : Ln.Ds} (h : DM g n w0 w D) {j : Nat} (hj : j < n) : ∃ A c, w.cell? ⟨g, j, none⟩ = some (.slice A (domAt D (j : Int)).length c) ∧ Sl 2 QR w (.slice A (domAt D (j : Int)).length c) (domAt D (j : Int)) ∧ right (domAt D (j : Int)) = true ∧ domAt D (j : Int) ≠ [] := by
  have hl : j < D.length := by rw [h.at_.len]; exact hj
  have e : domAt D (j : Int) = D[j] := by simp [domAt, hl]
  obtain ⟨A, c, h1, h2⟩ := h.at_.get hl
  have hg := h.gd _ (List.getElem_mem hl)
  rw [e]
  exact ⟨A, c, h1, h2, hg.1, hg.2⟩
theorem lo_d {g n j : Nat} {w0 W : World} {D : Ln.Ds} (h : DM g n w0 W D) (hj : j < n) : Calls Try.prog 150 #[.pointer (some ⟨g, j, none⟩)] W (fun e w' => e = .returned (.int .i64 (L (j : Int) D)) ∧ Since W w') := by
  obtain ⟨A, c, h1, h2, h3, h4⟩ := h.cell hj
  exact (lohi_p h1 h2 h3 h4).1
theorem hi_d {g n j : Nat} {w0 W : World} {D : Ln.Ds} (h : DM g n w0 W D) (hj : j < n) : Calls Try.prog 151 #[.pointer (some ⟨g, j, none⟩)] W (fun e w' => e = .returned (.int .i64 (H (j : Int) D)) ∧ Since W w') := by
  obtain ⟨A, c, h1, h2, h3, h4⟩ := h.cell hj
  exact (lohi_p h1 h2 h3 h4).2
theorem has_d {g n j : Nat} {w0 W : World} {D : Ln.Ds} (h : DM g n w0 W D) (hj : j < n) : Calls Try.prog 147 #[.pointer (some ⟨g, j, none⟩), .int .i64 0] W (fun e w' => e = .returned (.bool (has (domAt D (j : Int)) 0)) ∧ Since W w') := by
  obtain ⟨A, c, h1, h2, h3, h4⟩ := h.cell hj
  exact has_p h1 h2 h3
/-- what a step leaves, by its result -/
theorem put_rets {g n j : Nat} {w0 w W : World} {D : Ln.Ds} {d : List Rn} (hd : DAm g n w0 W (D.set j d)) (k : Og g w W) (F : Ln.Ds → List Rn) (hF : F D = d) :
    RetS g n w0 w (putS (j : Int) F D) (.returned (.bool (decide (d ≠ [])))) W := by
  subst hF
  unfold putS
  by_cases c : F D = []
  · rw [if_pos c, show decide (F D ≠ []) = false by simp [c]]; exact .no k
  · rw [if_neg c, show decide (F D ≠ []) = true by simp [c]]; exact .yes hd k
set_option maxRecDepth 20000 in
set_option maxHeartbeats 2000000 in
theorem cut_d {g n j : Nat} {w0 w : World} {D : Ln.Ds} (h : DM g n w0 w D) (hj : j < n) (a b : Int) :
    Calls Try.prog 144 #[.pointer (some ⟨g, j, none⟩), .int .i64 a, .int .i64 b] w (RetS g n w0 w (cutS (j : Int) (fun _ => a) (fun _ => b) D)) := by
  obtain ⟨A, c, h1, h2, h3, h4⟩ := h.cell hj
  have CU := Lib.hid (cut_at h2 h3 w (Since.refl _) a b a b rfl rfl)
  have PT := Lib.hid (fun W u d (k : Since w W) (hu : NewR w W u d) => h.at_.put2 k hj hu (Nat.le_of_lt (Nat.lt_of_le_of_lt h.lo_ h.hi_)) h.hi_)
  have FZ := Lib.hid (fun W (k : Since w W) => (h.at_.since k).no hj)
  have CC := Lib.hid (fun W (k : Since w W) => show W.cell? ⟨g, j, none⟩ = some (.slice A (domAt D (j : Int)).length c) from (k.cell _ (World.block_lt_of_cell? _ _ h1)).trans h1)
  have CA := Lib.hid (fun W u (k : Since w W) => show (W.setCell ⟨g, j, none⟩ u).cell? ⟨g, j, none⟩ = some u from by
    obtain ⟨-, cs, b1, b2, -, -⟩ := h.at_.since k
    have := (bxset b1 j u rfl).cell j
    rw [this]
    simp [b2, hj])
  have RS := Lib.hid (fun W d (hd : DAm g n w0 W (D.set j d)) (k : Og g w W) (hF : cut (domAt D (j : Int)) a b = d) => put_rets hd k (fun D => cut (domAt D (j : Int)) a b) hF)
  unfold cutS
  generalize cut (domAt D (j : Int)) a b = d at *
  clear h2 h3 h4
  go_enter Try.func144, Try.ntmps144
  go_wp2_with (go_at_call 188; (with_reducible refine (CU.out).mono ?_); rintro e w2 ⟨A2, m2, c2, rfl, hm2, q1, k2⟩; have PU := Lib.hid (PT.out _ _ _ k2 q1); have K2 := Lib.hid k2; have z0 := CC.out _ k2; have zf := FZ.out _ k2; have zn := CA.out _ (.slice A2 m2 c2) k2; have HM := Lib.hid hm2; clear k2 q1 hm2)
  go_ret
  have hh := RS.out _ _ PU.out ((Turn.of K2.out _).set (fun _ => by simp [but]) _) rfl
  rw [pos_len] at hh
  first | exact hh | (rw [HM.out] at hh; exact hh) | (rw [← HM.out] at hh; exact hh)
set_option maxRecDepth 20000 in
set_option maxHeartbeats 2000000 in
theorem lose_d {g n j : Nat} {w0 w : World} {D : Ln.Ds} (h : DM g n w0 w D) (hj : j < n) :
    Calls Try.prog 148 #[.pointer (some ⟨g, j, none⟩), .int .i64 0] w (RetS g n w0 w (losS (j : Int) D)) := by
  obtain ⟨A, c, h1, h2, h3, h4⟩ := h.cell hj
  have CU := Lib.hid (without_new _ (domAt D (j : Int)) 0 w h2 (right_len h3) (okF_bd h3 (Int.le_refl _)) (by decide))
  have PT := Lib.hid (fun W u d (k : Since w W) (hu : NewR w W u d) => h.at_.put2 k hj hu (Nat.le_of_lt (Nat.lt_of_le_of_lt h.lo_ h.hi_)) h.hi_)
  have FZ := Lib.hid (fun W (k : Since w W) => (h.at_.since k).no hj)
  have CC := Lib.hid (fun W (k : Since w W) => show W.cell? ⟨g, j, none⟩ = some (.slice A (domAt D (j : Int)).length c) from (k.cell _ (World.block_lt_of_cell? _ _ h1)).trans h1)
  have CA := Lib.hid (fun W u (k : Since w W) => show (W.setCell ⟨g, j, none⟩ u).cell? ⟨g, j, none⟩ = some u from by
    obtain ⟨-, cs, b1, b2, -, -⟩ := h.at_.since k
    have := (bxset b1 j u rfl).cell j
    rw [this]
    simp [b2, hj])
  have RS := Lib.hid (fun W d (hd : DAm g n w0 W (D.set j d)) (k : Og g w W) (hF : without (domAt D (j : Int)) 0 = d) => put_rets hd k (fun D => without (domAt D (j : Int)) 0) hF)
  unfold losS
  generalize without (domAt D (j : Int)) 0 = d at *
  clear h2 h3 h4
  go_enter Try.func148, Try.ntmps148
  go_wp2_with (go_at_call 139; (with_reducible refine (CU.out).mono ?_); intro e w2 hx; obtain ⟨A2, m2, c2, rfl, hm2, q1, k2⟩ := newR_of hx; have PU := Lib.hid (PT.out _ _ _ k2 q1); have K2 := Lib.hid k2; have z0 := CC.out _ k2; have zf := FZ.out _ k2; have zn := CA.out _ (.slice A2 m2 c2) k2; have HM := Lib.hid hm2; clear hx k2 q1 hm2)
  go_ret
  have hh := RS.out _ _ PU.out ((Turn.of K2.out _).set (fun _ => by simp [but]) _) rfl
  rw [pos_len] at hh
  first | exact hh | (rw [HM.out] at hh; exact hh) | (rw [← HM.out] at hh; exact hh)
theorem RetS.up {g n : Nat} {w0 w w1 w' : World} {o : Option Ln.Ds} {e : Ending} (h : RetS g n w0 w1 o e w') (k : Since w w1) : RetS g n w0 w o e w' := ⟨h.1, h.2.1, (Turn.of k _).trans h.2.2⟩
set_option maxRecDepth 20000 in
set_option maxHeartbeats 2000000 in
theorem least_d {g n j : Nat} {w0 w : World} {D : Ln.Ds} (h : DM g n w0 w D) (hj : j < n) (a : Int) :
    Calls Try.prog 152 #[.pointer (some ⟨g, j, none⟩), .int .i64 a] w (RetS g n w0 w (cutS (j : Int) (fun _ => a) (fun D => H (j : Int) D) D)) := by
  have HI := Lib.hid (hi_d h hj)
  have CU := Lib.hid (fun W (k : Since w W) => cut_d (h.since k) hj a (H (j : Int) D))
  generalize hz : H (j : Int) D = z at *
  have RR : cutS (j : Int) (fun _ => a) (fun D => H (j : Int) D) D = cutS (j : Int) (fun _ => a) (fun _ => z) D := by unfold cutS putS; simp only [hz]
  rw [RR]
  clear RR hz
  go_enter Try.func152, Try.ntmps152
  go_wp2_with (first | (go_at_call 151; (with_reducible refine (HI.out).mono ?_); rintro e w2 ⟨rfl, k2⟩; have K2 := Lib.hid k2; clear k2) | (go_at_call 144; (with_reducible refine (CU.out _ K2.out).mono ?_); rintro e w3 ⟨rfl, k3, k4⟩; have K3 := Lib.hid (And.intro k3 k4); clear k3 k4))
  go_ret
  exact RetS.up ⟨rfl, K3.out.1, K3.out.2⟩ K2.out
set_option maxRecDepth 20000 in
set_option maxHeartbeats 2000000 in
theorem most_d {g n j : Nat} {w0 w : World} {D : Ln.Ds} (h : DM g n w0 w D) (hj : j < n) (a : Int) :
    Calls Try.prog 153 #[.pointer (some ⟨g, j, none⟩), .int .i64 a] w (RetS g n w0 w (cutS (j : Int) (fun D => L (j : Int) D) (fun _ => a) D)) := by
  have HI := Lib.hid (lo_d h hj)
  have CU := Lib.hid (fun W (k : Since w W) => cut_d (h.since k) hj (L (j : Int) D) a)
  generalize hz : L (j : Int) D = z at *
  have RR : cutS (j : Int) (fun D => L (j : Int) D) (fun _ => a) D = cutS (j : Int) (fun _ => z) (fun _ => a) D := by unfold cutS putS; simp only [hz]
  rw [RR]
  clear RR hz
  go_enter Try.func153, Try.ntmps153
  go_wp2_with (first | (go_at_call 150; (with_reducible refine (HI.out).mono ?_); rintro e w2 ⟨rfl, k2⟩; have K2 := Lib.hid k2; clear k2) | (go_at_call 144; (with_reducible refine (CU.out _ K2.out).mono ?_); rintro e w3 ⟨rfl, k3, k4⟩; have K3 := Lib.hid (And.intro k3 k4); clear k3 k4))
  go_ret
  exact RetS.up ⟨rfl, K3.out.1, K3.out.2⟩ K2.out
end Go.Proofs.Ytalcgjkegohhgaa.At
