/- Layer 10 (trail): the landed Narrow. -/
import Derived.Test.YtnojfeffmbdpmaaVf
import Derived.Test.YtnojfeffmbdpmaaE1
import Derived.Test.YtnojfeffmbdpmaaEi
namespace Go.Proofs.Ytnojfeffmbdpmaa.Tr
open Go.RowKit
set_option linter.unusedVariables false
set_option linter.unusedSimpArgs false
open Go.Proofs.Ytnojfeffmbdpmaa.Dig Go.Proofs.Ytnojfeffmbdpmaa.Lx Go.Proofs.Ytnojfeffmbdpmaa.Tk Go.Proofs.Ytnojfeffmbdpmaa.Ti Go.Proofs.Ytnojfeffmbdpmaa.Zs
open Go.Maps (Keyed keyOf_int_mk)

theorem right_bd' {l : List Rn} (h : right l = true) : Bd l := fun r hr => by
  have := right_full h r hr
  simp only [mx] at this
  exact ⟨by simp only [fits]; omega, by simp only [fits]; omega⟩
theorem Ok.set {s : Sto} (h : Ok s) {k : Nat} {d : List Rn} (hd : right d = true ∧ d ≠ []) : Ok ⟨s.D.set k d, s.W, s.F⟩ := by
  refine ⟨fun d' hd' => ?_, by simp; exact h.n, fun ds hw => ?_, by simp; exact h.F, h.lv⟩
  · rcases List.mem_or_eq_of_mem_set hd' with h1 | rfl
    · exact h.D d' h1
    · exact ⟨hd.1, hd.2, right_len hd.1⟩
  · simp only [List.length_set]; exact h.W ds hw
/-- a domain is replaced -/
theorem Trl.stored {G : Nat → Bool} {N : Nat} {w : World} {b : Nat} {s : Sto} {gD cD : Nat} {vL : Value} {mc k : Nat} {ms : List Nat} {cs : List Value} (h : Trl G N (fun f => (f k).isSome = true) w b s (.slice (some ⟨gD, 0, none⟩) s.D.length cD) vL mc ms cs) (hk : k < s.D.length)
    {v : Value} {d : List Rn} (hv : Sl 2 QR (veil G w) v d) (hd : right d = true ∧ d ≠ []) :
    Trl G N (fun _ => True) (w.setCell ⟨gD, k, none⟩ v) b ⟨s.D.set k d, s.W, s.F⟩ (.slice (some ⟨gD, 0, none⟩) s.D.length cD) vL mc ms (cs.set k v) ∧ Turn G w (w.setCell ⟨gD, k, none⟩ v) := by
  obtain ⟨ho, hg⟩ := h.rowD.stored k v
  have gg : G gD = true := h.gD gD rfl
  have T : Turn G w (w.setCell ⟨gD, k, none⟩ v) := (Turn.refl G w).set (fun _ => gg) v
  have V : Since (veil G w) (veil G (w.setCell ⟨gD, k, none⟩ v)) := T.veil fun _ _ => rfl
  have hb : ∀ j, j ≠ gD → (w.setCell ⟨gD, k, none⟩ v).heap[j]? = w.heap[j]? := fun j hj => Below.heap_setCell _ _ _ _ (by simpa using hj)
  have hle : k < cs.length := by have := h.rowD.1; omega
  refine ⟨⟨?_, by simp only [List.length_set]; exact ho, (h.domD.since V).set k (hv.since stR V) hle, own_at h.rowL (Nat.le_refl _) fun g hg => hb g fun e => own_ne h.rowD h.rowL (by decide) rfl hg e.symm, ?_, ?_, h.nod, h.gb, h.gD, h.gL, h.gM, h.ok.set hd⟩, T⟩
  · have := h.bx
    unfold Bx at *
    rw [hb b (fun e => own_bx h.rowD h.bx (by decide) rfl e.symm)]; exact this
  · simp only [List.length_set]
    refine ((h.lvs.set d).keep (Nat.le_refl _) V (fun _ _ => trivial) fun m hm => ?_)
    obtain ⟨f, D0, hD0, -⟩ := h.lvs.map m hm
    exact hb m fun e => own_map h.rowD hD0 rfl e.symm
  · obtain ⟨D0, hD0, -⟩ := id h.chg
    exact h.chg.keep (Nat.le_refl _) (hb mc fun e => own_map h.rowD hD0 rfl e.symm)
/-- a place is marked as changed -/
theorem Trl.marked {G : Nat → Bool} {N : Nat} {w w' : World} {b : Nat} {s : Sto} {vD vL : Value} {mc k : Nat} {ms : List Nat} {cs : List Value} (h : Trl G N (fun _ => True) w b s vD vL mc ms cs) (hk : k < s.D.length) (hg : w.grownBy w' (some mc))
    {D : DataW Value} (hD : w.ownsMap Try.prog 3 unitElem mc N D) {u : DataW Value} (ho : w'.ownsMap Try.prog 3 unitElem mc (N + 1) (D.put (ik k) u)) :
    Trl G (N + 1) (fun _ => True) w' b ⟨s.D, s.W, s.F.set k true⟩ vD vL mc ms cs ∧ Turn G w w' := by
  have gm : G mc = true := h.gM mc (by simp)
  have T : Turn G w w' := (Turn.refl G w).grown hg fun b' hb _ => by injection hb with hb; subst hb; exact gm
  have V : Since (veil G w) (veil G w') := T.veil fun _ _ => rfl
  have hb : ∀ k, k < w.heap.size → k ≠ mc → w'.heap[k]? = w.heap[k]? := fun k hk' hne => hg.block k hk' fun e => hne (by injection e)
  refine ⟨⟨?_, own_at h.rowD (Nat.le_refl _) fun g hg => hb g (own_lt h.rowD hg) (own_map h.rowD hD hg), h.domD.since V, own_at h.rowL (Nat.le_refl _) fun g hg => hb g (own_lt h.rowL hg) (own_map h.rowL hD hg), ?_, h.chg.put (by rw [h.ok.F]; exact hk) hD ho, h.nod, h.gb, h.gD, h.gL, h.gM, ?_⟩, T⟩
  · have := h.bx
    unfold Bx at *
    rw [hb b h.bx.lt (bx_map h.bx hD)]; exact this
  · refine h.lvs.keep (Nat.le_succ _) V (fun _ h => h) fun m hm => ?_
    obtain ⟨f, hf⟩ := h.lvs.map m hm
    refine hb m hf.lt fun e => ?_
    have := (List.nodup_cons.1 h.nod).1
    exact this (by rw [← e]; simpa using hm)
  · exact ⟨h.ok.D, h.ok.n, h.ok.W, by simp; exact h.ok.F, h.ok.lv⟩
theorem zeroU (w : World) : (zeroValue 70).run Try.prog w = .ok (.agg #[]) w := by kernel_rfl
theorem narrowD_no {s : Sto} {x : Int} {d : List Rn} (h : inD s.D.length x = false ∨ right d = false) : narrowD s x d = (s, false, 2) := by
  rw [narrowD, if_pos]
  rcases h with h | h
  · rw [inD, Bool.and_eq_false_iff, decide_eq_false_iff_not, decide_eq_false_iff_not] at h
    rcases h with h | h
    · exact .inl (by omega)
    · exact .inr (.inl (by omega))
  · exact .inr (.inr h)
theorem narrowD_yes {s : Sto} {k : Nat} {d y : List Rn} (hk : k < s.D.length) (hy : s.D[k]? = some y) (hr : right d = true) :
    narrowD s (k : Int) d = if (meet y d).isEmpty = true then (s, false, 12) else if same (meet y d) y = true then (s, false, 0) else (⟨s.D.set k (meet y d), s.W, s.F.set k true⟩, true, 0) := by
  have e : atD s k = y := by rw [atD, List.getD, hy]; rfl
  rw [narrowD, if_neg (by rw [hr]; simp; omega), Int.toNat_natCast, e]
section
open Go.RowKit
set_option linter.unusedVariables false
set_option linter.unusedSimpArgs false
open Go.Proofs.Ytnojfeffmbdpmaa.Dig Go.Proofs.Ytnojfeffmbdpmaa.Lx Go.Proofs.Ytnojfeffmbdpmaa.Tk Go.Proofs.Ytnojfeffmbdpmaa.Ti Go.Proofs.Ytnojfeffmbdpmaa.Zs
open Go.Maps (Keyed keyOf_int_mk)

/-- how Narrow ends -/
def RetNw (G : Nat → Bool) (N : Nat) (b : Nat) (r : Sto × Bool × Int) (w : World) (e : Ending) (w' : World) : Prop := e = .returned (.tuple #[.bool r.2.1, .int .i64 r.2.2]) ∧ TrailAt G N w' b r.1 ∧ Turn G w w'
/-- .. with what became of the row of domains -/
def RetNt (G : Nat → Bool) (N : Nat) (b : Nat) (r : Sto × Bool × Int) (vD vL : Value) (mc : Nat) (ms : List Nat) (cs : List Value) (w : World) (e : Ending) (w' : World) : Prop := e = .returned (.tuple #[.bool r.2.1, .int .i64 r.2.2]) ∧ (∃ cs', Trl G N (fun _ => True) w' b r.1 vD vL mc ms cs' ∧ ∀ u ∈ cs', u ∈ cs ∨ ∀ g, u.ownBlock = some g → w.heap.size ≤ g) ∧ Turn G w w'
set_option maxRecDepth 20000 in
set_option maxHeartbeats 4000000 in
theorem tnarrow_trl {G : Nat → Bool} {N : Nat} {w : World} {b : Nat} {s : Sto} {vD vL : Value} {mc : Nat} {ms : List Nat} {cs : List Value} (h : Trl G N (fun _ => True) w b s vD vL mc ms cs) (hG : ∀ k, G k = true → k < w.heap.size) (hN : N < 1000000) (x : Int) (vd : Value) (d : List Rn) (hd : Sl 2 QR w vd d) (hbd : Bd d) (hl : d.length ≤ 1100000) :
    Calls Try.prog 12 #[.pointer (some ⟨b, 0, none⟩), .int .i64 x, vd] w (RetNt G (N + 2) b (narrowD s x d) vD vL mc ms cs w) := by
  have hsl := h.sl
  obtain ⟨AD, cD, rfl⟩ := owns_slice h.rowD
  have UP0 := Lib.hid (fun (W : World) (k : Since w W) => show RetNt G (N + 2) b (s, false, 2) (.slice AD s.D.length cD) vL mc ms cs w (.returned (.tuple #[.bool false, .int .i64 2])) W from ⟨rfl, ⟨cs, (h.since k).up (by omega), fun u hu => .inl hu⟩, .of k G⟩)
  obtain ⟨Ad, cd, rfl⟩ := hd.form
  obtain ⟨n, hn⟩ : ∃ n, n = s.D.length := ⟨_, rfl⟩
  obtain ⟨nd, hnd⟩ : ∃ n, n = d.length := ⟨_, rfl⟩
  have hb := h.bx
  rw [← hn] at hb hsl
  have MD := Lib.hid (made_yes hb)
  have HH := Lib.hid (fun R (hR : inD n x = R) W (kk : Since w W) => by have := has_yes (hb.since kk) x; rw [hR] at this; exact this)
  have RA := Lib.hid (fun R (hR : right d = R) => right_at hd hl hbd hR)
  rw [← hnd] at hd RA ⊢
  have H := Lib.hid hb
  cases hx : inD n x with
  | false =>
    have HH1 := Lib.hid (HH.out _ hx)
    rw [narrowD_no (.inl (hn ▸ hx))]
    clear h hsl hb hx HH RA hd hn hnd hG hbd hl
    go_enter Try.func12, Try.ntmps12
    go_wp2_with (first
      | (go_at_call 33; (with_reducible refine (MD.out).mono ?_); rintro e w1 ⟨rfl, k1⟩)
      | (go_at_call 34; (with_reducible refine (HH1.out _ k1).mono ?_); rintro e w2 ⟨rfl, k2⟩))
    go_ret2
    exact UP0.out _ (k1.trans k2)
  | true =>
    have HH1 := Lib.hid (HH.out _ hx)
    cases hr : right d with
    | false =>
      have RA1 := Lib.hid (RA.out _ hr)
      rw [narrowD_no (.inr hr)]
      clear h hsl hb hx HH RA hd hn hnd hG hbd hl hr
      go_enter Try.func12, Try.ntmps12
      go_wp2_with (first
        | (go_at_call 33; (with_reducible refine (MD.out).mono ?_); rintro e w1 ⟨rfl, k1⟩)
        | (go_at_call 34; (with_reducible refine (HH1.out _ k1).mono ?_); rintro e w2 ⟨rfl, k2⟩)
        | (go_at_call 28; (with_reducible refine (RA1.out _ (k1.trans k2)).mono ?_); rintro e w3 ⟨rfl, k3⟩))
      go_ret2
      exact UP0.out _ ((k1.trans k2).trans k3)
    | true =>
      have RA1 := Lib.hid (RA.out _ hr)
      rw [inD, Bool.and_eq_true, decide_eq_true_eq, decide_eq_true_eq] at hx
      obtain ⟨k, rfl⟩ : ∃ k : Nat, x = (k : Int) := ⟨x.toNat, by omega⟩
      have hkl : k < s.D.length := by omega
      have hkn : k < n := by omega
      obtain ⟨gD, o, B, p, rfl, hS, e1⟩ := elD hsl hkl
      have o0 : o = 0 := by
        rcases h.rowD.2 with ⟨e, e2⟩ | ⟨g, cap, cur, e, -⟩
        · omega
        · injection e with e1; injection e1 with e1; injection e1 with _ e3
      subst o0
      rw [Nat.zero_add] at e1
      have hyk : s.D[k]? = some s.D[k] := List.getElem?_eq_getElem hkl
      have hyr := h.ok.D _ (List.getElem_mem hkl)
      generalize s.D[k] = y at *
      rw [narrowD_yes hkl hyk hr]
      have MT := Lib.hid (fun W (kk : Since w W) => meet_new _ _ y d W (hS.since stR kk) (hd.since stR kk) hyr.2.2 (by omega) (right_bd' hyr.1) hbd)
      have SM := Lib.hid (fun W (kk : Since w W) vm (hm : Sl 2 QR W vm (meet y d)) => same_any vm _ (meet y d) y W hm (hS.since stR kk) (right_len (meet_right y d)) hyr.2.2 (right_bd' (meet_right y d)))
      obtain ⟨q, hq⟩ : ∃ q, q = y.length := ⟨_, rfl⟩
      rw [← hq] at e1 MT SM
      have MR := Lib.hid (meet_right y d)
      have UP := Lib.hid (fun W (kk : Since w W) => (kk.cell _ (World.block_lt_of_cell? _ _ e1)).trans e1)
      have HT := Lib.hid h
      have HK := Lib.hid hkl
      have HG := Lib.hid hG
      have HN := Lib.hid hn
      generalize meet y d = M at *
      clear h hsl hb hx HH RA hd hnd hG hbd hl hr hS e1 hyr hq hyk UP0
      by_cases hM : M.isEmpty = true
      · rw [if_pos hM]
        have HMZ := Lib.hid (show M.length = 0 by cases M with | nil => rfl | cons a l => cases hM)
        clear hM SM
        go_enter Try.func12, Try.ntmps12
        go_wp2_with (first
          | (go_at_call 33; (with_reducible refine (MD.out).mono ?_); rintro e w1 ⟨rfl, k1⟩)
          | (go_at_call 34; (with_reducible refine (HH1.out _ k1).mono ?_); rintro e w2 ⟨rfl, k2⟩)
          | (go_at_call 28; (with_reducible refine (RA1.out _ (k1.trans k2)).mono ?_); rintro e w3 ⟨rfl, k3⟩; have K3 := (k1.trans k2).trans k3; obtain ⟨c0, c1, c2⟩ := bx3 (H.out.since K3); have x1 := UP.out _ K3)
          | (go_at_call 30; (with_reducible refine (MT.out _ K3).mono ?_); rintro e w4 ⟨A2, m2, c2', rfl, hm2, hS2, k4, hf2⟩; have HM2 := Lib.hid hm2; have HS2 := Lib.hid hS2; have HF2 := Lib.hid hf2; have hz : ((m2 : Int) == 0) = true := (by have := HM2.out; have h1 := HMZ.out; rw [beq_iff_eq]; omega); clear hm2 hS2 hf2; have K4 := K3.trans k4; obtain ⟨c0', c1', c2''⟩ := bx3 (H.out.since K4); have x2 := UP.out _ K4))
        go_ret2
        exact ⟨rfl, ⟨cs, (HT.out.since K4).up (by omega), fun u hu => .inl hu⟩, .of K4 G⟩
      · rw [if_neg hM]
        have HMZ := Lib.hid (show M.length ≠ 0 by intro e; rw [List.eq_nil_of_length_eq_zero e] at hM; exact hM rfl)
        clear hM
        cases hsm : same M y with
        | true =>
          have SM1 := Lib.hid (fun W kk vm hm => by have := SM.out W kk vm hm; rw [hsm] at this; exact this)
          rw [if_pos rfl]
          clear hsm SM
          go_enter Try.func12, Try.ntmps12
          go_wp2_with (first
          | (go_at_call 33; (with_reducible refine (MD.out).mono ?_); rintro e w1 ⟨rfl, k1⟩)
          | (go_at_call 34; (with_reducible refine (HH1.out _ k1).mono ?_); rintro e w2 ⟨rfl, k2⟩)
          | (go_at_call 28; (with_reducible refine (RA1.out _ (k1.trans k2)).mono ?_); rintro e w3 ⟨rfl, k3⟩; have K3 := (k1.trans k2).trans k3; obtain ⟨c0, c1, c2⟩ := bx3 (H.out.since K3); have x1 := UP.out _ K3)
          | (go_at_call 30; (with_reducible refine (MT.out _ K3).mono ?_); rintro e w4 ⟨A2, m2, c2', rfl, hm2, hS2, k4, hf2⟩; have HM2 := Lib.hid hm2; have HS2 := Lib.hid hS2; have HF2 := Lib.hid hf2; have hz : ((m2 : Int) == 0) = false := (by have := HM2.out; have h1 := HMZ.out; rw [beq_eq_false_iff_ne]; omega); clear hm2 hS2 hf2; have K4 := K3.trans k4; obtain ⟨c0', c1', c2''⟩ := bx3 (H.out.since K4); have x2 := UP.out _ K4)
          | (go_at_call 35; (with_reducible refine (SM1.out _ K4 _ HS2.out).mono ?_); rintro e w5 ⟨rfl, k5⟩; have K5 := K4.trans k5))
          go_ret2
          exact ⟨rfl, ⟨cs, (HT.out.since K5).up (by omega), fun u hu => .inl hu⟩, .of K5 G⟩
        | false =>
          have SM1 := Lib.hid (fun W kk vm hm => by have := SM.out W kk vm hm; rw [hsm] at this; exact this)
          rw [if_neg (by decide)]
          have KP := Lib.hid (fun W (kk : Since w W) => keep_any (HT.out.since kk) hN HK.out)
          have KI := Lib.hid (key_ik (k := k) (by have h1 := HK.out; have h2 := HT.out.ok.n; omega))
          have hcl : k < cs.length := by have h1 := HT.out.rowD.1; have h2 := HK.out; omega
          obtain ⟨u0, hu0⟩ : ∃ u, cs[k]? = some u := ⟨cs[k], List.getElem?_eq_getElem hcl⟩
          have HU := Lib.hid hu0
          clear hu0 hcl
          have HMM := Lib.hid (show right M = true ∧ M ≠ [] from ⟨MR.out, fun e => HMZ.out (by rw [e]; rfl)⟩)
          have HR6 := Lib.hid (fun (w4 w6 : World) (K4 : Since w w4) {w5 : World} (k5 : Since w4 w5) (T6 : Turn G w5 w6) (v : Value) (hS : Sl 2 QR w4 v M) (hf : ∀ b, v.ownBlock = some b → w.heap.size ≤ b) => show Sl 2 QR (veil G w6) v M from
            (sl_veil hS fun b hb _ => off_new HG.out (Since.refl w) (hf b hb)).since stR (((Turn.of k5 G).trans T6).veil fun _ _ => rfl))
          have hN2 : N + 1 < maxLen := by unfold maxLen; omega
          clear hsm SM
          go_enter Try.func12, Try.ntmps12
          go_wp2_with (first
          | (go_at_call 33; (with_reducible refine (MD.out).mono ?_); rintro e w1 ⟨rfl, k1⟩)
          | (go_at_call 34; (with_reducible refine (HH1.out _ k1).mono ?_); rintro e w2 ⟨rfl, k2⟩)
          | (go_at_call 28; (with_reducible refine (RA1.out _ (k1.trans k2)).mono ?_); rintro e w3 ⟨rfl, k3⟩; have K3 := (k1.trans k2).trans k3; obtain ⟨c0, c1, c2⟩ := bx3 (H.out.since K3); have x1 := UP.out _ K3)
          | (go_at_call 30; (with_reducible refine (MT.out _ K3).mono ?_); rintro e w4 ⟨A2, m2, c2', rfl, hm2, hS2, k4, hf2⟩; have HM2 := Lib.hid hm2; have HS2 := Lib.hid hS2; have HF2 := Lib.hid hf2; have hz : ((m2 : Int) == 0) = false := (by have := HM2.out; have h1 := HMZ.out; rw [beq_eq_false_iff_ne]; omega); clear hm2 hS2 hf2; have K4 := K3.trans k4; obtain ⟨c0', c1', c2''⟩ := bx3 (H.out.since K4); have x2 := UP.out _ K4)
          | (go_at_call 35; (with_reducible refine (SM1.out _ K4 _ HS2.out).mono ?_); rintro e w5 ⟨rfl, k5⟩; have K5 := K4.trans k5)
          | (go_at_call 36; (with_reducible refine (KP.out _ K5).mono ?_); rintro e w6 ⟨rfl, t6, T6⟩; have t7 := t6.stored HK.out (HR6.out w4 w6 K4 k5 T6 _ HS2.out (fun b hb => Nat.le_trans K3.size (HF2.out b hb).1)) HMM.out; obtain ⟨d0, d1, d2⟩ := bx3 t6.bx; rw [← HN.out] at d0; have f0 := t6.rowD.frozenAt k; have f1 := (t6.rowD.cellAt k (by have := HK.out; omega)).trans HU.out; obtain ⟨p0, p1, p2⟩ := bx3 t7.1.bx; obtain ⟨D8, ho8, hh8⟩ := id t7.1.chg; have HO8 := Lib.hid ho8; have T67 := Lib.hid t7; have T56 := Lib.hid T6; clear t7 t6 T6 ho8 hh8)
          | (at_mapUpdate; refine wpList_mapUpdate_own _ rfl _ _ _ 60 rfl 3 70 keyI Try.underlying60 unitElem mc (N + 1) D8 rfl HO8.out hN2 _ _ (ik k) rfl rfl KI.out (.agg []) [] rfl ?_; intro w8 ho9 hg9))
          go_ret2
          have t9 := T67.out.1.marked (by simp only [List.length_set]; exact HK.out) hg9 HO8.out ho9
          refine ⟨rfl, ⟨_, t9.1, ?_⟩, (((Turn.of K5 G).trans T56.out).trans T67.out.2).trans t9.2⟩
          intro u hu
          rcases List.mem_or_eq_of_mem_set hu with h1 | h1
          · exact .inl h1
          · subst h1
            exact .inr (fun g hg => Nat.le_trans K3.size (HF2.out g hg).1)
theorem tnarrow_any {G : Nat → Bool} {N : Nat} {w : World} {b : Nat} {s : Sto} (h0 : TrailAt G N w b s) (hG : ∀ k, G k = true → k < w.heap.size) (hN : N < 1000000) (x : Int) (vd : Value) (d : List Rn) (hd : Sl 2 QR w vd d) (hbd : Bd d) (hl : d.length ≤ 1100000) :
    Calls Try.prog 12 #[.pointer (some ⟨b, 0, none⟩), .int .i64 x, vd] w (RetNw G (N + 2) b (narrowD s x d) w) := by
  obtain ⟨vD, vL, mc, ms, cs, h⟩ := h0
  exact (tnarrow_trl h hG hN x vd d hd hbd hl).mono fun e w' ⟨h1, ⟨cs', h2, _⟩, h3⟩ => ⟨h1, ⟨vD, vL, mc, ms, cs', h2⟩, h3⟩
end
end Go.Proofs.Ytnojfeffmbdpmaa.Tr
