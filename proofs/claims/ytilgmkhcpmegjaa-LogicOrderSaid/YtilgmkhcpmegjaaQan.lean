/- Layer 12 (linear): the law's Fits; what is left of good domains is good. Layer 12 (linear), pure: smaller doma -/
import Derived.Test.YtilgmkhcpmegjaaLa
import Derived.Test.YtilgmkhcpmegjaaQam
set_option linter.unusedVariables false
set_option linter.unusedSimpArgs false
section
namespace Go.Proofs.Ytilgmkhcpmegjaa.Ln
open Go.RowKit
open Go.Proofs.Ytilgmkhcpmegjaa.Dig Go.Proofs.Ytilgmkhcpmegjaa.Lx Go.Proofs.Ytilgmkhcpmegjaa.Tk Go.Proofs.Ytilgmkhcpmegjaa.Ti Go.Proofs.Ytilgmkhcpmegjaa.Zs Go.Proofs.Ytilgmkhcpmegjaa.Tr Go.Proofs.Ytilgmkhcpmegjaa.Sn
def fits12 (c : Cn) (ds : Ds) : Bool := smallM ⟨ds, [c], 0, 0⟩ && decide (ds.length ≤ 100)
theorem fits12_sz {c : Cn} {ds : Ds} (h : fits12 c ds = true) : SzM ⟨ds, [c], 0, 0⟩ ∧ ds.length ≤ 100 := by
  simp only [fits12, Bool.and_eq_true, decide_eq_true_eq] at h
  exact ⟨smallM_sz h.1, h.2⟩
set_option maxRecDepth 20000 in
set_option maxHeartbeats 2000000 in
theorem fits12_any (v vd : Value) (c : Cn) (ds : List (List Rn)) (w : World) (h : ConAt w v c) (hd : Sl 1 QD w vd ds) (hl : ds.length ≤ maxLen) (hdl : ∀ d ∈ ds, d.length ≤ maxLen) (hx : c.x.length ≤ maxLen) (ha : c.a.length ≤ maxLen) :
    Calls Try.prog 16 #[v, vd] w (RetT (fits12 c ds) w) := by
  unfold maxLen at hl hdl hx ha
  have MR := Lib.hid (fun W v (k : Since w W) (h : ModAt W v ⟨ds, [c], 0, 0⟩) => small_any v ⟨ds, [c], 0, 0⟩ W h (by simp only; omega) (by simp) (fun d hd => by have := hdl d hd; omega) (fun c' hc => by simp only [List.mem_singleton] at hc; subst hc; omega))
  obtain ⟨R, hR⟩ : ∃ R, R = smallM ⟨ds, [c], 0, 0⟩ := ⟨_, rfl⟩
  rw [← hR] at MR
  have HF := Lib.hid (show (R && decide (ds.length ≤ 100)) = fits12 c ds by rw [hR]; rfl)
  rw [← HF.out]
  clear HF
  obtain ⟨vx, vy, rfl, h1, h2⟩ := h
  obtain ⟨ck, cx, ca, cc⟩ := c
  simp only at *
  obtain ⟨X, xc, rfl⟩ := h1.form
  obtain ⟨Y, yc, rfl⟩ := h2.form
  obtain ⟨D, dc, rfl⟩ := hd.form
  generalize hnx : cx.length = nx at *
  generalize hny : ca.length = ny at *
  generalize hnd : ds.length = nd at *
  have ka := since_alloc w (.cells #[.int .i64 ck, .slice X nx xc, .slice Y ny yc, .int .i64 cc] 25)
  have kb := since_alloc (w.alloc (.cells #[.int .i64 ck, .slice X nx xc, .slice Y ny yc, .int .i64 cc] 25)) (.cells #[.int .i64 ck, .slice X nx xc, .slice Y ny yc, .int .i64 cc] 25)
  have CL := con_lit (w.alloc (.cells #[.int .i64 ck, .slice X nx xc, .slice Y ny yc, .int .i64 cc] 25)) ⟨ck, cx, ca, cc⟩ (.slice X nx xc) (.slice Y ny yc) (h1.since stI ka) (h2.since stI ka)
  rw [show (w.alloc (.cells #[.int .i64 ck, .slice X nx xc, .slice Y ny yc, .int .i64 cc] 25)).heap.size = w.heap.size + 1 by simp] at CL
  simp only at CL
  have M := Lib.hid (MR.out ((w.alloc (.cells #[.int .i64 ck, .slice X nx xc, .slice Y ny yc, .int .i64 cc] 25)).alloc (.cells #[.int .i64 ck, .slice X nx xc, .slice Y ny yc, .int .i64 cc] 25)) (.agg #[.slice D nd dc, .slice (some ⟨w.heap.size + 1, 0, none⟩) 1 1, .int .i64 0, .int .i64 0]) (ka.trans kb) ⟨_, _, rfl, hd.since stD (ka.trans kb), CL⟩)
  have K := Lib.hid (ka.trans kb)
  obtain ⟨b0, b1, b2, b3⟩ := bx4 (Bx.fresh w #[.int .i64 ck, .slice X nx xc, .slice Y ny yc, .int .i64 cc] 25)
  clear MR hR h1 h2 hd CL ka kb hnx hny hnd hdl hx ha
  cases R with
  | false =>
    go_enter Try.func16, Try.ntmps16
    go_wp2_with (go_at_call 60; (with_reducible refine M.out.mono ?_); rintro e w2 ⟨rfl, k2⟩; have K2 := Lib.hid (K.out.trans k2); clear k2)
    go_ret
    exact .of (by simp) K2.out
  | true =>
    go_enter Try.func16, Try.ntmps16
    go_wp2_with (go_at_call 60; (with_reducible refine M.out.mono ?_); rintro e w2 ⟨rfl, k2⟩; have K2 := Lib.hid (K.out.trans k2); clear k2)
    go_ret
    exact .of (by simp; omega) K2.out
end Go.Proofs.Ytilgmkhcpmegjaa.Ln
end
section
namespace Go.Proofs.Ytilgmkhcpmegjaa.Ln
open Go.Proofs.Ytilgmkhcpmegjaa.Zs Go.Proofs.Ytilgmkhcpmegjaa.Sn
section
variable {D D' : Ds} (h : Gd D) (h' : Gd D') (hs : Sub D' D)
include h h' hs
theorem ends_sub {x : Int} (hx : 0 ≤ x ∧ x.toNat < D.length) : lo (domAt D x) ≤ lo (domAt D' x) ∧ lo (domAt D' x) ≤ hi (domAt D' x) ∧ hi (domAt D' x) ≤ hi (domAt D x) ∧ lo (domAt D x) ≤ hi (domAt D x) := by
  have g := h.at_ hx.2
  have g' := h'.at_ (x := x) (by rw [hs.1]; exact hx.2)
  exact ⟨mem_lo g.1 (hs.2 x hx.1 _ (lo_mem g'.1 g'.2)), lo_hi g'.1 g'.2, mem_hi _ g.1 (hs.2 x hx.1 _ (hi_mem _ g'.1 g'.2)), lo_hi g.1 g.2⟩
end
/-- domains that have no more values than others, and still some -/
def smlE (d c : List Rn) : List Rn := if meet d c = [] ∨ 100 < c.length then d else meet d c
def sml (D C : Ds) : Ds := (D.zip C).map fun p => smlE p.1 p.2
theorem smlE_ok {d c : List Rn} (h : right d = true) (hd : d ≠ []) : right (smlE d c) = true ∧ smlE d c ≠ [] ∧ ∀ v, mem (smlE d c) v → mem d v := by
  unfold smlE
  split
  · exact ⟨h, hd, fun v hv => hv⟩
  · rename_i hc
    have hc1 : meet d c ≠ [] := fun e => hc (.inl e)
    refine ⟨meet_right _ _, hc1, fun v hv => ?_⟩
    cases hr : right c with
    | true => exact ((meet_ok h hr).2 v |>.1 hv).1
    | false => rw [meet, hr, Bool.and_false] at hv; exact hv.elim
theorem sml_len {D C : Ds} (hl : C.length = D.length) : (sml D C).length = D.length := by simp [sml, hl]
theorem sml_at {D C : Ds} (hl : C.length = D.length) {i : Nat} (hi : i < D.length) : (sml D C)[i]'(by rw [sml_len hl]; exact hi) = smlE D[i] (C[i]'(by omega)) := by simp [sml]
theorem sml_ok {D C : Ds} (h : Gd D) (hl : C.length = D.length) : Gd (sml D C) ∧ Sub (sml D C) D := by
  refine ⟨fun d hd => ?_, sml_len hl, fun y hy v hv => ?_⟩
  · obtain ⟨i, hi, rfl⟩ := List.mem_iff_getElem.1 hd
    have hi2 : i < D.length := by rw [sml_len hl] at hi; exact hi
    rw [sml_at hl hi2]
    have := h _ (List.getElem_mem hi2)
    exact ⟨(smlE_ok this.1 this.2).1, (smlE_ok this.1 this.2).2.1⟩
  · by_cases hyl : y.toNat < D.length
    · rw [domAt_lt (by rw [sml_len hl]; exact hyl), sml_at hl hyl] at hv
      rw [domAt_lt hyl]
      have := h _ (List.getElem_mem hyl)
      exact (smlE_ok this.1 this.2).2.2 v hv
    · have e : domAt (sml D C) y = [] := by
        unfold domAt
        rw [List.getD, List.getElem?_eq_none (by rw [sml_len hl]; omega)]; rfl
      rw [e] at hv
      exact hv.elim
theorem meet_sub {E' E : List Rn} (h' : right E' = true) (h : right E = true) (hs : ∀ v, mem E' v → mem E v) : meet E' E = E' :=
  uniq (meet_ok h' h).1 h' fun v => by rw [(meet_ok h' h).2 v]; exact ⟨fun k => k.1, fun k => ⟨k, hs v k⟩⟩
end Go.Proofs.Ytilgmkhcpmegjaa.Ln
end
section
namespace Go.Proofs.Ytilgmkhcpmegjaa.Ln
open Go.Proofs.Ytilgmkhcpmegjaa.Zs Go.Proofs.Ytilgmkhcpmegjaa.Sn
/-- these values lie within the domains -/
def Wi (D : Ds) (a : List Int) : Prop := a.length = D.length ∧ ∀ y : Int, 0 ≤ y → y.toNat < D.length → mem (domAt D y) (valAt a y)
theorem sing_at {a : List Int} {y : Int} (h : y.toNat < a.length) : domAt (sing a) y = [(valAt a y, valAt a y)] := by simp [domAt, sing, valAt, h]
theorem mem_one {n v : Int} : mem [(n, n)] v ↔ v = n := by
  constructor
  · rintro (h | h)
    · have h1 := h.1; have h2 := h.2; simp only at h1 h2; omega
    · exact h.elim
  · rintro rfl; exact .inl ⟨Int.le_refl _, Int.le_refl _⟩
theorem one_rt {n : Int} (h : -mx ≤ n ∧ n ≤ mx) : right [(n, n)] = true := by
  show okF (-mx) [(n, n)] = true
  rw [okF_cons]; exact ⟨h.1, Int.le_refl _, h.2, rfl⟩
theorem wi_sing {D : Ds} {a : List Int} (h : Gd D) (w : Wi D a) : Gd (sing a) ∧ Sub (sing a) D := by
  refine ⟨fun d hd => ?_, by rw [sing_len]; exact w.1, fun y hy v hv => ?_⟩
  · obtain ⟨n, hn, rfl⟩ := List.mem_map.1 hd
    obtain ⟨i, hi, rfl⟩ := List.mem_iff_getElem.1 hn
    have hiD : i < D.length := by rw [← w.1]; exact hi
    have h1 := w.2 (i : Int) (by omega) (by simpa using hiD)
    have h2 := h.at_ (x := (i : Int)) (by simpa using hiD)
    have e : valAt a (i : Int) = a[i] := by simp [valAt, hi]
    rw [e] at h1
    exact ⟨one_rt (mem_ge h2.1 h1), by simp⟩
  · by_cases hl : y.toNat < a.length
    · rw [sing_at hl, mem_one] at hv
      subst hv
      exact w.2 y hy (by rw [← w.1]; exact hl)
    · have e : domAt (sing a) y = [] := by unfold domAt; rw [List.getD, List.getElem?_eq_none (by rw [sing_len]; omega)]; rfl
      rw [e] at hv; exact hv.elim
theorem gd_sing {a : List Int} {E : Ds} (hs : Gd (sing a)) (hE : Gd E) (k : Sub E (sing a)) : E = sing a := by
  refine List.ext_getElem k.1 fun i h1 h2 => ?_
  have ha : i < a.length := by rw [sing_len] at h2; exact h2
  have e1 : domAt E (i : Int) = E[i] := domAt_lt (by exact h1)
  have e2 : domAt (sing a) (i : Int) = (sing a)[i] := domAt_lt (by exact h2)
  have e3 := sing_at (a := a) (y := (i : Int)) (by simpa using ha)
  have g1 := hE _ (List.getElem_mem h1)
  have g2 := hs _ (List.getElem_mem h2)
  have hv : ∀ v, mem E[i] v → v = valAt a i := fun v hv => by
    have := k.2 (i : Int) (by omega) v (by rw [e1]; exact hv)
    rw [e3] at this; exact mem_one.1 this
  refine uniq g1.1 g2.1 fun v => ?_
  rw [← e2, e3, mem_one]
  refine ⟨hv v, fun e => ?_⟩
  obtain ⟨u, hu⟩ := mem_ex g1.1 g1.2
  rw [e, ← hv u hu]; exact hu
end Go.Proofs.Ytilgmkhcpmegjaa.Ln
end
section
namespace Go.Proofs.Ytilgmkhcpmegjaa.At
open Go.Proofs.Ytilgmkhcpmegjaa.Num Go.Proofs.Ytilgmkhcpmegjaa.Zs Go.Proofs.Ytilgmkhcpmegjaa.Sn Go.Proofs.Ytilgmkhcpmegjaa.Ln
/-- steps: domains, or none -/
abbrev St := Ln.Ds → Option Ln.Ds
def putS (x : Int) (F : Ln.Ds → List Rn) : St := fun D => if F D = [] then none else some (D.set x.toNat (F D))
def cutS (x : Int) (l h : Ln.Ds → Int) : St := putS x fun D => cut (domAt D x) (l D) (h D)
def ifS (P : Ln.Ds → Bool) (f : St) : St := fun D => if P D = true then f D else some D
def thn (f g : St) : St := fun D => (f D).bind g
def L (x : Int) (D : Ln.Ds) : Int := lo (domAt D x)
def H (x : Int) (D : Ln.Ds) : Int := hi (domAt D x)
def pos (x : Int) (D : Ln.Ds) : Bool := decide (0 < L x D)
def v0 (x : List Int) : Int := x.getD 0 0
def v1 (x : List Int) : Int := x.getD 1 0
def v2 (x : List Int) : Int := x.getD 2 0
/-- its kinds -/
def Ak (k : Int) : Prop := (7 ≤ k ∧ k ≤ 10) ∨ k = 15
instance (k : Int) : Decidable (Ak k) := by unfold Ak; infer_instance
/-- what may be said of steps over n variables, of which those in X are touched -/
structure Okp (n : Nat) (X : List Int) (f : St) : Prop where
  ok : ∀ D E, Gd D → D.length = n → f D = some E → Gd E ∧ Sub E D ∧ ∀ y : Nat, y < n → (y : Int) ∉ X → domAt E y = domAt D y
  mo : ∀ D D' E', Gd D → Gd D' → D.length = n → Sub D' D → f D' = some E' → ∃ E, f D = some E ∧ Sub E' E
def Inn (n : Nat) (x : Int) : Prop := 0 ≤ x ∧ x.toNat < n
theorem Gd.set {D : Ln.Ds} (h : Gd D) {i : Nat} {d : List Rn} (hd : right d = true) (hn : d ≠ []) : Gd (D.set i d) := fun e he => by
  rcases List.mem_or_eq_of_mem_set he with h1 | rfl
  · exact h e h1
  · exact ⟨hd, hn⟩
theorem put_ok {n : Nat} {X : List Int} {x : Int} {F : Ln.Ds → List Rn} (hx : Inn n x) (hX : x ∈ X)
    (hF : ∀ D, Gd D → D.length = n → right (F D) = true ∧ ∀ v, mem (F D) v → mem (domAt D x) v)
    (hM : ∀ D D', Gd D → Gd D' → D.length = n → Sub D' D → ∀ v, mem (F D') v → mem (F D) v) : Okp n X (putS x F) := by
  constructor
  · intro D E h hl he
    unfold putS at he
    split at he
    · cases he
    · rename_i hne
      cases he
      obtain ⟨f1, f2⟩ := hF D h hl
      refine ⟨Gd.set h f1 hne, ⟨by simp, fun y hy v hv => ?_⟩, fun y hy hyX => ?_⟩
      · rw [domAt_set (by rw [hl]; exact hx.2)] at hv
        split at hv
        · rename_i e
          rw [show y = x by have := hx.1; omega]; exact f2 v hv
        · exact hv
      · rw [domAt_set (by rw [hl]; exact hx.2), if_neg]
        intro e
        exact hyX (by rw [show (y : Int) = x by have := hx.1; have : ((y : Int)).toNat = y := rfl; omega]; exact hX)
  · intro D D' E' h h' hl hs he
    have hl' : D'.length = n := hs.1.trans hl
    unfold putS at he ⊢
    split at he
    · cases he
    · rename_i hne
      cases he
      obtain ⟨f1, f2⟩ := hF D' h' hl'
      obtain ⟨v, hv⟩ := mem_ex f1 hne
      have hv2 := hM D D' h h' hl hs v hv
      have hne2 : F D ≠ [] := fun e => by rw [e] at hv2; exact hv2
      rw [if_neg hne2]
      refine ⟨_, rfl, by simp [hs.1], fun y hy u hu => ?_⟩
      rw [domAt_set (by rw [hl']; exact hx.2)] at hu
      rw [domAt_set (by rw [hl]; exact hx.2)]
      split at hu
      · rename_i e; rw [if_pos e]; exact hM D D' h h' hl hs u hu
      · rename_i e; rw [if_neg e]; exact hs.2 y hy u hu
theorem thn_ok {n : Nat} {X : List Int} {f g : St} (hf : Okp n X f) (hg : Okp n X g) : Okp n X (thn f g) := by
  constructor
  · intro D E h hl he
    unfold thn at he
    cases e : f D with
    | none => rw [e] at he; cases he
    | some D1 =>
      rw [e] at he
      obtain ⟨a1, a2, a3⟩ := hf.ok D D1 h hl e
      obtain ⟨b1, b2, b3⟩ := hg.ok D1 E a1 (a2.1.trans hl) he
      exact ⟨b1, b2.trans a2, fun y hy hX => (b3 y hy hX).trans (a3 y hy hX)⟩
  · intro D D' E' h h' hl hs he
    have hl' : D'.length = n := hs.1.trans hl
    unfold thn at he ⊢
    cases e' : f D' with
    | none => rw [e'] at he; cases he
    | some D1' =>
      rw [e'] at he
      obtain ⟨D1, e1, s1⟩ := hf.mo D D' D1' h h' hl hs e'
      obtain ⟨a1, a2, a3⟩ := hf.ok D D1 h hl e1
      obtain ⟨b1, b2, b3⟩ := hf.ok D' D1' h' hl' e'
      rw [e1]
      exact hg.mo D1 D1' E' a1 b1 (a2.1.trans hl) s1 he
theorem if_ok {n : Nat} {X : List Int} {P : Ln.Ds → Bool} {f : St} (hP : ∀ D D', Gd D → Gd D' → D.length = n → Sub D' D → P D = true → P D' = true) (hf : Okp n X f) : Okp n X (ifS P f) := by
  constructor
  · intro D E h hl he
    unfold ifS at he
    split at he
    · exact hf.ok D E h hl he
    · cases he; exact ⟨h, .refl _, fun _ _ _ => rfl⟩
  · intro D D' E' h h' hl hs he
    have hl' : D'.length = n := hs.1.trans hl
    unfold ifS at he ⊢
    split at he
    · rename_i p'
      by_cases p : P D = true
      · rw [if_pos p]; exact hf.mo D D' E' h h' hl hs he
      · rw [if_neg p]; exact ⟨D, rfl, (hf.ok D' E' h' hl' he).2.1.trans hs⟩
    · rename_i p'
      rw [if_neg (fun p => p' (hP D D' h h' hl hs p))]
      cases he
      exact ⟨D, rfl, hs⟩
/-- the ends of smaller domains -/
theorem ends_le {n : Nat} {D D' : Ln.Ds} (h : Gd D) (h' : Gd D') (hl : D.length = n) (hs : Sub D' D) {x : Int} (hx : Inn n x) : L x D ≤ L x D' ∧ L x D' ≤ H x D' ∧ H x D' ≤ H x D ∧ L x D ≤ H x D :=
  ends_sub h h' hs (x := x) ⟨hx.1, by rw [hl]; exact hx.2⟩
theorem cut_okp {n : Nat} {X : List Int} {x : Int} {l u : Ln.Ds → Int} (hx : Inn n x) (hX : x ∈ X)
    (hM : ∀ D D', Gd D → Gd D' → D.length = n → Sub D' D → l D ≤ l D' ∧ u D' ≤ u D) : Okp n X (cutS x l u) := by
  refine put_ok hx hX (fun D h hl => ⟨cut_right _ _ _, fun v hv => ((cut_ok _ _ _ (h.at_ (x := x) (by rw [hl]; exact hx.2)).1).2 v |>.1 hv).1⟩) fun D D' h h' hl hs v hv => ?_
  have g := (h.at_ (x := x) (by rw [hl]; exact hx.2)).1
  have g' := (h'.at_ (x := x) (by rw [hs.1, hl]; exact hx.2)).1
  rw [(cut_ok _ _ _ g').2] at hv
  rw [(cut_ok _ _ _ g).2]
  have := hM D D' h h' hl hs
  exact ⟨hs.2 x hx.1 v hv.1, by omega, by omega⟩
end Go.Proofs.Ytilgmkhcpmegjaa.At
end
section
namespace Go.Proofs.Ytilgmkhcpmegjaa.At
open Go.Proofs.Ytilgmkhcpmegjaa.Num Go.Proofs.Ytilgmkhcpmegjaa.Zs Go.Proofs.Ytilgmkhcpmegjaa.Sn Go.Proofs.Ytilgmkhcpmegjaa.Ln
theorem con_x {ds : Ln.Ds} {c : Cn} (h : conOk ds c = true) : c.x.all (isV ds.length) = true ∧ c.x.length ≤ 32 ∧ shp c.k c.x.length c.a.length = true := by
  simp only [conOk, numOk, Bool.and_eq_true, decide_eq_true_eq] at h
  obtain ⟨⟨⟨⟨⟨⟨⟨h1, h2⟩, h3⟩, h4⟩, h5⟩, h6⟩, h7⟩, h8⟩ := h
  exact ⟨h7, h3, h1⟩
section
variable {a : List Int} {n : Nat}
theorem sg_lo {x : Int} (hx : Inn a.length x) : L x (sing a) = valAt a x ∧ H x (sing a) = valAt a x := by
  unfold L H; rw [sing_at hx.2]; exact ⟨rfl, rfl⟩
theorem fx_of {X : List Int} {f : St} (hg : Gd (sing a)) (h : Okp a.length X f) (hn : f (sing a) ≠ none) : f (sing a) = some (sing a) := by
  cases e : f (sing a) with
  | none => exact absurd e hn
  | some E =>
    obtain ⟨h1, h2, -⟩ := h.ok _ _ hg (by simp [sing]) e
    rw [gd_sing hg h1 h2]
theorem sg_mem {x : Int} (hx : Inn a.length x) : mem (domAt (sing a) x) (valAt a x) := by rw [sing_at hx.2, Ln.mem_one]
theorem sg_rt (hg : Gd (sing a)) {x : Int} (hx : Inn a.length x) : right (domAt (sing a) x) = true := (hg.at_ (x := x) (by simpa [sing] using hx.2)).1
theorem put_ne {x : Int} {F : Ln.Ds → List Rn} {D : Ln.Ds} {v : Int} (h : mem (F D) v) : putS x F D ≠ none := by
  unfold putS
  split
  · rename_i e; rw [e] at h; exact h.elim
  · simp
theorem cut_fx (hg : Gd (sing a)) {x : Int} (hx : Inn a.length x) {l u : Ln.Ds → Int} (h1 : l (sing a) ≤ valAt a x) (h2 : valAt a x ≤ u (sing a)) : cutS x l u (sing a) = some (sing a) := by
  have e : cutS x l u (sing a) = cutS x (fun _ => l (sing a)) (fun _ => u (sing a)) (sing a) := rfl
  rw [e]
  refine fx_of hg (cut_okp (X := [x]) hx (by simp) fun _ _ _ _ _ _ => ⟨Int.le_refl _, Int.le_refl _⟩) (put_ne (v := valAt a x) ?_)
  rw [(cut_ok _ _ _ (sg_rt hg hx)).2]
  exact ⟨sg_mem hx, h1, h2⟩
theorem if_fx {P : Ln.Ds → Bool} {f : St} {D : Ln.Ds} (h : P D = true → f D = some D) : ifS P f D = some D := by
  unfold ifS
  split
  · rename_i p; exact h p
  · rfl
theorem thn_fx {f g : St} {D : Ln.Ds} (h : f D = some D) (k : g D = some D) : thn f g D = some D := by unfold thn; rw [h]; exact k
end
theorem thn_ex {f g : St} {D E : Ln.Ds} (h : thn f g D = some E) : ∃ D1, f D = some D1 ∧ g D1 = some E := by
  unfold thn at h
  cases e : f D with
  | none => rw [e] at h; cases h
  | some D1 => rw [e] at h; exact ⟨D1, rfl, h⟩
theorem cut_mem {n : Nat} {x : Int} {l u : Ln.Ds → Int} {D D1 : Ln.Ds} (h : Gd D) (hl : D.length = n) (hx : Inn n x) (he : cutS x l u D = some D1) : ∀ v, mem (domAt D1 x) v → l D ≤ v ∧ v ≤ u D := fun v hv => by
  unfold cutS putS at he
  dsimp only at he
  split at he
  · cases he
  · cases he
    rw [domAt_set (by rw [hl]; exact hx.2), if_pos rfl, (cut_ok _ _ _ (h.at_ (x := x) (by rw [hl]; exact hx.2)).1).2] at hv
    exact hv.2
end Go.Proofs.Ytilgmkhcpmegjaa.At
end
