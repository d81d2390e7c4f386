/- Layer 12 (linear): the document's own Lo, Hi, Fixed, Empty, With, Opposite. Layers 11, 12: the document's own  -/
import Derived.Test.YtilgmkhcpmegjaaKd
import Derived.Deep.LoopGhost
import Derived.Test.YtilgmkhcpmegjaaSf
import Derived.Test.YtilgmkhcpmegjaaQbd
set_option linter.unusedVariables false
set_option linter.unusedSimpArgs false
section
namespace Go.Proofs.Ytilgmkhcpmegjaa.Ln
open Go.RowKit
open Go.Proofs.Ytilgmkhcpmegjaa.Dig Go.Proofs.Ytilgmkhcpmegjaa.Lx Go.Proofs.Ytilgmkhcpmegjaa.Tk Go.Proofs.Ytilgmkhcpmegjaa.Ti Go.Proofs.Ytilgmkhcpmegjaa.Zs Go.Proofs.Ytilgmkhcpmegjaa.Tr Go.Proofs.Ytilgmkhcpmegjaa.Sn
theorem kD2 : Kind1 Try.prog 26 43 := knd1 Try.underlying26 (show (Try.prog.info? 43).map (fun i => (i.zero, i.size, i.bytes)) = some (some (.slice none 0 0), 1, 24) by kernel_rfl) (by decide) rfl
/-- the call ends in domains -/
def RetD (E : Ds) (w : World) (e : Ending) (w' : World) : Prop := ∃ A n c, e = .returned (.slice A n c) ∧ E.length = n ∧ Sl 1 QD w' (.slice A n c) E ∧ Since w w'
section
open Go.RowKit
open Go.Proofs.Ytilgmkhcpmegjaa.Dig Go.Proofs.Ytilgmkhcpmegjaa.Lx Go.Proofs.Ytilgmkhcpmegjaa.Tk Go.Proofs.Ytilgmkhcpmegjaa.Ti Go.Proofs.Ytilgmkhcpmegjaa.Zs Go.Proofs.Ytilgmkhcpmegjaa.Tr Go.Proofs.Ytilgmkhcpmegjaa.Sn
set_option maxRecDepth 20000 in
set_option maxHeartbeats 2000000 in
theorem rfit_any (v vd : Value) (c : Cn) (ds : List (List Rn)) (w : World) (h : ConAt w v c) (hd : Sl 1 QD w vd ds) (hs : SzM ⟨ds, [c], 0, 0⟩) (hbd : ∀ d ∈ ds, Bd d) :
    Calls Try.prog 28 #[v, vd] w (fun e w' => e = .returned (.bool (modOk ⟨ds, [c], 0, 0⟩)) ∧ Since w w' ∧ True) := by
  have MR := Lib.hid (fun W v (k : Since w W) (h : ModAt W v ⟨ds, [c], 0, 0⟩) => rmright_any v ⟨ds, [c], 0, 0⟩ W h hs hbd)
  obtain ⟨R, hR⟩ : ∃ R, R = modOk ⟨ds, [c], 0, 0⟩ := ⟨_, rfl⟩
  rw [← hR] at MR ⊢
  obtain ⟨vx, vy, rfl, h1, h2⟩ := h
  obtain ⟨ck, cx, ca, cc⟩ := c
  simp only at *
  obtain ⟨X, xc, rfl⟩ := h1.form
  obtain ⟨Y, yc, rfl⟩ := h2.form
  obtain ⟨D, dc, rfl⟩ := hd.form
  generalize hnx : cx.length = nx at *
  generalize hny : ca.length = ny at *
  generalize hnd : ds.length = nd at *
  have ka := since_alloc w (.cells #[.int .i64 ck, .slice X nx xc, .slice Y ny yc, .int .i64 cc] 25)
  have kb := since_alloc (w.alloc (.cells #[.int .i64 ck, .slice X nx xc, .slice Y ny yc, .int .i64 cc] 25)) (.cells #[.int .i64 ck, .slice X nx xc, .slice Y ny yc, .int .i64 cc] 25)
  have CL := con_lit (w.alloc (.cells #[.int .i64 ck, .slice X nx xc, .slice Y ny yc, .int .i64 cc] 25)) ⟨ck, cx, ca, cc⟩ (.slice X nx xc) (.slice Y ny yc) (h1.since stI ka) (h2.since stI ka)
  rw [show (w.alloc (.cells #[.int .i64 ck, .slice X nx xc, .slice Y ny yc, .int .i64 cc] 25)).heap.size = w.heap.size + 1 by simp] at CL
  simp only at CL
  have M := Lib.hid (MR.out ((w.alloc (.cells #[.int .i64 ck, .slice X nx xc, .slice Y ny yc, .int .i64 cc] 25)).alloc (.cells #[.int .i64 ck, .slice X nx xc, .slice Y ny yc, .int .i64 cc] 25)) (.agg #[.slice D nd dc, .slice (some ⟨w.heap.size + 1, 0, none⟩) 1 1, .int .i64 0, .int .i64 0]) (ka.trans kb) ⟨_, _, rfl, hd.since stD (ka.trans kb), CL⟩)
  have K := Lib.hid (ka.trans kb)
  obtain ⟨b0, b1, b2, b3⟩ := bx4 (Bx.fresh w #[.int .i64 ck, .slice X nx xc, .slice Y ny yc, .int .i64 cc] 25)
  clear MR hR h1 h2 hd hs CL ka kb hnx hny hnd hbd
  go_enter Try.func28, Try.ntmps28
  go_wp2_with (go_at_call 79; (with_reducible refine M.out.mono ?_); rintro e w2 ⟨rfl, k2⟩; have K2 := Lib.hid (K.out.trans k2); clear k2)
  go_ret
  exact ⟨rfl, K2.out, trivial⟩
end
end Go.Proofs.Ytilgmkhcpmegjaa.Ln
end
section
namespace Go.Proofs.Ytilgmkhcpmegjaa.Ev
open Go.RowKit
open Go.Proofs.Ytilgmkhcpmegjaa.Dig Go.Proofs.Ytilgmkhcpmegjaa.Lx Go.Proofs.Ytilgmkhcpmegjaa.Tk Go.Proofs.Ytilgmkhcpmegjaa.Ti Go.Proofs.Ytilgmkhcpmegjaa.Zs Go.Proofs.Ytilgmkhcpmegjaa.Tr Go.Proofs.Ytilgmkhcpmegjaa.Sn Go.Proofs.Ytilgmkhcpmegjaa.Ln
theorem nfo_list : (Try.prog.info? 23).map (fun i => (i.zero, i.size, i.bytes)) = some (some (.slice none 0 0), 1, 24) := by kernel_rfl
theorem nLL : Kind1 Try.prog 39 23 := knd1 Try.underlying39 nfo_list (by decide) rfl
def QL (w : World) (l : List Int) (u : List Value) : Prop := ∃ v, u = [v] ∧ Sl 1 QI w v l
theorem stL : St QL := fun w w' x u ⟨v, h1, h2⟩ k => ⟨v, h1, h2.since stI k⟩
theorem elL {w : World} {A : Option Addr} {n c : Nat} {xs : List (List Int)} (h : Sl 1 QL w (.slice A n c) xs) {i : Nat} (hi : i < xs.length) :
    ∃ b o B d, A = some ⟨b, o, none⟩ ∧ Sl 1 QI w (.slice B xs[i].length d) xs[i] ∧ w.cell? ⟨b, o + i, none⟩ = some (.slice B xs[i].length d) := by
  obtain ⟨b, o, y, h1, ⟨v, h2, h3⟩, h4⟩ := el1 h hi
  injection h2 with h2
  subst h2
  obtain ⟨B, d, rfl⟩ := h3.form
  exact ⟨b, o, B, d, h1, h3, h4⟩
/-- a list that does not lie in the row R -/
def QEl (R : Value) (w : World) (d : List Int) (u : List Value) : Prop := ∃ v, u = [v] ∧ Sl 1 QI w v d ∧ ∀ b, v.ownBlock = some b → b < w.heap.size ∧ R.ownBlock ≠ some b
theorem QEl.since {R : Value} {w w' : World} {d : List Int} {u : List Value} (h : QEl R w d u) (k : Since w w') : QEl R w' d u := by
  obtain ⟨v, h1, h2, h3⟩ := h
  exact ⟨v, h1, h2.since stI k, fun b hb => ⟨Nat.lt_of_lt_of_le (h3 b hb).1 k.size, (h3 b hb).2⟩⟩
theorem QEl.app {R R' : Value} {w w' : World} {d : List Int} {u : List Value} (h : QEl R w d u) (k : Wide R R' w w') : QEl R' w' d u := by
  obtain ⟨v, h1, h2, h3⟩ := h
  refine ⟨v, h1, Sl.kept (G := fun b => R.ownBlock = some b) (Q := QI) (Q' := QI) k.1 (fun b hb => hb) (fun _ _ h => h) h2 ?_, fun b hb => ⟨Nat.lt_of_lt_of_le (h3 b hb).1 k.1.size, fun e => ?_⟩⟩
  · rintro b o n c rfl hn e
    exact (h3 b rfl).2 e
  · rcases k.2 with e2 | e2
    · exact (h3 b hb).2 (e2 ▸ e)
    · rw [e] at e2
      injection e2 with e2
      have := (h3 b hb).1
      omega
/-- lists in a row of the call's own, that lie elsewhere -/
def RqL (w0 w : World) (v : Value) (xs : List (List Int)) : Prop := Rq 23 (QEl v w) w0 w v xs
theorem RqL.nil {w0 w : World} (h : Since w0 w) : RqL w0 w (.slice none 0 0) [] := Rq.nil _ _ h
theorem RqL.s {w0 w : World} {v : Value} {xs : List (List Int)} (h : RqL w0 w v xs) : Since w0 w := Rq.s h
theorem RqL.sl {w0 w : World} {v : Value} {xs : List (List Int)} (h : RqL w0 w v xs) : Sl 1 QL w v xs := by
  obtain ⟨A, c, h1, h2, h3⟩ := Rq.sl h
  refine ⟨A, c, h1, h2, fun hl => ?_⟩
  obtain ⟨b, o, h4, h5⟩ := h3 hl
  refine ⟨b, o, h4, fun i x hx => ?_⟩
  obtain ⟨u, ⟨v', e1, e2, e3⟩, h7, h8⟩ := h5 i x hx
  exact ⟨u, ⟨v', e1, e2⟩, h7, h8⟩
theorem RqL.since {w0 w w' : World} {v : Value} {xs : List (List Int)} (h : RqL w0 w v xs) (k : Since w w') : RqL w0 w' v xs := by
  obtain ⟨cs, h1, h2, h3⟩ := h
  exact ⟨cs, owns_since h1 k, h2.mono fun x u hu => QEl.since hu k, h3.trans k⟩
theorem RqL.app {w0 w : World} {v : Value} {xs : List (List Int)} (H : RqL w0 w v xs) (hl : xs.length ≤ 1000000) (x : List Int) (y : Value) (hQ : QEl v w x [y]) (h1 : y.oneCell' = true) (g d : Nat) (hb : w.cell? ⟨g, 0, none⟩ = some y)
    {ops : Array Oper} {rest : List Oper} {o : Oper} {a : Act} {R : Exit → Act → World → Prop} (hw : Region.wanted o (yielded ops a.tmps) = true) (s z : Operand)
    (ho : o.op = .call { callee := .builtin .append, args := #[s, z], argTypes := #[39, 39] }) (hs : a.eval s = v) (hx : a.eval z = .slice (some ⟨g, 0, none⟩) 1 d)
    (h : ∀ A c w', RqL w0 w' (.slice A (xs.length + 1) c) (xs ++ [x]) → QEl (.slice A (xs.length + 1) c) w' x [y] → wpList Try.prog ops R rest (a.put o.dst (.slice A (xs.length + 1) c)) w') : wpList Try.prog ops R (o :: rest) a w :=
  wpList_appW nLL H hl x y hQ h1 g d hb hw s z ho hs hx fun A c w' h3 q3 => h A c w' (by
    obtain ⟨cs, q1, q2, q4⟩ := h3
    exact ⟨cs, q1, q2.mono fun x u hu => QEl.app hu q3, q4⟩) (QEl.app hQ q3)
theorem QEl.read {R v : Value} {w : World} {l : List Int} (h : QEl R w l [v]) : Sl 1 QI w v l := by
  obtain ⟨v', h1, h2, h3⟩ := h
  injection h1 with h1
  subst h1; exact h2
theorem rq_lt {w0 w : World} {v : Value} {xs : List (List Int)} (h : RqL w0 w v xs) : ∀ b, v.ownBlock = some b → b < w.heap.size := fun b hb => (Rq.lt h b hb).2
theorem run_mem {f : List Int → Option (List Int)} {a : List Int} {T : List (List Int)} (h : Run f a T) : a ∈ T ∧ 0 < T.length := by
  cases h with
  | last _ => simp
  | more _ _ => simp
theorem run_step {f : List Int → Option (List Int)} {a b : List Int} {T : List (List Int)} (h : Run f a T) (hb : f a = some b) : ∃ T', T = a :: T' ∧ Run f b T' := by
  cases h with
  | last h => rw [h] at hb; cases hb
  | more h r => rw [h] at hb; cases hb; exact ⟨_, rfl, r⟩
theorem owns_from {w : World} {m n : Nat} {e : TypeId} {size : Nat} {v : Value} {k : Nat} {xs : List Value} (h : w.ownsRow n e size v k xs) (hm : m ≤ n) : w.ownsRow m e size v k xs := by
  obtain ⟨h1, h2⟩ := h
  refine ⟨h1, ?_⟩
  rcases h2 with h2 | ⟨g, cap, cur, a, b, c⟩
  · exact .inl h2
  · exact .inr ⟨g, cap, cur, a, Nat.le_trans hm b, c⟩
theorem rq_from {w0 w W : World} {v : Value} {xs : List Int} (k : Since w0 w) (h : Rq 2 QI0 w W v xs) : Rq 2 QI0 w0 W v xs := by
  obtain ⟨cs, h1, h2, h3⟩ := h
  exact ⟨cs, owns_from h1 k.size, h2, k.trans h3⟩
theorem run_last {f : List Int → Option (List Int)} {a : List Int} {T : List (List Int)} (h : Run f a T) (hb : f a = none) : T = [a] := by
  cases h with
  | last h => rfl
  | more h r => rw [h] at hb; cases hb
def okI (b : Bool) (n : Nat) : Nat := if b then n else 0
end Go.Proofs.Ytilgmkhcpmegjaa.Ev
end
section
namespace Go.Proofs.Ytilgmkhcpmegjaa.Sn
open Go.RowKit
open Go.Proofs.Ytilgmkhcpmegjaa.Dig Go.Proofs.Ytilgmkhcpmegjaa.Lx Go.Proofs.Ytilgmkhcpmegjaa.Tk Go.Proofs.Ytilgmkhcpmegjaa.Ti Go.Proofs.Ytilgmkhcpmegjaa.Zs Go.Proofs.Ytilgmkhcpmegjaa.Tr
theorem len2 {v : List Int} (h : v.length = 2) : ∃ p q, v = [p, q] := by
  match v, h with
  | [p, q], _ => exact ⟨p, q, rfl⟩
theorem len3 {v : List Int} (h : v.length = 3) : ∃ p q r, v = [p, q, r] := by
  match v, h with
  | [p, q, r], _ => exact ⟨p, q, r, rfl⟩
theorem cells3 {w : World} {B : Option Addr} {bc : Nat} {p q r : Int} (h : Sl 1 QI w (.slice B 3 bc) [p, q, r]) : ∃ g o, B = some ⟨g, o, none⟩ ∧ ∀ W, Since w W → W.cell? ⟨g, o, none⟩ = some (.int .i64 p) ∧ W.cell? ⟨g, o + 1, none⟩ = some (.int .i64 q) ∧ W.cell? ⟨g, o + 2, none⟩ = some (.int .i64 r) := by
  obtain ⟨g, o, rfl, -⟩ := elI h (i := 0) (by simp)
  refine ⟨g, o, rfl, fun W k => ?_⟩
  obtain ⟨g1, o1, e1, c1⟩ := elI (h.since stI k) (i := 0) (by simp)
  obtain ⟨g2, o2, e2, c2⟩ := elI (h.since stI k) (i := 1) (by simp)
  obtain ⟨g3, o3, e3, c3⟩ := elI (h.since stI k) (i := 2) (by simp)
  cases e1; cases e2; cases e3
  exact ⟨c1, c2, c3⟩
set_option maxRecDepth 20000 in
set_option maxHeartbeats 3000000 in
theorem rholds14 (v va : Value) (cx ca : List Int) (cc : Int) (a : List Int) (w : World) (h : ConAt w v ⟨14, cx, ca, cc⟩) (ha : Sl 1 QI w va a) (hx : cx.length ≤ 1100000) (hca : ca.length ≤ 1100000) (hla : a.length ≤ 1100000) (hq : asked ⟨14, cx, ca, cc⟩ a = true) :
    Calls Try.prog 59 #[v, va] w (RetT (holdV 14 (vals cx a) ca cc) w) := by
  obtain ⟨hin, hkv⟩ := asked_parts hq
  simp only at hin hkv
  obtain ⟨p1, p2, p3, p4, p5, p6, p7, p8⟩ := askV_all hkv
  have hp3 : (vals cx a).length = 3 := by have := p2; simp [shp] at this; omega
  have hx3 : cx.length = 3 := by rw [← vals_len cx a]; exact hp3
  have AK := Lib.hid (fun W (k : Since w W) => by have := rasked_any v va _ a W (h.since k) (ha.since stI k) hx hca hla; rw [hq] at this; exact this)
  have VA := Lib.hid (fun W (k : Since w W) => show Calls Try.prog 115 #[v, va] W (fun e w' => ∃ B bc, e = .returned (.slice B 3 bc) ∧ Rb w w' (.slice B 3 bc) (vals cx a) ∧ Since W w') by have := rvalues_at h ha (by simp only; omega) hin W k; simp only [hx3] at this; exact this)
  have LN := Lib.hid (fun W => rlinear_any 14 W)
  generalize vals cx a = vl at *
  obtain ⟨p, q, r, rfl⟩ := len3 hp3
  have hpa := List.all_eq_true.1 p1
  obtain ⟨pl, ph⟩ := (within_iff2 p).1 (hpa p (by simp))
  obtain ⟨ql, qh⟩ := (within_iff2 q).1 (hpa q (by simp))
  obtain ⟨rl, rh⟩ := (within_iff2 r).1 (hpa r (by simp))
  obtain ⟨vx, vy, rfl, h1, h2⟩ := h
  simp only at *
  obtain ⟨X, xc, rfl⟩ := h1.form
  obtain ⟨Y, yc, rfl⟩ := h2.form
  obtain ⟨A, ac, rfl⟩ := ha.form
  generalize cx.length = nx at *
  generalize ca.length = na at *
  generalize a.length = nl at *
  have ka := Lib.hid (since_alloc w (.cells #[.int .i64 14, .slice X nx xc, .slice Y na yc, .int .i64 cc] 25))
  have BC := Lib.hid (Bx.fresh w #[.int .i64 14, .slice X nx xc, .slice Y na yc, .int .i64 cc] 25)
  clear h1 h2 ha hq hkv p1 p2 p3 p4 p5 p6 p7 p8 hin hpa hp3 hx3
  go_enter Try.func59, Try.ntmps59
  go_wp2_with (first | (go_at_call 113; (with_reducible refine (AK.out _ ka.out).mono ?_); rintro e w2 ⟨rfl, k2⟩; have K2 := Lib.hid (ka.out.trans k2); have L2 := Lib.hid k2; clear k2; obtain ⟨b0, b1, b2, b3⟩ := bx4 (BC.out.since L2.out)) | (go_at_call 115; (with_reducible refine (VA.out _ K2.out).mono ?_); rintro e w3 ⟨B, bc, rfl, q1, k3⟩; have K3 := Lib.hid (K2.out.trans k3); have L3 := Lib.hid (L2.out.trans k3); have Q1 := Lib.hid q1.sl; clear q1 k3; obtain ⟨b0, b1, b2, b3⟩ := bx4 (BC.out.since L3.out); obtain ⟨gb, ob, hB, CC⟩ := cells3 Q1.out; subst hB; have CC := Lib.hid CC; obtain ⟨c0, c1, c2⟩ := CC.out _ (Since.refl _)) | (go_at_call 112; (with_reducible refine (LN.out _).mono ?_); rintro e w4 ⟨rfl, rfl⟩))
  have hr0 : Since w4 w4.drew := Since.drew (Since.refl w4)
  refine wp_region_noPanic ?_
  refine Reg.wp_region_G (S := fun _ => True) (fun j => [].contains j) (by kernel_rfl) trivial ?_
  refine' Reg.tk3 (i := 0) (v := _) (some 126) [1, 2, 3, 11, 12] [] rfl (Or.inl ⟨by rfl, Or.inl ?hy11⟩) ?rest11
  case hy11 => (intro w' kk ss; obtain ⟨x0, x1, x2', x3⟩ := bx4 (BC.out.since (L3.out.trans (hr0.trans kk))); obtain ⟨y0, y1, y2⟩ := CC.out _ (hr0.trans kk); go_simp; first | done | with_reducible rfl)
  try simp only [Act.put, List.setIfInBounds_toArray, List.set_cons_zero, List.set_cons_succ]
  refine' Reg.tk3 (i := 1) (v := _) (some 127) [2, 3, 11, 12] [] rfl (Or.inl ⟨by rfl, Or.inl ?hy12⟩) ?rest12
  case hy12 => (intro w' kk ss; obtain ⟨x0, x1, x2', x3⟩ := bx4 (BC.out.since (L3.out.trans (hr0.trans kk))); obtain ⟨y0, y1, y2⟩ := CC.out _ (hr0.trans kk); go_simp; first | done | with_reducible rfl)
  try simp only [Act.put, List.setIfInBounds_toArray, List.set_cons_zero, List.set_cons_succ]
  refine' Reg.tk3 (i := 2) (v := _) (some 128) [3, 11, 12] [] rfl (Or.inl ⟨by rfl, Or.inl ?hy13⟩) ?rest13
  case hy13 => (intro w' kk ss; obtain ⟨x0, x1, x2', x3⟩ := bx4 (BC.out.since (L3.out.trans (hr0.trans kk))); obtain ⟨y0, y1, y2⟩ := CC.out _ (hr0.trans kk); go_simp; first | done | with_reducible rfl)
  try simp only [Act.put, List.setIfInBounds_toArray, List.set_cons_zero, List.set_cons_succ]
  refine' Reg.tk3 (i := 3) (v := _) (some 129) [11, 12] [] rfl (Or.inl ⟨by rfl, Or.inl ?hy14⟩) ?rest14
  case hy14 => (intro w' kk ss; obtain ⟨x0, x1, x2', x3⟩ := bx4 (BC.out.since (L3.out.trans (hr0.trans kk))); obtain ⟨y0, y1, y2⟩ := CC.out _ (hr0.trans kk); go_simp; first | done | with_reducible rfl)
  try simp only [Act.put, List.setIfInBounds_toArray, List.set_cons_zero, List.set_cons_succ]
  refine' Reg.tk3 (i := 4) (v := _) (some 130) [5, 6, 10, 11, 12] [] rfl (Or.inl ⟨by rfl, Or.inl ?hy15⟩) ?rest15
  case hy15 => (intro w' kk ss; obtain ⟨x0, x1, x2', x3⟩ := bx4 (BC.out.since (L3.out.trans (hr0.trans kk))); obtain ⟨y0, y1, y2⟩ := CC.out _ (hr0.trans kk); go_simp; first | done | with_reducible rfl)
  try simp only [Act.put, List.setIfInBounds_toArray, List.set_cons_zero, List.set_cons_succ]
  refine' Reg.tk3 (i := 5) (v := _) (some 131) [6, 10, 11, 12] [] rfl (Or.inl ⟨by rfl, Or.inl ?hy16⟩) ?rest16
  case hy16 => (intro w' kk ss; obtain ⟨x0, x1, x2', x3⟩ := bx4 (BC.out.since (L3.out.trans (hr0.trans kk))); obtain ⟨y0, y1, y2⟩ := CC.out _ (hr0.trans kk); go_simp; first | done | with_reducible rfl)
  try simp only [Act.put, List.setIfInBounds_toArray, List.set_cons_zero, List.set_cons_succ]
  refine' Reg.tk3 (i := 6) (v := _) (some 132) [10, 11, 12] [] rfl (Or.inl ⟨by rfl, Or.inl ?hy17⟩) ?rest17
  case hy17 => (intro w' kk ss; obtain ⟨x0, x1, x2', x3⟩ := bx4 (BC.out.since (L3.out.trans (hr0.trans kk))); obtain ⟨y0, y1, y2⟩ := CC.out _ (hr0.trans kk); go_simp; first | done | with_reducible rfl)
  try simp only [Act.put, List.setIfInBounds_toArray, List.set_cons_zero, List.set_cons_succ]
  refine' Reg.tk3 (i := 7) (v := _) (some 133) [8, 9, 10, 11, 12] [] rfl (Or.inl ⟨by rfl, Or.inl ?hy18⟩) ?rest18
  case hy18 => (intro w' kk ss; obtain ⟨x0, x1, x2', x3⟩ := bx4 (BC.out.since (L3.out.trans (hr0.trans kk))); obtain ⟨y0, y1, y2⟩ := CC.out _ (hr0.trans kk); go_simp; first | done | with_reducible rfl)
  try simp only [Act.put, List.setIfInBounds_toArray, List.set_cons_zero, List.set_cons_succ]
  refine' Reg.tk3 (i := 8) (v := _) (some 134) [9, 10, 11, 12] [] rfl (Or.inl ⟨by rfl, Or.inl ?hy19⟩) ?rest19
  case hy19 => (intro w' kk ss; obtain ⟨x0, x1, x2', x3⟩ := bx4 (BC.out.since (L3.out.trans (hr0.trans kk))); obtain ⟨y0, y1, y2⟩ := CC.out _ (hr0.trans kk); go_simp; first | done | with_reducible rfl)
  try simp only [Act.put, List.setIfInBounds_toArray, List.set_cons_zero, List.set_cons_succ]
  refine' Reg.tk3 (i := 9) (v := _) (some 135) [10, 11, 12] [] rfl (Or.inl ⟨by rfl, Or.inl ?hy20⟩) ?rest20
  case hy20 => (intro w' kk ss; obtain ⟨x0, x1, x2', x3⟩ := bx4 (BC.out.since (L3.out.trans (hr0.trans kk))); obtain ⟨y0, y1, y2⟩ := CC.out _ (hr0.trans kk); go_simp; first | done | with_reducible rfl)
  try simp only [Act.put, List.setIfInBounds_toArray, List.set_cons_zero, List.set_cons_succ]
  refine' Reg.tk3 (i := 10) (v := _) (some 136) [11, 12] [] rfl (Or.inl ⟨by rfl, Or.inl ?hy21⟩) ?rest21
  case hy21 => (intro w' kk ss; obtain ⟨x0, x1, x2', x3⟩ := bx4 (BC.out.since (L3.out.trans (hr0.trans kk))); obtain ⟨y0, y1, y2⟩ := CC.out _ (hr0.trans kk); go_simp; first | done | with_reducible rfl)
  try simp only [Act.put, List.setIfInBounds_toArray, List.set_cons_zero, List.set_cons_succ]
  refine' Reg.tk3 (i := 11) (v := _) (some 137) [12] [] rfl (Or.inl ⟨by rfl, Or.inl ?hy22⟩) ?rest22
  case hy22 => (intro w' kk ss; obtain ⟨x0, x1, x2', x3⟩ := bx4 (BC.out.since (L3.out.trans (hr0.trans kk))); obtain ⟨y0, y1, y2⟩ := CC.out _ (hr0.trans kk); go_simp; first | done | with_reducible rfl)
  try simp only [Act.put, List.setIfInBounds_toArray, List.set_cons_zero, List.set_cons_succ]
  refine' Reg.tk3 (i := 12) (v := _) (some 4) [] [] rfl (Or.inl ⟨by rfl, Or.inl ?hy23⟩) ?rest23
  case hy23 => (intro w' kk ss; obtain ⟨x0, x1, x2', x3⟩ := bx4 (BC.out.since (L3.out.trans (hr0.trans kk))); obtain ⟨y0, y1, y2⟩ := CC.out _ (hr0.trans kk); go_simp; first | done | with_reducible rfl)
  try simp only [Act.put, List.setIfInBounds_toArray, List.set_cons_zero, List.set_cons_succ]
  refine Reg.wpG_done (by kernel_rfl) (fun we ke se => ?_) _
  refine NoPanic.normal ?_
  have hr0 := hr0.trans ke
  clear ke
  go_wp2
  all_goals
    go_ret
    refine RetT.of ?_ (K3.out.trans hr0)
    first | rfl | (simp [holdV, flg, lastV]; done) | (rw [Bool.eq_iff_iff]; simp [holdV]; omega)
end Go.Proofs.Ytilgmkhcpmegjaa.Sn
end
section
namespace Go.Proofs.Ytilgmkhcpmegjaa.Sn
open Go.RowKit
open Go.Proofs.Ytilgmkhcpmegjaa.Dig Go.Proofs.Ytilgmkhcpmegjaa.Lx Go.Proofs.Ytilgmkhcpmegjaa.Tk Go.Proofs.Ytilgmkhcpmegjaa.Ti Go.Proofs.Ytilgmkhcpmegjaa.Zs Go.Proofs.Ytilgmkhcpmegjaa.Tr
set_option maxRecDepth 20000 in
set_option maxHeartbeats 2000000 in
theorem rholdsG_any (v va : Value) (c : Cn) (a : List Int) (w : World) (h : ConAt w v c) (ha : Sl 1 QI w va a) (hx : c.x.length ≤ 1100000) (hca : c.a.length ≤ 1100000) (hla : a.length ≤ 1100000) (hk6 : c.k = 11 ∨ c.k = 12 ∨ c.k = 13 ∨ c.k = 14) :
    Calls Try.prog 59 #[v, va] w (RetT (holds c a) w) := by
  cases hk : asked c a with
  | false =>
    have e : holds c a = false := by rw [holds, hk]; rfl
    rw [e]
    have AK := Lib.hid (fun W (k : Since w W) => by have := rasked_any v va c a W (h.since k) (ha.since stI k) hx hca hla; rw [hk] at this; exact this)
    obtain ⟨vx, vy, rfl, h1, h2⟩ := h
    obtain ⟨X, xc, rfl⟩ := h1.form
    obtain ⟨Y, yc, rfl⟩ := h2.form
    obtain ⟨A, ac, rfl⟩ := ha.form
    generalize c.x.length = nx at *
    generalize c.a.length = na at *
    generalize a.length = nl at *
    have ka := Lib.hid (since_alloc w (.cells #[.int .i64 c.k, .slice X nx xc, .slice Y na yc, .int .i64 c.c] 25))
    clear h1 h2 ha hk e hk6
    go_enter Try.func59, Try.ntmps59
    go_wp2_with (go_at_call 113; (with_reducible refine (AK.out _ ka.out).mono ?_); rintro e w2 ⟨rfl, k2⟩)
    go_ret
    exact ⟨rfl, ka.out.trans k2⟩
  | true =>
    have e : holds c a = holdV c.k (vals c.x a) c.a c.c := by rw [holds, hk]; rfl
    rw [e]
    obtain ⟨ck, cx, ca, cc⟩ := c
    simp only at *
    rcases hk6 with rfl | rfl | rfl | rfl
    · exact rholds11 v va cx ca cc a w h ha hx hca hla hk
    · exact rholds12 v va cx ca cc a w h ha hx hca hla hk
    · exact rholds13 v va cx ca cc a w h ha hx hca hla hk
    · exact rholds14 v va cx ca cc a w h ha hx hca hla hk
end Go.Proofs.Ytilgmkhcpmegjaa.Sn
end
