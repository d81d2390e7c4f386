/- Layers 11, 12: the document's own Every, of one constraint. -/
import Derived.Deep.LoopGhost
import Derived.Test.YtoegbgkgenjplaaSf
import Derived.Test.YtoegbgkgenjplaaMb2
namespace Go.Proofs.Ytoegbgkgenjplaa.Ev
open Go.RowKit
set_option linter.unusedVariables false
set_option linter.unusedSimpArgs false
open Go.Proofs.Ytoegbgkgenjplaa.Dig Go.Proofs.Ytoegbgkgenjplaa.Lx Go.Proofs.Ytoegbgkgenjplaa.Tk Go.Proofs.Ytoegbgkgenjplaa.Ti Go.Proofs.Ytoegbgkgenjplaa.Zs Go.Proofs.Ytoegbgkgenjplaa.Tr Go.Proofs.Ytoegbgkgenjplaa.Sn Go.Proofs.Ytoegbgkgenjplaa.Ln
theorem nfo_list : (Try.prog.info? 23).map (fun i => (i.zero, i.size, i.bytes)) = some (some (.slice none 0 0), 1, 24) := by kernel_rfl
theorem nLL : Kind1 Try.prog 46 23 := knd1 Try.underlying46 nfo_list (by decide) rfl
def QL (w : World) (l : List Int) (u : List Value) : Prop := ∃ v, u = [v] ∧ Sl 1 QI w v l
theorem stL : St QL := fun w w' x u ⟨v, h1, h2⟩ k => ⟨v, h1, h2.since stI k⟩
theorem elL {w : World} {A : Option Addr} {n c : Nat} {xs : List (List Int)} (h : Sl 1 QL w (.slice A n c) xs) {i : Nat} (hi : i < xs.length) :
    ∃ b o B d, A = some ⟨b, o, none⟩ ∧ Sl 1 QI w (.slice B xs[i].length d) xs[i] ∧ w.cell? ⟨b, o + i, none⟩ = some (.slice B xs[i].length d) := by
  obtain ⟨b, o, y, h1, ⟨v, h2, h3⟩, h4⟩ := el1 h hi
  injection h2 with h2
  subst h2
  obtain ⟨B, d, rfl⟩ := h3.form
  exact ⟨b, o, B, d, h1, h3, h4⟩
/-- a list that does not lie in the row R -/
def QEl (R : Value) (w : World) (d : List Int) (u : List Value) : Prop := ∃ v, u = [v] ∧ Sl 1 QI w v d ∧ ∀ b, v.ownBlock = some b → b < w.heap.size ∧ R.ownBlock ≠ some b
theorem QEl.since {R : Value} {w w' : World} {d : List Int} {u : List Value} (h : QEl R w d u) (k : Since w w') : QEl R w' d u := by
  obtain ⟨v, h1, h2, h3⟩ := h
  exact ⟨v, h1, h2.since stI k, fun b hb => ⟨Nat.lt_of_lt_of_le (h3 b hb).1 k.size, (h3 b hb).2⟩⟩
theorem QEl.app {R R' : Value} {w w' : World} {d : List Int} {u : List Value} (h : QEl R w d u) (k : Wide R R' w w') : QEl R' w' d u := by
  obtain ⟨v, h1, h2, h3⟩ := h
  refine ⟨v, h1, Sl.kept (G := fun b => R.ownBlock = some b) (Q := QI) (Q' := QI) k.1 (fun b hb => hb) (fun _ _ h => h) h2 ?_, fun b hb => ⟨Nat.lt_of_lt_of_le (h3 b hb).1 k.1.size, fun e => ?_⟩⟩
  · rintro b o n c rfl hn e
    exact (h3 b rfl).2 e
  · rcases k.2 with e2 | e2
    · exact (h3 b hb).2 (e2 ▸ e)
    · rw [e] at e2
      injection e2 with e2
      have := (h3 b hb).1
      omega
/-- lists in a row of the call's own, that lie elsewhere -/
def RqL (w0 w : World) (v : Value) (xs : List (List Int)) : Prop := Rq 23 (QEl v w) w0 w v xs
theorem RqL.nil {w0 w : World} (h : Since w0 w) : RqL w0 w (.slice none 0 0) [] := Rq.nil _ _ h
theorem RqL.s {w0 w : World} {v : Value} {xs : List (List Int)} (h : RqL w0 w v xs) : Since w0 w := Rq.s h
theorem RqL.sl {w0 w : World} {v : Value} {xs : List (List Int)} (h : RqL w0 w v xs) : Sl 1 QL w v xs := by
  obtain ⟨A, c, h1, h2, h3⟩ := Rq.sl h
  refine ⟨A, c, h1, h2, fun hl => ?_⟩
  obtain ⟨b, o, h4, h5⟩ := h3 hl
  refine ⟨b, o, h4, fun i x hx => ?_⟩
  obtain ⟨u, ⟨v', e1, e2, e3⟩, h7, h8⟩ := h5 i x hx
  exact ⟨u, ⟨v', e1, e2⟩, h7, h8⟩
theorem RqL.since {w0 w w' : World} {v : Value} {xs : List (List Int)} (h : RqL w0 w v xs) (k : Since w w') : RqL w0 w' v xs := by
  obtain ⟨cs, h1, h2, h3⟩ := h
  exact ⟨cs, owns_since h1 k, h2.mono fun x u hu => QEl.since hu k, h3.trans k⟩
theorem RqL.app {w0 w : World} {v : Value} {xs : List (List Int)} (H : RqL w0 w v xs) (hl : xs.length ≤ 1000000) (x : List Int) (y : Value) (hQ : QEl v w x [y]) (h1 : y.oneCell' = true) (g d : Nat) (hb : w.cell? ⟨g, 0, none⟩ = some y)
    {ops : Array Oper} {rest : List Oper} {o : Oper} {a : Act} {R : Exit → Act → World → Prop} (hw : Region.wanted o (yielded ops a.tmps) = true) (s z : Operand)
    (ho : o.op = .call { callee := .builtin .append, args := #[s, z], argTypes := #[46, 46] }) (hs : a.eval s = v) (hx : a.eval z = .slice (some ⟨g, 0, none⟩) 1 d)
    (h : ∀ A c w', RqL w0 w' (.slice A (xs.length + 1) c) (xs ++ [x]) → QEl (.slice A (xs.length + 1) c) w' x [y] → wpList Try.prog ops R rest (a.put o.dst (.slice A (xs.length + 1) c)) w') : wpList Try.prog ops R (o :: rest) a w :=
  wpList_appW nLL H hl x y hQ h1 g d hb hw s z ho hs hx fun A c w' h3 q3 => h A c w' (by
    obtain ⟨cs, q1, q2, q4⟩ := h3
    exact ⟨cs, q1, q2.mono fun x u hu => QEl.app hu q3, q4⟩) (QEl.app hQ q3)
theorem QEl.read {R v : Value} {w : World} {l : List Int} (h : QEl R w l [v]) : Sl 1 QI w v l := by
  obtain ⟨v', h1, h2, h3⟩ := h
  injection h1 with h1
  subst h1; exact h2
theorem rq_lt {w0 w : World} {v : Value} {xs : List (List Int)} (h : RqL w0 w v xs) : ∀ b, v.ownBlock = some b → b < w.heap.size := fun b hb => (Rq.lt h b hb).2
theorem run_mem {f : List Int → Option (List Int)} {a : List Int} {T : List (List Int)} (h : Run f a T) : a ∈ T ∧ 0 < T.length := by
  cases h with
  | last _ => simp
  | more _ _ => simp
theorem run_step {f : List Int → Option (List Int)} {a b : List Int} {T : List (List Int)} (h : Run f a T) (hb : f a = some b) : ∃ T', T = a :: T' ∧ Run f b T' := by
  cases h with
  | last h => rw [h] at hb; cases hb
  | more h r => rw [h] at hb; cases hb; exact ⟨_, rfl, r⟩
theorem owns_from {w : World} {m n : Nat} {e : TypeId} {size : Nat} {v : Value} {k : Nat} {xs : List Value} (h : w.ownsRow n e size v k xs) (hm : m ≤ n) : w.ownsRow m e size v k xs := by
  obtain ⟨h1, h2⟩ := h
  refine ⟨h1, ?_⟩
  rcases h2 with h2 | ⟨g, cap, cur, a, b, c⟩
  · exact .inl h2
  · exact .inr ⟨g, cap, cur, a, Nat.le_trans hm b, c⟩
theorem rq_from {w0 w W : World} {v : Value} {xs : List Int} (k : Since w0 w) (h : Rq 2 QI0 w W v xs) : Rq 2 QI0 w0 W v xs := by
  obtain ⟨cs, h1, h2, h3⟩ := h
  exact ⟨cs, owns_from h1 k.size, h2, k.trans h3⟩
theorem run_last {f : List Int → Option (List Int)} {a : List Int} {T : List (List Int)} (h : Run f a T) (hb : f a = none) : T = [a] := by
  cases h with
  | last h => rfl
  | more h r => rw [h] at hb; cases hb
def okI (b : Bool) (n : Nat) : Nat := if b then n else 0
set_option maxRecDepth 20000 in
set_option maxHeartbeats 5000000 in
theorem every_any (vd vc : Value) (c : Cn) (ds : Ln.Ds) (w : World) (hd : Sl 1 QD w vd ds) (hc : Sl 4 QC w vc [c]) (hl : ds.length ≤ 1000) (hG : Gd ds) (hp : prodF ds ≤ 400) (hs : SzM ⟨ds, [c], 0, 0⟩) (hk6 : 1 ≤ c.k ∧ c.k ≤ 6) :
    Calls Try.prog 31 #[vd, vc] w (fun e w' => ∃ A m k, e = .returned (.slice A m k) ∧ Sl 1 QL w' (.slice A m k) ((allB vals ds).filter (holds c)) ∧ ((allB vals ds).filter (holds c)).length = m ∧ m ≤ 400 ∧ Since w w') := by
  obtain ⟨A, dc, rfl⟩ := hd.form
  obtain ⟨C, cc, rfl⟩ := hc.form
  have hcs := hs.2 c (by simp)
  have hin : [c].length = 1 := rfl
  obtain ⟨gc, oc, X, xc, Y, yc, rfl, hX, hA, c0, c1, c2, c3⟩ := elC hc (i := 0) (by simp)
  simp only [List.getElem_cons_zero, List.length_cons, List.length_nil, Nat.zero_mul, Nat.add_zero, Nat.zero_add] at c0 c1 c2 c3 hX hA ⊢
  have HC := Lib.hid (fun W (k : Since w W) => show W.cell? ⟨gc, oc, none⟩ = some (.int .i64 c.k) ∧ W.cell? ⟨gc, oc + 1, none⟩ = some (.slice X c.x.length xc) ∧ W.cell? ⟨gc, oc + 2, none⟩ = some (.slice Y c.a.length yc) ∧ W.cell? ⟨gc, oc + 3, none⟩ = some (.int .i64 c.c) from
    ⟨(k.cell _ (World.block_lt_of_cell? _ _ c0)).trans c0, (k.cell _ (World.block_lt_of_cell? _ _ c1)).trans c1, (k.cell _ (World.block_lt_of_cell? _ _ c2)).trans c2, (k.cell _ (World.block_lt_of_cell? _ _ c3)).trans c3⟩)
  have HO := Lib.hid (fun W (v : Value) (b : List Int) (k : Since w W) (hv : Sl 1 QI W v b) (hb : b.length ≤ 1000) => show Calls Try.prog 17 #[.agg #[.int .i64 c.k, .slice X c.x.length xc, .slice Y c.a.length yc, .int .i64 c.c], v] W (RetT (holds c b) W) from
    rholds6_any _ v c b W ⟨_, _, rfl, hX.since stI k, hA.since stI k⟩ hv hcs.1 hcs.2 (by omega) hk6)
  have FI := Lib.hid (fun W (k : Since w W) => first_any _ ds W (hd.since stD k) hl hG)
  have AF := Lib.hid (fun W (v : Value) (b : List Int) (k : Since w W) (hv : Sl 1 QI W v b) (hb : Wi ds b) => after_any _ v ds b W (hd.since stD k) hv hl hG hb)
  have RU := Lib.hid (all_run hG)
  have TL := Lib.hid (show (allB vals ds).length ≤ 400 by have := all_len hG; omega)
  have WI := Lib.hid (fun b (hb : b ∈ allB vals ds) => all_wi hG hb)
  obtain ⟨n, hn⟩ : ∃ n, n = List.length ds := ⟨_, rfl⟩
  rw [← hn] at hd hl FI AF ⊢
  have HN := Lib.hid hn
  have HD := Lib.hid hd
  have HG := Lib.hid hG
  generalize c.k = ck at *
  generalize c.c = cc9 at *
  generalize c.x.length = nx at *
  generalize c.a.length = ny at *
  clear hd hc hG hp hs hk6 hcs hin c0 c1 c2 c3 hX hA hn
  go_enter Try.func31, Try.ntmps31
  go_wp2
  go_loopw [6] (fun i wr => ∃ (k : Nat), i = .int .i64 (k : Int) ∧ k ≤ n ∧ Hid (Since w wr)) (fun i _ => n - (intOf i).toNat)
  case atStart => exact ⟨0, rfl, Nat.zero_le _, Lib.hid (Since.refl _)⟩
  case round =>
    obtain ⟨k, rfl, hk, HW0⟩ := hrel
    by_cases hkn : k < n
    · have hkl : k < ds.length := by have := HN.out; omega
      obtain ⟨gd, od, B, cB, rfl, hS, ed⟩ := elD (HD.out.since stD HW0.out) hkl
      have hpz : 0 < ds[k].length := List.length_pos_iff.2 (HG.out _ (List.getElem_mem hkl)).2
      generalize ds[k].length = dl at *
      have hz : ¬ dl = 0 := by omega
      have hz2 : ((dl : Int) == 0) = false := beq_eq_false_iff_ne.2 (by omega)
      clear hS hkl
      go_wp2
      go_roundw
      case rel => exact ⟨k + 1, by go_num, by omega, HW0⟩
      case measure => simp [intOf]; omega
    · obtain rfl : k = n := by omega
      go_wp2_with (go_at_call 66; (with_reducible refine (FI.out _ HW0.out).mono ?_); rintro e w1 ⟨A1, c1, rfl, h1⟩; have H1 := Lib.hid (rq_from HW0.out h1); clear h1)
      have RU2 := Lib.hid (show ∃ T, Run (nextB ds) (lows ds) T ∧ T.length ≤ 400 ∧ (∀ b ∈ T, Wi ds b) ∧ T = allB vals ds from ⟨_, RU.out, TL.out, WI.out, rfl⟩)
      obtain ⟨T0, hT0⟩ := RU2.out
      have HT0 := Lib.hid (show T0.filter (holds c) = (allB vals ds).filter (holds c) by rw [hT0.2.2.2])
      obtain ⟨FF, hFF⟩ : ∃ F, F = (allB vals ds).filter (holds c) := ⟨_, rfl⟩
      rw [← hFF] at HT0
      have HFF := Lib.hid hFF
      clear hFF
      go_loopg [5, 7, 8] (T0.length) (fun K s a ok wr => ∃ (O : Option Addr) (m oc : Nat) (B : Option Addr) (bc : Nat) (okb : Bool) (al : List Int) (LL T : List (List Int)), s = .slice O m oc ∧ a = .slice B k bc ∧ ok = .bool okb ∧ m ≤ 400 ∧ K = okI okb T.length ∧ Hid (RqL w wr (.slice O m oc) LL) ∧ Hid (LL.length = m) ∧ Hid (LL ++ (if okb then T.filter (holds c) else []) = FF) ∧ Hid (∀ b, (Value.slice B k bc).ownBlock = some b → b < wr.heap.size ∧ (Value.slice O m oc).ownBlock ≠ some b) ∧ Hid (okb = true → Sl 1 QI wr (.slice B k bc) al ∧ Wi ds al ∧ Run (nextB ds) al T ∧ m + T.length ≤ 400 ∧ ∀ b ∈ T, Wi ds b))
      case atStart =>
        refine ⟨none, 0, 0, A1, c1, true, lows ds, [], T0, rfl, rfl, rfl, by omega, rfl, Lib.hid (RqL.nil H1.out.s), Lib.hid rfl, Lib.hid (by simpa using HT0.out), Lib.hid (fun b hb => ⟨(H1.out.lt b hb).2, by simp [Value.ownBlock]⟩), Lib.hid fun _ => ⟨H1.out.sl, hT0.2.2.1 _ (run_mem hT0.1).1, hT0.1, by have := hT0.2.1; omega, hT0.2.2.1⟩⟩
      case round =>
        obtain ⟨O, m, oc2, B, bc, okb, al, LL, T, rfl, rfl, rfl, hm, hK, HL, HLM, HH, HB, HOK⟩ := hrel
        cases okb with
        | false =>
          go_wp2
          go_ret
          have hE : LL = FF := by have := HH.out; simpa using this
          rw [← HFF.out, ← hE]
          exact ⟨O, m, oc2, rfl, HL.out.sl, HLM.out, hm, HL.out.s⟩
        | true =>
          obtain ⟨k1, k2, k3, k4, k5⟩ := HOK.out rfl
          obtain ⟨hT1, hT2⟩ := run_mem k3
          have hkT : gk = T.length := hK
          subst hkT
          have HS := Lib.hid k1
          have HWI := Lib.hid k2
          have HRUN := Lib.hid k3
          have HM := Lib.hid k4
          have HT := Lib.hid k5
          have hal : al.length = k := by rw [k2.1]; exact HN.out.symm
          have HO1 := Lib.hid (fun W (kk : Since wr W) => HO.out W (.slice B k bc) al (HL.out.s.trans kk) (k1.since stI kk) (by omega))
          have AFX := Lib.hid (fun W (kk : Since w W) (hq : Sl 1 QI W (.slice B k bc) al) => AF.out W (.slice B k bc) al kk hq k2)
          obtain ⟨hb, hhb⟩ : ∃ b, b = holds c al := ⟨_, rfl⟩
          have HHA := Lib.hid (fun (T' : List (List Int)) => show (al :: T').filter (holds c) = if hb then al :: T'.filter (holds c) else T'.filter (holds c) by
            rw [List.filter_cons, ← hhb])
          rw [← hhb] at HO1
          clear k1 k2 k3 k4 k5 hK HOK hal hhb hT1
          go_wp2
          go_loopw [9, 10] (fun h i wr2 => ((i = .int .i64 0 ∧ h = .bool true) ∨ (i = .int .i64 1 ∧ h = .bool hb)) ∧ Hid (Since wr wr2)) (fun _ i _ => 1 - (intOf i).toNat)
          case atStart => exact ⟨.inl ⟨rfl, rfl⟩, Lib.hid (Since.refl _)⟩
          case round =>
            obtain ⟨hi, HSS⟩ := hrel
            rcases hi with ⟨rfl, rfl⟩ | ⟨rfl, rfl⟩
            · obtain ⟨x0, x1, x2, x3⟩ := HC.out _ (HL.out.s.trans HSS.out)
              go_wp2_with (go_at_call 17; (with_reducible refine (HO1.out _ HSS.out).mono ?_); rintro e w2 ⟨rfl, k2⟩; have K2 := Lib.hid (HSS.out.trans k2); clear k2)
              go_roundw
              case rel => exact ⟨.inr ⟨by go_num, rfl⟩, K2⟩
              case measure => simp [intOf]
            · have HL2 := Lib.hid (HL.out.since HSS.out)
              obtain ⟨R, hR⟩ : ∃ R, R = nextB ds al := ⟨_, rfl⟩
              have HR := Lib.hid hR
              rw [← hR] at AFX
              clear hR
              have BN := Lib.hid (Bx.fresh wr #[.slice B k bc] 23)
              cases hb with
              | true =>
                have hl9 : LL.length ≤ 1000000 := by have := HLM.out; omega
                have HQ := Lib.hid (show QEl (.slice O m oc2) (wr.alloc (.cells #[.slice B k bc] 23)) al [.slice B k bc] from ⟨_, rfl, HS.out.since stI (HSS.out.trans (since_alloc _ _)), fun b hb => ⟨by have := (HB.out b hb).1; have := HSS.out.size; simp; omega, (HB.out b hb).2⟩⟩)
                cases R with
                | none =>
                  simp only [Option.isSome_none, Option.isSome_some] at AFX
                  go_wp2_with (first | (at_builtin; refine RqL.app (HL2.out.since (since_alloc _ _)) hl9 al (.slice B k bc) HQ.out rfl wr.heap.size 1 (BN.out.cell 0) (by rfl) _ _ rfl rfl rfl ?_; rw [HLM.out]; intro A3 c3 w3 h3 q3; have H3 := Lib.hid h3; have Q3 := Lib.hid (QEl.read q3); clear h3 q3) | (go_at_call 67; (with_reducible refine (AFX.out _ (RqL.s H3.out) Q3.out).mono ?_); rintro e w4 ⟨A4, c4, rfl, hb4, hr4, k4⟩; have H4 := Lib.hid (H3.out.since k4); have LTR := Lib.hid (rq_lt H3.out); have HB4 := Lib.hid hb4; have HR4 := Lib.hid hr4; clear k4 hb4 hr4))
                  have hTn := run_last HRUN.out HR.out.symm
                  have hm4 := HM.out
                  go_roundg 0
                  case measure => omega
                  case rel =>
                    refine ⟨A3, m + 1, c3, A4, c4, false, al, LL ++ [al], T, rfl, rfl, rfl, by omega, rfl, H4, Lib.hid (by rw [List.length_append, HLM.out]; rfl), Lib.hid (by have h1 := HH.out; have h2 := HHA.out []; simp only [if_true, Bool.false_eq_true, if_false] at h1 h2 ⊢; rw [hTn] at h1; rw [h2] at h1; simpa using h1), Lib.hid (fun b hb => ⟨(HB4.out b hb).2, fun e => by have := LTR.out b e; have := (HB4.out b hb).1; omega⟩), Lib.hid fun h => by cases h⟩
                | some b =>
                  simp only [Option.isSome_none, Option.isSome_some] at AFX
                  go_wp2_with (first | (at_builtin; refine RqL.app (HL2.out.since (since_alloc _ _)) hl9 al (.slice B k bc) HQ.out rfl wr.heap.size 1 (BN.out.cell 0) (by rfl) _ _ rfl rfl rfl ?_; rw [HLM.out]; intro A3 c3 w3 h3 q3; have H3 := Lib.hid h3; have Q3 := Lib.hid (QEl.read q3); clear h3 q3) | (go_at_call 67; (with_reducible refine (AFX.out _ (RqL.s H3.out) Q3.out).mono ?_); rintro e w4 ⟨A4, c4, rfl, hb4, hr4, k4⟩; have H4 := Lib.hid (H3.out.since k4); have LTR := Lib.hid (rq_lt H3.out); have HB4 := Lib.hid hb4; have HR4 := Lib.hid hr4; clear k4 hb4 hr4))
                  obtain ⟨T', hT', hr'⟩ := run_step HRUN.out HR.out.symm
                  subst hT'
                  have hlT : (al :: T').length = T'.length + 1 := rfl
                  have hm4 := HM.out
                  go_roundg (T'.length)
                  case measure => omega
                  case rel =>
                    refine ⟨A3, m + 1, c3, A4, c4, true, b, LL ++ [al], T', rfl, rfl, rfl, by omega, rfl, H4, Lib.hid (by rw [List.length_append, HLM.out]; rfl), Lib.hid (by have h1 := HH.out; have h2 := HHA.out T'; simp only [if_true, Bool.false_eq_true, if_false] at h1 h2 ⊢; rw [h2] at h1; simpa using h1), Lib.hid (fun b hb => ⟨(HB4.out b hb).2, fun e => by have := LTR.out b e; have := (HB4.out b hb).1; omega⟩), Lib.hid fun _ => ⟨HR4.out b rfl, HT.out b (List.mem_cons_of_mem _ (run_mem hr').1), hr', by omega, fun x hx => HT.out x (List.mem_cons_of_mem _ hx)⟩⟩
              | false =>
                cases R with
                | none =>
                  simp only [Option.isSome_none, Option.isSome_some] at AFX
                  go_wp2_with (first | (go_at_call 67; (with_reducible refine (AFX.out _ (RqL.s HL2.out) (HS.out.since stI HSS.out)).mono ?_); rintro e w4 ⟨A4, c4, rfl, hb4, hr4, k4⟩; have H4 := Lib.hid (HL2.out.since k4); have LTR := Lib.hid (rq_lt HL2.out); have HB4 := Lib.hid hb4; have HR4 := Lib.hid hr4; clear k4 hb4 hr4))
                  have hTn := run_last HRUN.out HR.out.symm
                  have hm4 := HM.out
                  go_roundg 0
                  case measure => omega
                  case rel =>
                    refine ⟨O, m, oc2, A4, c4, false, al, LL, T, rfl, rfl, rfl, by omega, rfl, H4, HLM, Lib.hid (by have h1 := HH.out; have h2 := HHA.out []; simp only [if_true, Bool.false_eq_true, if_false] at h1 h2 ⊢; rw [hTn] at h1; rw [h2] at h1; simpa using h1), Lib.hid (fun b hb => ⟨(HB4.out b hb).2, fun e => by have := LTR.out b e; have := (HB4.out b hb).1; omega⟩), Lib.hid fun h => by cases h⟩
                | some b =>
                  simp only [Option.isSome_none, Option.isSome_some] at AFX
                  go_wp2_with (first | (go_at_call 67; (with_reducible refine (AFX.out _ (RqL.s HL2.out) (HS.out.since stI HSS.out)).mono ?_); rintro e w4 ⟨A4, c4, rfl, hb4, hr4, k4⟩; have H4 := Lib.hid (HL2.out.since k4); have LTR := Lib.hid (rq_lt HL2.out); have HB4 := Lib.hid hb4; have HR4 := Lib.hid hr4; clear k4 hb4 hr4))
                  obtain ⟨T', hT', hr'⟩ := run_step HRUN.out HR.out.symm
                  subst hT'
                  have hlT : (al :: T').length = T'.length + 1 := rfl
                  have hm4 := HM.out
                  go_roundg (T'.length)
                  case measure => omega
                  case rel =>
                    refine ⟨O, m, oc2, A4, c4, true, b, LL, T', rfl, rfl, rfl, by omega, rfl, H4, HLM, Lib.hid (by have h1 := HH.out; have h2 := HHA.out T'; simp only [if_true, Bool.false_eq_true, if_false] at h1 h2 ⊢; rw [h2] at h1; simpa using h1), Lib.hid (fun b hb => ⟨(HB4.out b hb).2, fun e => by have := LTR.out b e; have := (HB4.out b hb).1; omega⟩), Lib.hid fun _ => ⟨HR4.out b rfl, HT.out b (List.mem_cons_of_mem _ (run_mem hr').1), hr', by omega, fun x hx => HT.out x (List.mem_cons_of_mem _ hx)⟩⟩
end Go.Proofs.Ytoegbgkgenjplaa.Ev
