/- Layer 9 (set): Ends, the landed one. -/
import Derived.Laws.ResultCell
import Derived.Test.YtilgmkhcpmegjaaQah
namespace Go.Proofs.Ytilgmkhcpmegjaa.Zs
open Go.RowKit
set_option linter.unusedVariables false
set_option linter.unusedSimpArgs false
open Go.Proofs.Ytilgmkhcpmegjaa.Dig Go.Proofs.Ytilgmkhcpmegjaa.Lx Go.Proofs.Ytilgmkhcpmegjaa.Tk Go.Proofs.Ytilgmkhcpmegjaa.Ti
set_option maxRecDepth 20000 in
set_option maxHeartbeats 1000000 in
theorem ends_no (v : Value) (l : List Rn) (w : World) (h : Sl 2 QR w v l) (hl : l.length ≤ 1100000) (hb : Bd l) (hn : l = [] ∨ right l = false) :
    Calls Try.prog 185 #[v] w (RetE none w) := by
  obtain ⟨A, c, rfl⟩ := h.form
  have HS := Lib.hid (since_alloc w (.cells #[.int .i64 0, .int .i64 0] 46))
  have HZ := Lib.hid (fun W (k : Since (w.alloc (.cells #[.int .i64 0, .int .i64 0] 46)) W) => (Bx.fresh w #[.int .i64 0, .int .i64 0] 46).since k)
  have RA := Lib.hid (fun b (e : right l = b) => right_at h hl hb e)
  have RN := Lib.hid hn
  obtain ⟨n, hnn⟩ : ∃ n, n = l.length := ⟨_, rfl⟩
  rw [← hnn] at RA h hl ⊢
  have HN := Lib.hid hnn
  clear h hb hn hnn
  by_cases hn0 : n = 0
  · subst hn0
    obtain ⟨f0, f1⟩ := (HZ.out _ (Since.refl _)).two
    obtain ⟨g0, g1⟩ := (HZ.out _ (Since.refl _)).two'
    have B := (HZ.out _ (Since.refl _)).put2 (.int .i64 0) (.int .i64 0)
    obtain ⟨p0, p1⟩ := B.two
    unfold put2 at p0 p1
    go_enter Try.func185, Try.ntmps185
    go_wp2
    refine bodyPost_ret (v := .tuple #[.agg #[.int .i64 0, .int .i64 0], .bool false]) ?_ rfl ⟨rfl, by first | exact HS.out.trans (Since.refl _) | exact since_put2 (HS.out.trans (Since.refl _)) (Nat.le_refl _) _ _⟩
    rw [results_cell_tmp rfl]
    go_simp
  · have hR : right l = false := RN.out.resolve_left fun e => hn0 (by rw [HN.out, e]; rfl)
    have RB := Lib.hid (RA.out false hR)
    have hz : ((n : Int) == 0) = false := by rw [beq_eq_false_iff_ne]; omega
    clear hR
    go_enter Try.func185, Try.ntmps185
    go_wp2_with (go_at_call 94; (with_reducible refine (RB.out _ HS.out).mono ?_); rintro e w1 ⟨rfl, k1⟩; obtain ⟨f0, f1⟩ := (HZ.out w1 k1).two; obtain ⟨g0, g1⟩ := (HZ.out w1 k1).two'; have B := (HZ.out w1 k1).put2 (.int .i64 0) (.int .i64 0); obtain ⟨p0, p1⟩ := B.two; unfold put2 at p0 p1)
    refine bodyPost_ret (v := .tuple #[.agg #[.int .i64 0, .int .i64 0], .bool false]) ?_ rfl ⟨rfl, by first | exact HS.out.trans k1 | exact since_put2 (HS.out.trans k1) (Nat.le_refl _) _ _⟩
    rw [results_cell_tmp rfl]
    go_simp
set_option maxRecDepth 20000 in
set_option maxHeartbeats 1000000 in
theorem ends_yes (A : Option Addr) (m c : Nat) (l : List Rn) (w : World) (h : Sl 2 QR w (.slice A (m + 1) c) l) (hl : l.length ≤ 1100000) (hb : Bd l) (hr : right l = true) (hm : l.length = m + 1) (a z : Rn) (ha : l[0]? = some a) (hz : l[m]? = some z) :
    Calls Try.prog 185 #[.slice A (m + 1) c] w (RetE (some (a.1, z.2)) w) := by
  have HS := Lib.hid (since_alloc w (.cells #[.int .i64 0, .int .i64 0] 46))
  have HZ := Lib.hid (fun W (k : Since (w.alloc (.cells #[.int .i64 0, .int .i64 0] 46)) W) => (Bx.fresh w #[.int .i64 0, .int .i64 0] 46).since k)
  have RB := Lib.hid (right_at h hl hb hr)
  obtain ⟨q, o, rfl, e0, -⟩ := elR h (i := 0) (by omega)
  obtain ⟨q', o', eq, -, e1⟩ := elR h (i := m) (by omega)
  injection eq with eq
  injection eq with eq1 eq2
  subst eq1 eq2
  rw [List.getElem?_eq_getElem (by omega), Option.some.injEq] at ha hz
  rw [ha] at e0
  rw [hz] at e1
  obtain ⟨a0, a1⟩ := a
  obtain ⟨z0, z1⟩ := z
  simp only [Nat.zero_mul, Nat.add_zero] at e0 e1
  have HD := Lib.hid (fun W (k : Since w W) => (show W.cell? ⟨q, o, none⟩ = some (.int .i64 a0) ∧ W.cell? ⟨q, o + m * 2 + 1, none⟩ = some (.int .i64 z1) from ⟨(k.cell _ (World.block_lt_of_cell? _ _ e0)).trans e0, (k.cell _ (World.block_lt_of_cell? _ _ e1)).trans e1⟩))
  have hm1 : m ≤ 1100000 := by omega
  have hwm : IntKind.i64.wrap (m : Int) = (m : Int) := by simp [IntKind.wrap, IntKind.bits, IntKind.signed]; omega
  have hmm : (m : Int) < (m : Int) + 1 := by omega
  have hqm : ((m : Int) + 1 == 0) = false := by rw [beq_eq_false_iff_ne]; omega
  clear h hb hr ha hz hl hm e0 e1
  go_enter Try.func185, Try.ntmps185
  go_wp2_with (go_at_call 94; (with_reducible refine (RB.out _ HS.out).mono ?_); rintro e w1 ⟨rfl, k1⟩)
  have HC := Lib.hid (fun W (k : Since w1 W) => HD.out W ((HS.out.trans k1).trans k))
  have hr0 : Since w1 w1.drew := Since.drew (Since.refl w1)
  refine wp_region_noPanic ?_
  refine Reg.wp_region_G (S := fun _ => True) (fun j => [12, 13].contains j) (by kernel_rfl) trivial ?_
  refine' Reg.tk3 (i := 0) (v := _) (some 13) [1, 2, 3, 11, 12, 13] [12, 13] rfl (Or.inl ⟨by rfl, Or.inl ?hy2⟩) ?rest2
  case hy2 => (intro w' kk ss; obtain ⟨x0, x1⟩ := HC.out _ (hr0.trans kk); go_simp; first | done | with_reducible rfl)
  try simp only [Act.put, List.setIfInBounds_toArray, List.set_cons_zero, List.set_cons_succ]
  refine' Reg.tk3 (i := 1) (v := _) (some 14) [2, 3, 11, 12, 13] [12, 13] rfl (Or.inl ⟨by rfl, Or.inl ?hy3⟩) ?rest3
  case hy3 => (intro w' kk ss; obtain ⟨x0, x1⟩ := HC.out _ (hr0.trans kk); go_simp; first | done | with_reducible rfl)
  try simp only [Act.put, List.setIfInBounds_toArray, List.set_cons_zero, List.set_cons_succ]
  refine' Reg.tk3 (i := 2) (v := _) (some 15) [3, 11, 12, 13] [12, 13] rfl (Or.inl ⟨by rfl, Or.inl ?hy4⟩) ?rest4
  case hy4 => (intro w' kk ss; obtain ⟨x0, x1⟩ := HC.out _ (hr0.trans kk); go_simp; first | done | with_reducible rfl)
  try simp only [Act.put, List.setIfInBounds_toArray, List.set_cons_zero, List.set_cons_succ]
  refine' Reg.tk3 (i := 3) (v := _) (some 16) [11, 12, 13] [12, 13] rfl (Or.inl ⟨by rfl, Or.inl ?hy5⟩) ?rest5
  case hy5 => (intro w' kk ss; obtain ⟨x0, x1⟩ := HC.out _ (hr0.trans kk); go_simp; first | done | with_reducible rfl)
  try simp only [Act.put, List.setIfInBounds_toArray, List.set_cons_zero, List.set_cons_succ]
  refine' Reg.tk3 (i := 4) (v := _) (some 17) [8, 9, 10, 11, 12, 13] [12, 13] rfl (Or.inl ⟨by rfl, Or.inl ?hy6⟩) ?rest6
  case hy6 => (intro w' kk ss; obtain ⟨x0, x1⟩ := HC.out _ (hr0.trans kk); go_simp; first | done | with_reducible rfl)
  try simp only [Act.put, List.setIfInBounds_toArray, List.set_cons_zero, List.set_cons_succ]
  refine' Reg.tk3 (i := 5) (v := _) (some 18) [6, 7, 8, 9, 10, 11, 12, 13] [12, 13] rfl (Or.inl ⟨by rfl, Or.inl ?hy7⟩) ?rest7
  case hy7 => (intro w' kk ss; obtain ⟨x0, x1⟩ := HC.out _ (hr0.trans kk); go_simp; first | done | with_reducible rfl)
  try simp only [Act.put, List.setIfInBounds_toArray, List.set_cons_zero, List.set_cons_succ]
  refine' Reg.tk3 (i := 6) (v := _) (some 19) [7, 8, 9, 10, 11, 12, 13] [12, 13] rfl (Or.inl ⟨by rfl, Or.inl ?hy8⟩) ?rest8
  case hy8 => (intro w' kk ss; obtain ⟨x0, x1⟩ := HC.out _ (hr0.trans kk); go_simp; first | done | with_reducible rfl)
  try simp only [Act.put, List.setIfInBounds_toArray, List.set_cons_zero, List.set_cons_succ]
  refine' Reg.tk3 (i := 7) (v := _) (some 20) [8, 9, 10, 11, 12, 13] [12, 13] rfl (Or.inl ⟨by rfl, Or.inl ?hy9⟩) ?rest9
  case hy9 => (intro w' kk ss; obtain ⟨x0, x1⟩ := HC.out _ (hr0.trans kk); go_simp; first | done | with_reducible rfl)
  try simp only [Act.put, List.setIfInBounds_toArray, List.set_cons_zero, List.set_cons_succ]
  refine' Reg.tk3 (i := 8) (v := _) (some 21) [9, 10, 11, 12, 13] [12, 13] rfl (Or.inl ⟨by rfl, Or.inl ?hy10⟩) ?rest10
  case hy10 => (intro w' kk ss; obtain ⟨x0, x1⟩ := HC.out _ (hr0.trans kk); go_simp; first | done | with_reducible rfl)
  try simp only [Act.put, List.setIfInBounds_toArray, List.set_cons_zero, List.set_cons_succ]
  refine' Reg.tk3 (i := 9) (v := _) (some 22) [10, 11, 12, 13] [12, 13] rfl (Or.inl ⟨by rfl, Or.inl ?hy11⟩) ?rest11
  case hy11 => (intro w' kk ss; obtain ⟨x0, x1⟩ := HC.out _ (hr0.trans kk); go_simp; first | done | with_reducible rfl)
  try simp only [Act.put, List.setIfInBounds_toArray, List.set_cons_zero, List.set_cons_succ]
  refine' Reg.tk3 (i := 10) (v := _) (some 23) [11, 12, 13] [12, 13] rfl (Or.inl ⟨by rfl, Or.inl ?hy12⟩) ?rest12
  case hy12 => (intro w' kk ss; obtain ⟨x0, x1⟩ := HC.out _ (hr0.trans kk); go_simp; first | done | with_reducible rfl)
  try simp only [Act.put, List.setIfInBounds_toArray, List.set_cons_zero, List.set_cons_succ]
  refine' Reg.tk3 (i := 11) (v := _) (some 24) [12, 13] [12, 13] rfl (Or.inl ⟨by rfl, Or.inl ?hy13⟩) ?rest13
  case hy13 => (intro w' kk ss; obtain ⟨x0, x1⟩ := HC.out _ (hr0.trans kk); go_simp; first | done | with_reducible rfl)
  try simp only [Act.put, List.setIfInBounds_toArray, List.set_cons_zero, List.set_cons_succ]
  refine Reg.wpG_ready (rs := [12]) (by kernel_rfl) (by simp) (fun wq k1001' sq => ?_)
  have hr0 := hr0.trans k1001'
  refine Reg.AllG.last (o := { dst := none, op := Op.store 46 (Operand.tmp 2) (Operand.tmp 24), type := 0, pos := "ask.go:32", after := #[{ on := 11, ground := Ground.data }, { on := 0, ground := Ground.phase }, { on := 1, ground := Ground.phase }, { on := 2, ground := Ground.phase }, { on := 3, ground := Ground.phase }, { on := 4, ground := Ground.phase }, { on := 5, ground := Ground.phase }, { on := 6, ground := Ground.phase }, { on := 7, ground := Ground.phase }, { on := 8, ground := Ground.phase }, { on := 9, ground := Ground.phase }, { on := 10, ground := Ground.phase }, { on := 11, ground := Ground.phase }], guard := none }) rfl (by rfl) (fun K hK => ?_) Reg.AllG.nil
  obtain ⟨f0, f1⟩ := HZ.out _ (k1.trans hr0) |>.two
  obtain ⟨g0, g1⟩ := HZ.out _ (k1.trans hr0) |>.two'
  go_simp
  refine hK.out _ _ trivial (fun hHeld => ?_)
  clear hK K
  try simp only [Act.put, List.setIfInBounds_toArray, List.set_cons_zero, List.set_cons_succ]
  refine' Reg.ah3 (i := 13) (v := _) (some 3) rfl (by kernel_rfl) (by kernel_rfl) (by kernel_rfl) (fun _ _ _ h => h) (Or.inl ⟨by rfl, ?hy14⟩) (by assumption) ?rest14
  case hy14 => (intro w' ss; (try dsimp only at ss); go_simp; first | done | with_reducible rfl)
  try simp only [Act.put, List.setIfInBounds_toArray, List.set_cons_zero, List.set_cons_succ]
  refine wpAnyH_done (by kernel_rfl) ?_ _
  refine NoPanic.normal ?_
  have B := (HZ.out wq (k1.trans hr0)).put2 (.int .i64 a0) (.int .i64 z1)
  obtain ⟨p0, p1⟩ := B.two
  unfold put2 at p0 p1
  go_wp2
  refine bodyPost_ret (v := .tuple #[.agg #[.int .i64 a0, .int .i64 z1], .bool true]) ?_ rfl ⟨rfl, since_put2 (HS.out.trans (k1.trans hr0)) (Nat.le_refl _) _ _⟩
  rw [results_cell_tmp rfl]
  go_simp
theorem ends_any (v : Value) (l : List Rn) (w : World) (h : Sl 2 QR w v l) (hl : l.length ≤ 1100000) (hb : Bd l) :
    Calls Try.prog 185 #[v] w (RetE (ends l) w) := by
  by_cases hr : right l = true
  · cases l with
    | nil => exact ends_no v [] w h hl hb (.inl rfl)
    | cons a t =>
      obtain ⟨A, c, rfl⟩ := h.form
      have hlast : (a :: t)[t.length]? = some ((a :: t)[t.length]'(by simp)) := List.getElem?_eq_getElem (by simp)
      have e : ends (a :: t) = some (a.1, ((a :: t)[t.length]'(by simp)).2) := by
        unfold ends
        rw [if_pos hr, List.getLast?_eq_getElem?, List.length_cons, Nat.add_sub_cancel, hlast]
        rfl
      rw [e]
      exact ends_yes A t.length c (a :: t) w h hl hb hr rfl a _ rfl hlast
  · have e : ends l = none := by unfold ends; rw [if_neg hr]
    rw [e]
    exact ends_no v l w h hl hb (.inr (by simpa using hr))
end Go.Proofs.Ytilgmkhcpmegjaa.Zs
