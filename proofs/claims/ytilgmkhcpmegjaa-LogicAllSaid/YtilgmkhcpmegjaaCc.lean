/- Layer 15 (logic): positions; the landed truth, not, is. -/
import Derived.Test.YtilgmkhcpmegjaaCb
import Derived.Test.YtilgmkhcpmegjaaQat
namespace Go.Proofs.Ytilgmkhcpmegjaa.Lgc
open Go.RowKit
set_option linter.unusedVariables false
set_option linter.unusedSimpArgs false
open Go.Proofs.Ytilgmkhcpmegjaa.Dig Go.Proofs.Ytilgmkhcpmegjaa.Lx Go.Proofs.Ytilgmkhcpmegjaa.Tk Go.Proofs.Ytilgmkhcpmegjaa.Ti Go.Proofs.Ytilgmkhcpmegjaa.Zs Go.Proofs.Ytilgmkhcpmegjaa.Tr Go.Proofs.Ytilgmkhcpmegjaa.Sn Go.Proofs.Ytilgmkhcpmegjaa.Ln Go.Proofs.Ytilgmkhcpmegjaa.At
/-- a variable's state: its one value, or 2 -/
def stt (x : Int) (D : Ln.Ds) : Int := if L x D = H x D then L x D else 2
/-- positions: variables that read on and on, their domains in the block g -/
structure PL (g n : Nat) (w0 w : World) (X : List Int) (D : Ln.Ds) (A : Option Addr) (m c : Nat) : Prop where
  x : Sl 1 QI w (.slice A m c) X
  far : 0 < m → ∀ b, (Value.slice A m c).ownBlock = some b → b ≠ g
  at_ : DAt g n w0 w D
  lo_ : w0.heap.size ≤ g
  hi_ : g < w.heap.size
  gd : Gd D
  inn : X.all (isV n) = true
  tv : ∀ x ∈ X, tru (domAt D x) = true
  len : X.length = m
  le : m ≤ 32
  ws : Since w0 w
theorem PL.since {g n : Nat} {w0 w w' : World} {X : List Int} {D : Ln.Ds} {A : Option Addr} {m c : Nat} (h : PL g n w0 w X D A m c) (k : Since w w') : PL g n w0 w' X D A m c :=
  ⟨h.x.since stI k, h.far, h.at_.since k, h.lo_, Nat.lt_of_lt_of_le h.hi_ k.size, h.gd, h.inn, h.tv, h.len, h.le, h.ws.trans k⟩
theorem PL.val {g n : Nat} {w0 w : World} {X : List Int} {D : Ln.Ds} {A : Option Addr} {m c : Nat} (h : PL g n w0 w X D A m c) {i : Nat} (hi : i < m) :
    ∃ (j gx ox : Nat) (A2 : Option Addr) (c2 : Nat), X.getD i 0 = (j : Int) ∧ j < n ∧ A = some ⟨gx, ox, none⟩ ∧ w.cell? ⟨gx, ox + i, none⟩ = some (.int .i64 (j : Int)) ∧ w.cell? ⟨g, j, none⟩ = some (.slice A2 (domAt D (j : Int)).length c2) ∧ Sl 2 QR w (.slice A2 (domAt D (j : Int)).length c2) (domAt D (j : Int)) ∧ right (domAt D (j : Int)) = true ∧ domAt D (j : Int) ≠ []
      ∧ 0 ≤ L (j : Int) D ∧ L (j : Int) D ≤ H (j : Int) D ∧ H (j : Int) D ≤ 1 := by
  have hl : i < X.length := by rw [h.len]; exact hi
  obtain ⟨j, hj, hjn⟩ := isV_at h.inn hl
  obtain ⟨gx, ox, e, e0⟩ := elI h.x hl
  have hjl : j < D.length := by rw [h.at_.len]; exact hjn
  have ed : domAt D (j : Int) = D[j] := by simp [domAt, hjl]
  obtain ⟨A2, c2, h1, h2⟩ := h.at_.get hjl
  have hg := h.gd _ (List.getElem_mem hjl)
  have ht := h.tv _ (List.getElem_mem hl)
  rw [hj] at ht e0
  have hle := lo_hi hg.1 hg.2
  rw [← ed] at h1 h2 hg hle
  unfold tru at ht
  simp only [Bool.and_eq_true, decide_eq_true_eq] at ht
  refine ⟨j, gx, ox, A2, c2, by simp [List.getD, hl, hj], hjn, e, e0, h1, h2, hg.1, hg.2, ht.2.1, hle, ht.2.2⟩
theorem Ret.mk {e : Ending} {v : Value} {w w' : World} (h : e = .returned v) (k : Since w w') : e = .returned v ∧ Since w w' ∧ True := ⟨h, k, trivial⟩
theorem stt_isv {x s : Int} {D : Ln.Ds} (hs : s = 0 ∨ s = 1) : decide (stt x D = s) = isv x s D := by
  unfold stt isv
  rw [Bool.eq_iff_iff]
  simp only [decide_eq_true_eq]
  split <;> omega
theorem stt_ope {x : Int} {D : Ln.Ds} (h : 0 ≤ L x D ∧ L x D ≤ H x D ∧ H x D ≤ 1) : decide (stt x D = 2) = ope x D := by
  unfold stt ope
  rw [Bool.eq_iff_iff]
  simp only [decide_eq_true_eq]
  split <;> omega
/-- at how many of the first k positions the state is s -/
def cntK (X : List Int) (k : Nat) (s : Int) (D : Ln.Ds) : Nat := (X.take k).countP fun x => decide (stt x D = s)
theorem cntK_le (X : List Int) (k : Nat) (s : Int) (D : Ln.Ds) : cntK X k s D ≤ k := by
  unfold cntK
  exact Nat.le_trans List.countP_le_length (by rw [List.length_take]; omega)
theorem cntK_succ {X : List Int} {k : Nat} (s : Int) (D : Ln.Ds) (hk : k < X.length) : cntK X (k + 1) s D = cntK X k s D + (if stt (X.getD k 0) D = s then 1 else 0) := by
  unfold cntK
  rw [List.take_succ_eq_append_getElem hk, List.countP_append, show X.getD k 0 = X[k] by simp [List.getD, hk]]
  simp [List.countP_cons]
set_option maxRecDepth 20000 in
set_option maxHeartbeats 2000000 in
theorem truth_any (a : Int) (W : World) : Calls Try.prog 125 #[.int .i64 a] W (fun e w' => e = .returned (.int .i64 (tr a)) ∧ Since W w' ∧ True) := by
  unfold tr
  by_cases c1 : a = 1
  · rw [if_pos c1]
    subst c1
    go_enter Try.func125, Try.ntmps125
    go_wp2
    go_ret
    exact ⟨rfl, Since.refl _, trivial⟩
  · rw [if_neg c1]
    go_enter Try.func125, Try.ntmps125
    go_wp2
    go_ret
    exact ⟨rfl, Since.refl _, trivial⟩
set_option maxRecDepth 20000 in
set_option maxHeartbeats 2000000 in
theorem not_any (s : Int) (W : World) (hs : s = 0 ∨ s = 1) : Calls Try.prog 187 #[.int .i64 s] W (fun e w' => e = .returned (.int .i64 (1 - s)) ∧ Since W w' ∧ True) := by
  rcases hs with rfl | rfl
  · go_enter Try.func187, Try.ntmps187
    go_wp2
    go_ret
    exact ⟨rfl, Since.refl _, trivial⟩
  · go_enter Try.func187, Try.ntmps187
    go_wp2
    go_ret
    exact ⟨rfl, Since.refl _, trivial⟩
set_option maxRecDepth 20000 in
set_option maxHeartbeats 2000000 in
theorem is_any {g n : Nat} {w0 W : World} {X : List Int} {D : Ln.Ds} {A : Option Addr} {m c : Nat} (h : PL g n w0 W X D A m c) {i : Nat} (him : i < m) :
    Calls Try.prog 124 #[.agg #[.slice A m c, .slice (some ⟨g, 0, none⟩) n n], .int .i64 (i : Int)] W (fun e w' => e = .returned (.int .i64 (stt (X.getD i 0) D)) ∧ Since W w' ∧ True) := by
  obtain ⟨j, gx, ox, A2, c2, hj, hjn, rfl, e0, e1, hS, hr, hd, b1, b2, b3⟩ := h.val him
  rw [hj]
  rw [show stt (j : Int) D = if lo (domAt D (j : Int)) = hi (domAt D (j : Int)) then lo (domAt D (j : Int)) else 2 from rfl]
  have ka := Lib.hid (since_alloc W (.cells #[.slice (some ⟨gx, ox, none⟩) m c, .slice (some ⟨g, 0, none⟩) n n] 84))
  have BP := Lib.hid (Bx.fresh W #[.slice (some ⟨gx, ox, none⟩) m c, .slice (some ⟨g, 0, none⟩) n n] 84)
  have XC := Lib.hid (fun w (k : Since (W.alloc (.cells #[.slice (some ⟨gx, ox, none⟩) m c, .slice (some ⟨g, 0, none⟩) n n] 84)) w) => show w.cell? ⟨gx, ox + i, none⟩ = some (.int .i64 (j : Int)) from ((ka.out.trans k).cell _ (World.block_lt_of_cell? _ _ e0)).trans e0)
  have DC := Lib.hid (fun w (k : Since (W.alloc (.cells #[.slice (some ⟨gx, ox, none⟩) m c, .slice (some ⟨g, 0, none⟩) n n] 84)) w) => show w.cell? ⟨g, j, none⟩ = some (.slice A2 (domAt D (j : Int)).length c2) from ((ka.out.trans k).cell _ (World.block_lt_of_cell? _ _ e1)).trans e1)
  have EN := Lib.hid (fun w (k : Since (W.alloc (.cells #[.slice (some ⟨gx, ox, none⟩) m c, .slice (some ⟨g, 0, none⟩) n n] 84)) w) => ends_at2 (hS.since stR (ka.out.trans k)) hr hd)
  clear b1 b2 b3
  generalize lo (domAt D (j : Int)) = l at *
  generalize hi (domAt D (j : Int)) = u at *
  generalize (domAt D (j : Int)).length = dl at *
  clear hS hr hd e0 e1 h hj
  go_enter Try.func124, Try.ntmps124
  go_wp2
  have hr0 : Since (W.alloc (.cells #[.slice (some ⟨gx, ox, none⟩) m c, .slice (some ⟨g, 0, none⟩) n n] 84)) (W.alloc (.cells #[.slice (some ⟨gx, ox, none⟩) m c, .slice (some ⟨g, 0, none⟩) n n] 84)).drew := Since.drew (Since.refl (W.alloc (.cells #[.slice (some ⟨gx, ox, none⟩) m c, .slice (some ⟨g, 0, none⟩) n n] 84)))
  refine wp_region_noPanic ?_
  refine Reg.wp_region_G (S := fun _ => True) (fun j => [11, 12, 14, 15].contains j) (by kernel_rfl) trivial ?_
  refine' Reg.tk3 (i := 0) (v := _) (some 8) [1, 7, 8, 9, 10, 11, 12, 14, 15] [11, 12, 14, 15] rfl (Or.inl ⟨by rfl, Or.inl ?hy1⟩) ?rest1
  case hy1 => (intro w' kk ss; obtain ⟨x0, x1⟩ := (BP.out.since (hr0.trans kk)).two; have y0 := XC.out _ (hr0.trans kk); have y1 := DC.out _ (hr0.trans kk); go_simp; first | done | with_reducible rfl)
  try simp only [Act.put, List.setIfInBounds_toArray, List.set_cons_zero, List.set_cons_succ]
  refine' Reg.tk3 (i := 1) (v := _) (some 9) [7, 8, 9, 10, 11, 12, 14, 15] [11, 12, 14, 15] rfl (Or.inl ⟨by rfl, Or.inl ?hy2⟩) ?rest2
  case hy2 => (intro w' kk ss; obtain ⟨x0, x1⟩ := (BP.out.since (hr0.trans kk)).two; have y0 := XC.out _ (hr0.trans kk); have y1 := DC.out _ (hr0.trans kk); go_simp; first | done | with_reducible rfl)
  try simp only [Act.put, List.setIfInBounds_toArray, List.set_cons_zero, List.set_cons_succ]
  refine' Reg.tk3 (i := 2) (v := _) (some 10) [3, 5, 6, 7, 8, 9, 10, 11, 12, 14, 15] [11, 12, 14, 15] rfl (Or.inl ⟨by rfl, Or.inl ?hy3⟩) ?rest3
  case hy3 => (intro w' kk ss; obtain ⟨x0, x1⟩ := (BP.out.since (hr0.trans kk)).two; have y0 := XC.out _ (hr0.trans kk); have y1 := DC.out _ (hr0.trans kk); go_simp; first | done | with_reducible rfl)
  try simp only [Act.put, List.setIfInBounds_toArray, List.set_cons_zero, List.set_cons_succ]
  refine' Reg.tk3 (i := 3) (v := _) (some 11) [5, 6, 7, 8, 9, 10, 11, 12, 14, 15] [11, 12, 14, 15] rfl (Or.inl ⟨by rfl, Or.inl ?hy4⟩) ?rest4
  case hy4 => (intro w' kk ss; obtain ⟨x0, x1⟩ := (BP.out.since (hr0.trans kk)).two; have y0 := XC.out _ (hr0.trans kk); have y1 := DC.out _ (hr0.trans kk); go_simp; first | done | with_reducible rfl)
  try simp only [Act.put, List.setIfInBounds_toArray, List.set_cons_zero, List.set_cons_succ]
  refine' Reg.tk3 (i := 4) (v := _) (some 12) [5, 6, 7, 8, 9, 10, 11, 12, 14, 15] [11, 12, 14, 15] rfl (Or.inl ⟨by rfl, Or.inl ?hy5⟩) ?rest5
  case hy5 => (intro w' kk ss; obtain ⟨x0, x1⟩ := (BP.out.since (hr0.trans kk)).two; have y0 := XC.out _ (hr0.trans kk); have y1 := DC.out _ (hr0.trans kk); go_simp; first | done | with_reducible rfl)
  try simp only [Act.put, List.setIfInBounds_toArray, List.set_cons_zero, List.set_cons_succ]
  refine' Reg.tk3 (i := 5) (v := _) (some 13) [6, 7, 8, 9, 10, 11, 12, 14, 15] [11, 12, 14, 15] rfl (Or.inl ⟨by rfl, Or.inl ?hy6⟩) ?rest6
  case hy6 => (intro w' kk ss; obtain ⟨x0, x1⟩ := (BP.out.since (hr0.trans kk)).two; have y0 := XC.out _ (hr0.trans kk); have y1 := DC.out _ (hr0.trans kk); go_simp; first | done | with_reducible rfl)
  try simp only [Act.put, List.setIfInBounds_toArray, List.set_cons_zero, List.set_cons_succ]
  refine' Reg.tk3 (i := 6) (v := _) (some 14) [7, 8, 9, 10, 11, 12, 14, 15] [11, 12, 14, 15] rfl (Or.inl ⟨by rfl, Or.inl ?hy7⟩) ?rest7
  case hy7 => (intro w' kk ss; obtain ⟨x0, x1⟩ := (BP.out.since (hr0.trans kk)).two; have y0 := XC.out _ (hr0.trans kk); have y1 := DC.out _ (hr0.trans kk); go_simp; first | done | with_reducible rfl)
  try simp only [Act.put, List.setIfInBounds_toArray, List.set_cons_zero, List.set_cons_succ]
  refine' Reg.tk3 (i := 7) (v := _) (some 15) [8, 9, 10, 11, 12, 14, 15] [11, 12, 14, 15] rfl (Or.inl ⟨by rfl, Or.inl ?hy8⟩) ?rest8
  case hy8 => (intro w' kk ss; obtain ⟨x0, x1⟩ := (BP.out.since (hr0.trans kk)).two; have y0 := XC.out _ (hr0.trans kk); have y1 := DC.out _ (hr0.trans kk); go_simp; first | done | with_reducible rfl)
  try simp only [Act.put, List.setIfInBounds_toArray, List.set_cons_zero, List.set_cons_succ]
  refine' Reg.tk3 (i := 8) (v := _) (some 16) [9, 10, 11, 12, 14, 15] [11, 12, 14, 15] rfl (Or.inl ⟨by rfl, Or.inl ?hy9⟩) ?rest9
  case hy9 => (intro w' kk ss; obtain ⟨x0, x1⟩ := (BP.out.since (hr0.trans kk)).two; have y0 := XC.out _ (hr0.trans kk); have y1 := DC.out _ (hr0.trans kk); go_simp; first | done | with_reducible rfl)
  try simp only [Act.put, List.setIfInBounds_toArray, List.set_cons_zero, List.set_cons_succ]
  refine Reg.tk3 (i := 9) (v := .tuple #[.agg #[.int .i64 l, .int .i64 u], .bool true]) (some 17) [10, 11, 12, 14, 15] [11, 12, 14, 15] rfl (Or.inl ⟨by rfl, Or.inr ⟨185, #[.slice A2 dl c2], fun w' kk ss => ⟨?_, ?_⟩⟩⟩) ?_
  · (try dsimp only at ss); go_simp
  · exact (EN.out _ (hr0.trans kk)).mono fun _ _ h => ⟨h.1, h.2, trivial⟩
  try simp only [Act.put, List.setIfInBounds_toArray, List.set_cons_zero, List.set_cons_succ]
  refine' Reg.tk3 (i := 10) (v := _) (some 7) [11, 12, 14, 15] [11, 12, 14, 15] rfl (Or.inl ⟨by rfl, Or.inl ?hy10⟩) ?rest10
  case hy10 => (intro w' kk ss; obtain ⟨x0, x1⟩ := (BP.out.since (hr0.trans kk)).two; have y0 := XC.out _ (hr0.trans kk); have y1 := DC.out _ (hr0.trans kk); go_simp; first | done | with_reducible rfl)
  try simp only [Act.put, List.setIfInBounds_toArray, List.set_cons_zero, List.set_cons_succ]
  refine Reg.wpG_ready (rs := [11, 12, 13]) (by kernel_rfl) (by simp) (fun wq kq sq => ?_)
  have hr0 := hr0.trans kq
  refine (Reg.AllG.last (o := { dst := some 18, op := Op.extract (Operand.tmp 7) 0, type := 46, pos := "places.go:41", after := #[{ on := 10, ground := Ground.data }], guard := none }) rfl (by rfl) (fun K hK => ?_) (Reg.AllG.last (o := { dst := some 19, op := Op.extract (Operand.tmp 7) 1, type := 4, pos := "places.go:41", after := #[{ on := 10, ground := Ground.data }, { on := 14, ground := Ground.gcOnly Departure.lateStores }], guard := none }) rfl (by rfl) (fun K hK => ?_) (Reg.AllG.first (o := { dst := some 5, op := Op.alloc 46, type := 0, pos := "places.go:41", after := #[], guard := none }) rfl (by rfl) (fun K hK => ?_) Reg.AllG.nil)))
  · have hrq := hr0
    go_simp
    refine hK.out _ _ trivial (fun hHeld => ?_)
    clear hK K
    try simp only [Act.put, List.setIfInBounds_toArray, List.set_cons_zero, List.set_cons_succ]
    refine' Reg.ah3 (i := 12) (v := _) (some 19) rfl (by kernel_rfl) (by kernel_rfl) (by kernel_rfl) (fun _ _ _ h => h) (Or.inl ⟨by rfl, ?hy11⟩) (by assumption) ?rest11
    case hy11 => (intro w' ss; (try dsimp only at ss); go_simp; first | done | with_reducible rfl)
    try simp only [Act.put, List.setIfInBounds_toArray, List.set_cons_zero, List.set_cons_succ]
    refine wpAnyH_ready (rs := [13]) (by kernel_rfl) (by simp) ?_
    refine AllReadyH.cons rfl (fun K hK => ?_) AllReadyH.nil
    go_simp
    refine hK.out _ _ trivial (fun hHeld => ?_)
    clear hK K
    try simp only [Act.put, List.setIfInBounds_toArray, List.set_cons_zero, List.set_cons_succ]
    have hr0 := hr0.trans (since_alloc wq (.cells #[.int .i64 0, .int .i64 0] 46))
    have hgb := (hr0.size)
    have hge : (W.alloc (.cells #[.slice (some ⟨gx, ox, none⟩) m c, .slice (some ⟨g, 0, none⟩) n n] 84)).heap.size ≤ wq.heap.size := (show Since (W.alloc (.cells #[.slice (some ⟨gx, ox, none⟩) m c, .slice (some ⟨g, 0, none⟩) n n] 84)) wq by assumption).size
    have B1 := Lib.hid (show Bx (wq.alloc (.cells #[.int .i64 0, .int .i64 0] 46)) wq.heap.size #[.int .i64 0, .int .i64 0] 46 from (Bx.fresh wq #[.int .i64 0, .int .i64 0] 46))
    obtain ⟨f0, f1⟩ := B1.out.two
    obtain ⟨g0, g1⟩ := B1.out.two'
    refine wpAnyH_ready (rs := [14]) (by kernel_rfl) (by simp) ?_
    refine AllReadyH.cons rfl (fun K hK => ?_) AllReadyH.nil
    go_simp
    refine hK.out _ _ trivial (fun hHeld => ?_)
    clear hK K
    try simp only [Act.put, List.setIfInBounds_toArray, List.set_cons_zero, List.set_cons_succ]
    refine' Reg.ah3 (i := 15) (v := _) (some 6) rfl (by kernel_rfl) (by kernel_rfl) (by kernel_rfl) (fun _ _ _ h => h) (Or.inl ⟨by rfl, ?hy12⟩) (by assumption) ?rest12
    case hy12 => (intro w' ss; (try dsimp only at ss); go_simp; first | done | with_reducible rfl)
    try simp only [Act.put, List.setIfInBounds_toArray, List.set_cons_zero, List.set_cons_succ]
    refine wpAnyH_done (by kernel_rfl) ?_ _
    refine NoPanic.normal ?_
    have HB := Lib.hid (Bx.fresh wq #[.int .i64 l, .int .i64 u] 46)
    have HS := Lib.hid (show Since W (wq.alloc (.cells #[.int .i64 l, .int .i64 u] 46)) from (ka.out.trans hrq).trans (since_alloc _ _))
    obtain ⟨p0, p1⟩ := HB.out.two
    obtain ⟨W2, hW2⟩ : ∃ W2, W2 = wq.alloc (.cells #[.int .i64 l, .int .i64 u] 46) := ⟨_, rfl⟩
    rw [← hW2] at p0 p1 HS HB ⊢
    clear B1 hr0 hrq hHeld hW2 hge f0 f1 g0 g1
    generalize wq.heap.size = bk at *
    by_cases c1 : l = u
    · subst c1
      go_wp2
      go_ret
      exact ⟨by first | rfl | simp, HS.out⟩
    · go_wp2
      go_ret
      exact ⟨by first | rfl | simp [c1], HS.out⟩
  · have hrq := hr0
    go_simp
    refine hK.out _ _ trivial (fun hHeld => ?_)
    clear hK K
    try simp only [Act.put, List.setIfInBounds_toArray, List.set_cons_zero, List.set_cons_succ]
    refine' Reg.ah3 (i := 11) (v := _) (some 18) rfl (by kernel_rfl) (by kernel_rfl) (by kernel_rfl) (fun _ _ _ h => h) (Or.inl ⟨by rfl, ?hy13⟩) (by assumption) ?rest13
    case hy13 => (intro w' ss; (try dsimp only at ss); go_simp; first | done | with_reducible rfl)
    try simp only [Act.put, List.setIfInBounds_toArray, List.set_cons_zero, List.set_cons_succ]
    refine wpAnyH_ready (rs := [13]) (by kernel_rfl) (by simp) ?_
    refine AllReadyH.cons rfl (fun K hK => ?_) AllReadyH.nil
    go_simp
    refine hK.out _ _ trivial (fun hHeld => ?_)
    clear hK K
    try simp only [Act.put, List.setIfInBounds_toArray, List.set_cons_zero, List.set_cons_succ]
    have hr0 := hr0.trans (since_alloc wq (.cells #[.int .i64 0, .int .i64 0] 46))
    have hgb := (hr0.size)
    have hge : (W.alloc (.cells #[.slice (some ⟨gx, ox, none⟩) m c, .slice (some ⟨g, 0, none⟩) n n] 84)).heap.size ≤ wq.heap.size := (show Since (W.alloc (.cells #[.slice (some ⟨gx, ox, none⟩) m c, .slice (some ⟨g, 0, none⟩) n n] 84)) wq by assumption).size
    have B1 := Lib.hid (show Bx (wq.alloc (.cells #[.int .i64 0, .int .i64 0] 46)) wq.heap.size #[.int .i64 0, .int .i64 0] 46 from (Bx.fresh wq #[.int .i64 0, .int .i64 0] 46))
    obtain ⟨f0, f1⟩ := B1.out.two
    obtain ⟨g0, g1⟩ := B1.out.two'
    refine wpAnyH_ready (rs := [14]) (by kernel_rfl) (by simp) ?_
    refine AllReadyH.cons rfl (fun K hK => ?_) AllReadyH.nil
    go_simp
    refine hK.out _ _ trivial (fun hHeld => ?_)
    clear hK K
    try simp only [Act.put, List.setIfInBounds_toArray, List.set_cons_zero, List.set_cons_succ]
    refine' Reg.ah3 (i := 15) (v := _) (some 6) rfl (by kernel_rfl) (by kernel_rfl) (by kernel_rfl) (fun _ _ _ h => h) (Or.inl ⟨by rfl, ?hy14⟩) (by assumption) ?rest14
    case hy14 => (intro w' ss; (try dsimp only at ss); go_simp; first | done | with_reducible rfl)
    try simp only [Act.put, List.setIfInBounds_toArray, List.set_cons_zero, List.set_cons_succ]
    refine wpAnyH_done (by kernel_rfl) ?_ _
    refine NoPanic.normal ?_
    have HB := Lib.hid (Bx.fresh wq #[.int .i64 l, .int .i64 u] 46)
    have HS := Lib.hid (show Since W (wq.alloc (.cells #[.int .i64 l, .int .i64 u] 46)) from (ka.out.trans hrq).trans (since_alloc _ _))
    obtain ⟨p0, p1⟩ := HB.out.two
    obtain ⟨W2, hW2⟩ : ∃ W2, W2 = wq.alloc (.cells #[.int .i64 l, .int .i64 u] 46) := ⟨_, rfl⟩
    rw [← hW2] at p0 p1 HS HB ⊢
    clear B1 hr0 hrq hHeld hW2 hge f0 f1 g0 g1
    generalize wq.heap.size = bk at *
    by_cases c1 : l = u
    · subst c1
      go_wp2
      go_ret
      exact ⟨by first | rfl | simp, HS.out⟩
    · go_wp2
      go_ret
      exact ⟨by first | rfl | simp [c1], HS.out⟩
  · have hrq := hr0
    go_simp
    have hx := since_alloc wq (.cells #[.int .i64 0, .int .i64 0] 46)
    refine hK.out _ _ trivial hx ?_
    clear hK K
    have hr0 := hr0.trans hx
    refine Reg.wpG_ready (rs := [11, 12]) (by kernel_rfl) (by simp) (fun wz kz sz => ?_)
    have hr0 := hr0.trans kz
    have hge : (W.alloc (.cells #[.slice (some ⟨gx, ox, none⟩) m c, .slice (some ⟨g, 0, none⟩) n n] 84)).heap.size ≤ wq.heap.size := hrq.size
    refine (Reg.AllG.last (o := { dst := some 18, op := Op.extract (Operand.tmp 7) 0, type := 46, pos := "places.go:41", after := #[{ on := 10, ground := Ground.data }], guard := none }) rfl (by rfl) (fun K hK => ?_) (Reg.AllG.last (o := { dst := some 19, op := Op.extract (Operand.tmp 7) 1, type := 4, pos := "places.go:41", after := #[{ on := 10, ground := Ground.data }, { on := 14, ground := Ground.gcOnly Departure.lateStores }], guard := none }) rfl (by rfl) (fun K hK => ?_) Reg.AllG.nil))
    · go_simp
      refine hK.out _ _ trivial (fun hHeld => ?_)
      clear hK K
      try simp only [Act.put, List.setIfInBounds_toArray, List.set_cons_zero, List.set_cons_succ]
      refine' Reg.ah3 (i := 12) (v := _) (some 19) rfl (by kernel_rfl) (by kernel_rfl) (by kernel_rfl) (fun _ _ _ h => h) (Or.inl ⟨by rfl, ?hy15⟩) (by assumption) ?rest15
      case hy15 => (intro w' ss; (try dsimp only at ss); go_simp; first | done | with_reducible rfl)
      try simp only [Act.put, List.setIfInBounds_toArray, List.set_cons_zero, List.set_cons_succ]
      have B1 := Lib.hid (show Bx wz wq.heap.size #[.int .i64 0, .int .i64 0] 46 from (Bx.fresh wq #[.int .i64 0, .int .i64 0] 46).since kz)
      obtain ⟨f0, f1⟩ := B1.out.two
      obtain ⟨g0, g1⟩ := B1.out.two'
      refine wpAnyH_ready (rs := [14]) (by kernel_rfl) (by simp) ?_
      refine AllReadyH.cons rfl (fun K hK => ?_) AllReadyH.nil
      go_simp
      refine hK.out _ _ trivial (fun hHeld => ?_)
      clear hK K
      try simp only [Act.put, List.setIfInBounds_toArray, List.set_cons_zero, List.set_cons_succ]
      refine' Reg.ah3 (i := 15) (v := _) (some 6) rfl (by kernel_rfl) (by kernel_rfl) (by kernel_rfl) (fun _ _ _ h => h) (Or.inl ⟨by rfl, ?hy16⟩) (by assumption) ?rest16
      case hy16 => (intro w' ss; (try dsimp only at ss); go_simp; first | done | with_reducible rfl)
      try simp only [Act.put, List.setIfInBounds_toArray, List.set_cons_zero, List.set_cons_succ]
      refine wpAnyH_done (by kernel_rfl) ?_ _
      refine NoPanic.normal ?_
      have HB := Lib.hid (B1.out.put2 (.int .i64 l) (.int .i64 u))
      have HS := Lib.hid (show Since W _ from since_put2 (ka.out.trans hr0) (Nat.le_trans ka.out.size hge) (.int .i64 l) (.int .i64 u))
      obtain ⟨p0, p1⟩ := HB.out.two
      unfold put2 at p0 p1 HS HB
      obtain ⟨W2, hW2⟩ : ∃ W2, W2 = (wz.setCell ⟨wq.heap.size, 0, none⟩ (.int .i64 l)).setCell ⟨wq.heap.size, 1, none⟩ (.int .i64 u) := ⟨_, rfl⟩
      rw [← hW2] at p0 p1 HS HB ⊢
      clear B1 hr0 hrq hHeld hW2 hge f0 f1 g0 g1
      generalize wq.heap.size = bk at *
      by_cases c1 : l = u
      · subst c1
        go_wp2
        go_ret
        exact ⟨by first | rfl | simp, HS.out⟩
      · go_wp2
        go_ret
        exact ⟨by first | rfl | simp [c1], HS.out⟩
    · go_simp
      refine hK.out _ _ trivial (fun hHeld => ?_)
      clear hK K
      try simp only [Act.put, List.setIfInBounds_toArray, List.set_cons_zero, List.set_cons_succ]
      refine' Reg.ah3 (i := 11) (v := _) (some 18) rfl (by kernel_rfl) (by kernel_rfl) (by kernel_rfl) (fun _ _ _ h => h) (Or.inl ⟨by rfl, ?hy17⟩) (by assumption) ?rest17
      case hy17 => (intro w' ss; (try dsimp only at ss); go_simp; first | done | with_reducible rfl)
      try simp only [Act.put, List.setIfInBounds_toArray, List.set_cons_zero, List.set_cons_succ]
      have B1 := Lib.hid (show Bx wz wq.heap.size #[.int .i64 0, .int .i64 0] 46 from (Bx.fresh wq #[.int .i64 0, .int .i64 0] 46).since kz)
      obtain ⟨f0, f1⟩ := B1.out.two
      obtain ⟨g0, g1⟩ := B1.out.two'
      refine wpAnyH_ready (rs := [14]) (by kernel_rfl) (by simp) ?_
      refine AllReadyH.cons rfl (fun K hK => ?_) AllReadyH.nil
      go_simp
      refine hK.out _ _ trivial (fun hHeld => ?_)
      clear hK K
      try simp only [Act.put, List.setIfInBounds_toArray, List.set_cons_zero, List.set_cons_succ]
      refine' Reg.ah3 (i := 15) (v := _) (some 6) rfl (by kernel_rfl) (by kernel_rfl) (by kernel_rfl) (fun _ _ _ h => h) (Or.inl ⟨by rfl, ?hy18⟩) (by assumption) ?rest18
      case hy18 => (intro w' ss; (try dsimp only at ss); go_simp; first | done | with_reducible rfl)
      try simp only [Act.put, List.setIfInBounds_toArray, List.set_cons_zero, List.set_cons_succ]
      refine wpAnyH_done (by kernel_rfl) ?_ _
      refine NoPanic.normal ?_
      have HB := Lib.hid (B1.out.put2 (.int .i64 l) (.int .i64 u))
      have HS := Lib.hid (show Since W _ from since_put2 (ka.out.trans hr0) (Nat.le_trans ka.out.size hge) (.int .i64 l) (.int .i64 u))
      obtain ⟨p0, p1⟩ := HB.out.two
      unfold put2 at p0 p1 HS HB
      obtain ⟨W2, hW2⟩ : ∃ W2, W2 = (wz.setCell ⟨wq.heap.size, 0, none⟩ (.int .i64 l)).setCell ⟨wq.heap.size, 1, none⟩ (.int .i64 u) := ⟨_, rfl⟩
      rw [← hW2] at p0 p1 HS HB ⊢
      clear B1 hr0 hrq hHeld hW2 hge f0 f1 g0 g1
      generalize wq.heap.size = bk at *
      by_cases c1 : l = u
      · subst c1
        go_wp2
        go_ret
        exact ⟨by first | rfl | simp, HS.out⟩
      · go_wp2
        go_ret
        exact ⟨by first | rfl | simp [c1], HS.out⟩
end Go.Proofs.Ytilgmkhcpmegjaa.Lgc
