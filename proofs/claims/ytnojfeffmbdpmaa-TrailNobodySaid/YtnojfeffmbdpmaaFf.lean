/- Layer 10 (trail): Pop, Changed of the document's own store. -/
import Derived.Test.YtnojfeffmbdpmaaFe
namespace Go.Proofs.Ytnojfeffmbdpmaa.Tr
open Go.RowKit
set_option linter.unusedVariables false
set_option linter.unusedSimpArgs false
open Go.Proofs.Ytnojfeffmbdpmaa.Dig Go.Proofs.Ytnojfeffmbdpmaa.Lx Go.Proofs.Ytnojfeffmbdpmaa.Tk Go.Proofs.Ytnojfeffmbdpmaa.Ti Go.Proofs.Ytnojfeffmbdpmaa.Zs

theorem Sl.init {α : Type} {Q : World → α → List Value → Prop} {w : World} {A : Option Addr} {n c : Nat} {xs : List α} (h : Sl 1 Q w (.slice A n c) xs) {k : Nat} (hk : k + 1 = n) : Sl 1 Q w (.slice A k c) xs.dropLast := by
  obtain ⟨A', c', h1, h2, h3⟩ := h
  injection h1 with e0 e1 e2
  subst e0 e2 e1
  refine ⟨A, c, by rw [List.length_dropLast, ← hk]; rfl, by rw [List.length_dropLast]; omega, fun hl => ?_⟩
  rw [List.length_dropLast] at hl
  obtain ⟨b, o, h4, h5⟩ := h3 (by omega)
  refine ⟨b, o, h4, fun i x hx => h5 i x ?_⟩
  rw [List.getElem?_dropLast] at hx
  split at hx
  · exact hx
  · cases hx
theorem popD_some {ds : Ds} {ws : List Ds} {fs : List Bool} {k : Nat} (hk : k + 1 = ws.length) (h : k < ws.length) : popD ⟨ds, ws, fs⟩ = (⟨ws[k], ws.dropLast, List.replicate ws[k].length false⟩, 0) := by
  have e : ws.getLast? = some ws[k] := by
    rw [List.getLast?_eq_getElem?, show ws.length - 1 = k by omega, List.getElem?_eq_getElem h]
  unfold popD
  simp only [e]
set_option maxRecDepth 20000 in
set_option maxHeartbeats 2000000 in
theorem rpop_any (v : Value) (s : Sto) (w : World) (h : StoreAt w v s) (hl : s.W.length ≤ 512) (hw : ∀ ds ∈ s.W, ds.length ≤ 100000) :
    Calls Try.prog 16 #[v] w fun e w' => ∃ v', e = .returned (.tuple #[v', .int .i64 (popD s).2]) ∧ StoreAt w' v' (popD s).1 ∧ Since w w' := by
  obtain ⟨vD, vW, vF, rfl, h1, h2, h3⟩ := h
  obtain ⟨ds, ws, fs⟩ := s
  simp only at h1 h2 h3 hl hw
  obtain ⟨AD, cD, rfl⟩ := h1.form
  obtain ⟨AW, cW, rfl⟩ := h2.form
  obtain ⟨AF, cF, rfl⟩ := h3.form
  obtain ⟨nD, hnD⟩ : ∃ n, n = ds.length := ⟨_, rfl⟩
  obtain ⟨nW, hnW⟩ : ∃ n, n = ws.length := ⟨_, rfl⟩
  obtain ⟨nF, hnF⟩ : ∃ n, n = fs.length := ⟨_, rfl⟩
  rw [← hnD] at h1 ⊢
  rw [← hnW] at h2 hl ⊢
  rw [← hnF] at h3 ⊢
  have H1 := Lib.hid h1
  have H2 := Lib.hid h2
  have H3 := Lib.hid h3
  have HD := Lib.hid hnD
  have HW := Lib.hid hnW
  have HF := Lib.hid hnF
  have HH := Lib.hid hw
  clear h1 h2 h3 hnD hnW hnF hw
  rcases nW with _ | k
  · have he : popD ⟨ds, ws, fs⟩ = (⟨ds, ws, fs⟩, 11) := by
      have : ws = [] := List.eq_nil_of_length_eq_zero HW.out.symm
      subst this; rfl
    rw [he]
    clear he
    go_enter Try.func16, Try.ntmps16
    go_wp2
    refine bodyPost_ret (v := .tuple #[.agg #[.slice AD nD cD, .slice AW 0 cW, .slice AF nF cF], .int .i64 11]) ?_ rfl ⟨_, rfl, ?_, ?_⟩
    · simp [results, Try.results16, go_sem]
    · exact (show StoreAt w _ ⟨ds, ws, fs⟩ from ⟨_, _, _, rfl, H1.out, H2.out, H3.out⟩).since (((Since.refl w).alloc _).alloc _)
    · exact ((Since.refl w).alloc _).alloc _
  · have hkl : k < ws.length := by have := HW.out; omega
    rw [popD_some HW.out hkl]
    obtain ⟨g, o, B, d, rfl, hS, e1⟩ := elW H2.out hkl
    have hmem := HH.out ws[k] (List.getElem_mem hkl)
    generalize ws[k] = y at *
    obtain ⟨p, hp⟩ : ∃ p, p = y.length := ⟨_, rfl⟩
    rw [← hp] at hS e1 hmem ⊢
    have HS := Lib.hid hS
    have HP := Lib.hid hp
    have hmk := make_bools p (by omega)
    have hcW : k + 1 ≤ cW := by have := H2.out.at_; omega
    have e2 := fun W (kk : Since w W) => (kk.cell _ (World.block_lt_of_cell? _ _ e1)).trans e1
    have x1 := e2 ((w.alloc (.cells #[.slice AD nD cD, .slice (some ⟨g, o, none⟩) (k + 1) cW, .slice AF nF cF] 31)).alloc (.cells #[.slice none 0 0, .slice none 0 0, .slice none 0 0] 31)) (((Since.refl w).alloc _).alloc _)
    have z1 : ((((k + 1 : Nat) : Int)) == 0) = false := by rw [beq_eq_false_iff_ne]; omega
    have z2 : ((k + 1 : Nat) : Int) - 1 = (k : Int) := by omega
    clear hS e1 e2 hkl hp
    go_enter Try.func16, Try.ntmps16
    go_wp2
    refine bodyPost_ret (v := .tuple #[.agg #[.slice B p d, .slice (some ⟨g, o, none⟩) k cW, .slice (some ⟨w.heap.size + 2, 0, none⟩) p p], .int .i64 0]) ?_ rfl ⟨_, rfl, ?_, ?_⟩
    · simp [results, Try.results16, go_sem]
    · have hb := made_bools ((w.alloc (.cells #[.slice B p d, .slice (some ⟨g, o, none⟩) k cW, .slice (some ⟨w.heap.size + 2, 0, none⟩) p p] 31)).alloc (.cells #[.slice B p d, .slice (some ⟨g, o, none⟩) k cW, .slice (some ⟨w.heap.size + 2, 0, none⟩) p p] 31)) p
      rw [show ((w.alloc (.cells #[.slice B p d, .slice (some ⟨g, o, none⟩) k cW, .slice (some ⟨w.heap.size + 2, 0, none⟩) p p] 31)).alloc (.cells #[.slice B p d, .slice (some ⟨g, o, none⟩) k cW, .slice (some ⟨w.heap.size + 2, 0, none⟩) p p] 31)).heap.size = w.heap.size + 2 from by simp] at hb
      exact ⟨_, _, _, rfl, HS.out.since stD ((((Since.refl w).alloc _).alloc _).alloc _), (Sl.init H2.out rfl).since stW ((((Since.refl w).alloc _).alloc _).alloc _), hb⟩
    · exact (((Since.refl w).alloc _).alloc _).alloc _
section
open Go.RowKit
set_option linter.unusedVariables false
set_option linter.unusedSimpArgs false
open Go.Proofs.Ytnojfeffmbdpmaa.Dig Go.Proofs.Ytnojfeffmbdpmaa.Lx Go.Proofs.Ytnojfeffmbdpmaa.Tk Go.Proofs.Ytnojfeffmbdpmaa.Ti Go.Proofs.Ytnojfeffmbdpmaa.Zs

theorem told_step {fs : List Bool} {k : Nat} (h : k < fs.length) : told 0 (fs.take (k + 1)) = told 0 (fs.take k) ++ (if fs[k] = true then [(k : Int)] else []) := by
  rw [List.take_succ_eq_append_getElem h, told_append, List.length_take, Nat.min_eq_left (Nat.le_of_lt h), Nat.zero_add, told, told, List.append_nil]
theorem Sl.move {α : Type} {Q Q' : World → α → List Value → Prop} {w w' : World} (hQ : ∀ x u, Q w x u → Q' w' x u) {n o m c : Nat} {xs : List α} (h : Sl 1 Q w (.slice (some ⟨n, o, none⟩) m c) xs) (hk : w'.heap[n]? = w.heap[n]?) : Sl 1 Q' w' (.slice (some ⟨n, o, none⟩) m c) xs := by
  obtain ⟨A, c', h1, h2, h3⟩ := h
  refine ⟨A, c', h1, h2, fun hl => ?_⟩
  obtain ⟨b, o', h4, h5⟩ := h3 hl
  refine ⟨b, o', h4, fun i x hx => ?_⟩
  obtain ⟨u, h6, h7, h8⟩ := h5 i x hx
  refine ⟨u, hQ x u h6, h7, fun j y hy => ?_⟩
  injection h1 with e0 e1 e2
  subst h4
  injection e0 with e0
  injection e0 with e0 e3
  subst e0
  rw [World.cell?_of_block (w := w) hk]
  exact h8 j y hy
theorem put3_far (W : World) (a : Addr) (u : Value) (b : Nat) (u0 u1 u2 : Value) (k : Nat) (h : k ≠ a.block) (h2 : k ≠ b) : (put3 (W.setCell a u) b u0 u1 u2).heap[k]? = W.heap[k]? := by
  rw [Below.heap_setCell _ _ _ _ (by simpa using h2), Below.heap_setCell _ _ _ _ (by simpa using h2), Below.heap_setCell _ _ _ _ (by simpa using h2), Below.heap_setCell _ _ _ _ (by simpa using h)]
set_option maxRecDepth 20000 in
set_option maxHeartbeats 2000000 in
theorem rchanged_any (v : Value) (s : Sto) (w : World) (h : StoreAt w v s) (hl : s.D.length ≤ 100000) (hf : s.F.length ≤ 100000) :
    Calls Try.prog 18 #[v] w fun e w' => ∃ v' v2, e = .returned (.tuple #[v', v2]) ∧ StoreAt w' v' (changedD s).1 ∧ Sl 1 QI w' v2 (changedD s).2 ∧ Since w w' := by
  obtain ⟨vD, vW, vF, rfl, h1, h2, h3⟩ := h
  obtain ⟨ds, ws, fs⟩ := s
  simp only at h1 h2 h3 hl hf
  obtain ⟨AD, cD, rfl⟩ := h1.form
  obtain ⟨AW, cW, rfl⟩ := h2.form
  obtain ⟨AF, cF, rfl⟩ := h3.form
  obtain ⟨nD, hnD⟩ : ∃ n, n = ds.length := ⟨_, rfl⟩
  obtain ⟨nW, hnW⟩ : ∃ n, n = ws.length := ⟨_, rfl⟩
  obtain ⟨nF, hnF⟩ : ∃ n, n = fs.length := ⟨_, rfl⟩
  obtain ⟨R, hR⟩ : ∃ R, R = told 0 fs := ⟨_, rfl⟩
  rw [show changedD ⟨ds, ws, fs⟩ = (⟨ds, ws, List.replicate nD false⟩, R) by rw [hR, hnD]; rfl]
  rw [← hnD] at h1 hl ⊢
  rw [← hnW] at h2 ⊢
  rw [← hnF] at h3 hf ⊢
  have H1 := Lib.hid h1
  have H2 := Lib.hid h2
  have H3 := Lib.hid h3
  have HD := Lib.hid hnD
  have HW := Lib.hid hnW
  have HF := Lib.hid hnF
  have HRR := Lib.hid hR
  have hmk := make_bools nD (by omega)
  have HM := Lib.hid hmk
  clear h1 h2 h3 hnD hnW hnF hR hmk
  obtain ⟨w0, hw0⟩ : ∃ w0, w0 = (w.alloc (.cells #[.slice AD nD cD, .slice AW nW cW, .slice AF nF cF] 31)).alloc (.cells #[.slice none 0 0, .slice none 0 0, .slice none 0 0] 31) := ⟨_, rfl⟩
  have S0 := Lib.hid (show Since w w0 by rw [hw0]; exact ((Since.refl w).alloc _).alloc _)
  have B0 := Lib.hid (show Bx w0 w.heap.size #[.slice AD nD cD, .slice AW nW cW, .slice AF nF cF] 31 by rw [hw0]; exact (Bx.fresh w _ _).since (since_alloc _ _))
  have B1 := Lib.hid (show Bx w0 (w.heap.size + 1) #[.slice none 0 0, .slice none 0 0, .slice none 0 0] 31 by rw [hw0]; exact Bx.new (Since.refl _) (by simp))
  have hs0 := Lib.hid (show w0.heap.size = w.heap.size + 2 by rw [hw0]; simp)
  go_enter Try.func18, Try.ntmps18
  go_wp2
  rw [← hw0]
  clear hw0
  go_loopw [4, 5] (fun l i wr => ∃ (k m : Nat) (A : Option Addr) (c : Nat) (xs : List Int), i = .int .i64 (k : Int) ∧ l = .slice A m c ∧ k ≤ nF ∧ m ≤ k ∧ Hid (xs = told 0 (fs.take k)) ∧ Hid (xs.length = m) ∧ Hid (Rq 3 (QI w) w0 wr (.slice A m c) xs)) (fun _ i _ => nF - (intOf i).toNat)
  case atStart => exact ⟨0, 0, none, 0, [], rfl, rfl, Nat.zero_le _, Nat.le_refl _, rfl, rfl, Rq.nil _ _ (Since.refl _)⟩
  case round =>
    obtain ⟨k, m, A, c, xs, rfl, rfl, hk, hm, HX, HL, HR⟩ := hrel
    obtain ⟨c00, c01, c02⟩ := bx3 (B0.out.since HR.out.s)
    by_cases hkn : k < nF
    · have hkl : k < fs.length := by have := HF.out; omega
      obtain ⟨g, o, rfl, e1⟩ := elB H3.out hkl
      have e0 := ((S0.out.trans HR.out.s).cell _ (World.block_lt_of_cell? _ _ e1)).trans e1
      have HT := Lib.hid (told_step hkl)
      generalize fs[k] = y at *
      have hl9 : xs.length ≤ 1000000 := by have := HL.out; omega
      clear e1 hkl
      cases y with
      | true =>
        go_wp2_with (at_builtin; refine wpList_appQ kI (HR.out.since (since_alloc _ _)) hl9 (k : Int) (.int .i64 (k : Int)) rfl rfl wr.heap.size 1 ((Bx.fresh wr _ _).cell 0) (by rfl) _ _ rfl rfl rfl ?_; intro A3 c3 w2 h2 q2)
        go_roundw
        case rel => exact ⟨k + 1, m + 1, A3, c3, xs ++ [(k : Int)], by go_num, by rw [HL.out], by omega, by omega, (by rw [HX.out]; exact HT.out.symm), (by rw [List.length_append, HL.out]; rfl), (by rw [HL.out] at h2; exact h2)⟩
        case measure => simp [intOf]; omega
      | false =>
        go_wp2
        go_roundw
        case rel => exact ⟨k + 1, m, A, c, xs, by go_num, rfl, by omega, by omega, (by rw [HT.out, HX.out]; exact (List.append_nil _).symm), HL.out, HR.out⟩
        case measure => simp [intOf]; omega
    · obtain rfl : k = nF := by omega
      have HE := Lib.hid (show xs = R by rw [HX.out, HRR.out, List.take_of_length_le (by have := HF.out; omega)])
      obtain ⟨W1, hW1⟩ : ∃ W1, W1 = wr.alloc (.cells (madeCells #[.bool false] nD) 4) := ⟨_, rfl⟩
      have hmk := HM.out wr
      have hb := made_bools wr nD
      have S1 : Since wr W1 := by rw [hW1]; exact since_alloc _ _
      rw [← hW1] at hmk hb
      have HB := Lib.hid hb
      have S2 := Lib.hid (HR.out.s.trans S1)
      obtain ⟨n, hn⟩ : ∃ n, n = wr.heap.size := ⟨_, rfl⟩
      have hnn : w.heap.size + 2 ≤ n := by rw [hn, ← hs0.out]; exact HR.out.s.size
      rw [← hn] at hmk HB
      have HR2 := Lib.hid (HR.out.since S1)
      clear hb hW1 S1
      obtain ⟨f00, f01, f02⟩ := bx3' (B0.out.since S2.out)
      obtain ⟨o00, o01, o02⟩ := bx3 (B0.out.since S2.out)
      obtain ⟨o10, o11, o12⟩ := bx3 (B1.out.since S2.out)
      obtain ⟨q10, q11, q12⟩ := bx3' (B1.out.since S2.out)
      have P0 := bxset (B0.out.since S2.out) 2 (.slice (some ⟨n, 0, none⟩) nD nD) rfl
      obtain ⟨p00, p01, p02⟩ := bx3 P0
      have P1 := ((B1.out.since S2.out).other (b' := w.heap.size) (by omega) 2 (.slice (some ⟨n, 0, none⟩) nD nD))
      obtain ⟨f10, f11, f12⟩ := bx3' P1
      obtain ⟨p10, p11, p12⟩ := bx3 (bxput3 P1 (.slice AD nD cD) (.slice AW nW cW) (.slice (some ⟨n, 0, none⟩) nD nD))
      unfold put3 at p10 p11 p12
      clear hn
      go_wp2
      have SS := Lib.hid (since_put3 (((S0.out.trans S2.out).set (p := ⟨w.heap.size, 2, none⟩) (Nat.le_refl _) (.slice (some ⟨n, 0, none⟩) nD nD))) (Nat.le_succ w.heap.size) (.slice AD nD cD) (.slice AW nW cW) (.slice (some ⟨n, 0, none⟩) nD nD))
      refine bodyPost_ret (v := .tuple #[.agg #[.slice AD nD cD, .slice AW nW cW, .slice (some ⟨n, 0, none⟩) nD nD], .slice A m c]) ?_ rfl ⟨_, _, rfl, ⟨_, _, _, rfl, H1.out.since stD SS.out, H2.out.since stW SS.out, ?_⟩, ?_, SS.out⟩
      · rw [results_cell_tmp rfl]
        go_simp
      · have ne1 : n ≠ w.heap.size := by omega
        have ne2 : n ≠ w.heap.size + 1 := by omega
        have hh := Sl.move (Q := QB) (Q' := QB) (w := W1) (w' := put3 (W1.setCell ⟨w.heap.size, 2, none⟩ (.slice (some ⟨n, 0, none⟩) nD nD)) (w.heap.size + 1) (.slice AD nD cD) (.slice AW nW cW) (.slice (some ⟨n, 0, none⟩) nD nD)) (fun x u h => h) HB.out (put3_far W1 ⟨w.heap.size, 2, none⟩ (.slice (some ⟨n, 0, none⟩) nD nD) (w.heap.size + 1) (.slice AD nD cD) (.slice AW nW cW) (.slice (some ⟨n, 0, none⟩) nD nD) n ne1 ne2)
        exact hh
      · have hh := sl_put3 HR2.out (a0 := ⟨w.heap.size, 2, none⟩) (.slice (some ⟨n, 0, none⟩) nD nD) (b := w.heap.size + 1) (by rw [hs0.out]; show w.heap.size < _; omega) (by rw [hs0.out]; omega) (.slice AD nD cD) (.slice AW nW cW) (.slice (some ⟨n, 0, none⟩) nD nD)
        rw [HE.out] at hh
        exact Sl.mono (Q := fun _ => QI w) (Q' := QI) (by intro x u hq; exact hq) hh
end
end Go.Proofs.Ytnojfeffmbdpmaa.Tr
