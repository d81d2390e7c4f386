/- Layer 10 (trail): New of the document's own store; a row of truth values as made. -/
import Derived.Test.YtnojfeffmbdpmaaFd
import Derived.Deep.OwnRows
namespace Go.Proofs.Ytnojfeffmbdpmaa.Tr
open Go.RowKit
set_option linter.unusedVariables false
set_option linter.unusedSimpArgs false
open Go.Proofs.Ytnojfeffmbdpmaa.Dig Go.Proofs.Ytnojfeffmbdpmaa.Lx Go.Proofs.Ytnojfeffmbdpmaa.Tk Go.Proofs.Ytnojfeffmbdpmaa.Ti Go.Proofs.Ytnojfeffmbdpmaa.Zs

theorem info_bool : (Try.prog.info? 4).map (fun i => (i.zero, i.size, i.bytes)) = some (some (.bool false), 1, 1) := by kernel_rfl
theorem info_dom : (Try.prog.info? 33).map (fun i => (i.zero, i.size, i.bytes)) = some (some (.slice none 0 0), 1, 24) := by kernel_rfl
theorem info_doms : (Try.prog.info? 22).map (fun i => (i.zero, i.size, i.bytes)) = some (some (.slice none 0 0), 1, 24) := by kernel_rfl
theorem info_int : (Try.prog.info? 3).map (fun i => (i.zero, i.size, i.bytes)) = some (some (.int .i64 0), 1, 8) := by kernel_rfl
theorem kind1 {P : Program} {t e : TypeId} {z : Value} {bytes : Nat} (ht : P.underlying t = some (.slice e)) (h : (P.info? e).map (fun i => (i.zero, i.size, i.bytes)) = some (some z, 1, bytes)) (hb : bytes ≤ 24) (hz : z.cells.size = 1) : Kind1 P t e := by
  obtain ⟨i0, hi, hz0, hz1, hz2⟩ := info_parts h
  exact ⟨ht, i0, z, bytes, hi, hz0, hz1, hz2, hb, hz⟩
theorem kB : Kind1 Try.prog 29 4 := kind1 Try.underlying29 info_bool (by decide) rfl
theorem kD : Kind1 Try.prog 22 33 := kind1 Try.underlying22 info_dom (by decide) rfl
theorem kW : Kind1 Try.prog 28 22 := kind1 Try.underlying28 info_doms (by decide) rfl
theorem kI : Kind1 Try.prog 44 3 := kind1 Try.underlying44 info_int (by decide) rfl
theorem make_bools (n : Nat) (hn : n ≤ 1000000) (W : World) : (Instr.makeSlice 29 (.int .i64 (n : Int)) (.int .i64 (n : Int))).run Try.prog W = .ok (.slice (some ⟨W.heap.size, 0, none⟩) n n) (W.alloc (.cells (madeCells #[.bool false] n) 4)) := by
  obtain ⟨i0, hi, hz0, hz1, hz2⟩ := info_parts info_bool
  have h := run_make (P := Try.prog) W 29 4 i0 (.bool false) Try.underlying29 hi hz0 .i64 .i64 n n (by omega) (by omega) (by rw [hz2]; omega) (by omega)
  rw [hz1] at h
  simpa [Value.cells] using h
theorem made_bools (w : World) (n : Nat) : Sl 1 QB (w.alloc (.cells (madeCells #[.bool false] n) 4)) (.slice (some ⟨w.heap.size, 0, none⟩) n n) (List.replicate n false) := by
  refine ⟨some ⟨w.heap.size, 0, none⟩, n, by simp, by simp, fun _ => ⟨w.heap.size, 0, rfl, fun i x hx => ?_⟩⟩
  have hi : i < n := by
    have := (List.getElem?_eq_some_iff.1 hx).1
    simpa using this
  have hx2 : x = false := by
    rw [List.getElem?_replicate, if_pos hi] at hx
    exact (Option.some.inj hx).symm
  refine ⟨[.bool x], rfl, rfl, fun j y hy => ?_⟩
  match j, hy with
  | 0, hy =>
    have hy2 : Value.bool x = y := Option.some.inj hy
    subst hy2 hx2
    have := (World.rowIs_made w (.bool false) n 4).cell hi
    simpa using this
  | j + 1, hy => simp at hy
/-- the call returns the document's store -/
def RetSt (w : World) (s : Sto) (e : Ending) (w' : World) : Prop := ∃ v, e = .returned v ∧ StoreAt w' v s ∧ Since w w'
set_option maxRecDepth 20000 in
set_option maxHeartbeats 2000000 in
theorem rnew_any (v : Value) (ds : Ds) (w : World) (h : Sl 1 QD w v ds) (hl : ds.length ≤ 100000) :
    Calls Try.prog 11 #[v] w (RetSt w (newD ds)) := by
  obtain ⟨A, c, rfl⟩ := h.form
  obtain ⟨n, hn⟩ : ∃ n, n = ds.length := ⟨_, rfl⟩
  rw [← hn] at h hl ⊢
  have H := Lib.hid h
  have HN := Lib.hid hn
  clear h hn
  have hmk := make_bools n (by omega)
  go_enter Try.func11, Try.ntmps11
  go_wp2
  refine bodyPost_ret (v := .agg #[.slice A n c, .slice none 0 0, .slice (some ⟨w.heap.size + 1, 0, none⟩) n n]) ?_ rfl ⟨_, rfl, ?_, ?_⟩
  · simp [results, Try.results11, go_sem]
  · refine ⟨_, _, _, rfl, H.out.since stD (((Since.refl w).alloc _).alloc _), Sl.nil _ _ _, ?_⟩
    have hb := made_bools (w.alloc (.cells #[.slice A n c, .slice none 0 0, .slice (some ⟨w.heap.size + 1, 0, none⟩) n n] 31)) n
    rw [show (w.alloc (.cells #[.slice A n c, .slice none 0 0, .slice (some ⟨w.heap.size + 1, 0, none⟩) n n] 31)).heap.size = w.heap.size + 1 from by simp] at hb
    show Sl 1 QB _ _ (List.replicate ds.length false)
    rw [← HN.out]
    exact hb
  · exact ((Since.refl w).alloc _).alloc _
set_option maxRecDepth 20000 in
set_option maxHeartbeats 2000000 in
theorem rpush_any (v : Value) (s : Sto) (w : World) (h : StoreAt w v s) (hl : s.W.length ≤ 512) :
    Calls Try.prog 14 #[v] w fun e w' => ∃ v', e = .returned (.tuple #[v', .int .i64 (pushD s).2]) ∧ StoreAt w' v' (pushD s).1 ∧ Since w w' := by
  obtain ⟨vD, vW, vF, rfl, h1, h2, h3⟩ := h
  obtain ⟨ds, ws, fs⟩ := s
  simp only at h1 h2 h3 hl
  obtain ⟨AD, cD, rfl⟩ := h1.form
  obtain ⟨AW, cW, rfl⟩ := h2.form
  obtain ⟨AF, cF, rfl⟩ := h3.form
  obtain ⟨nD, hnD⟩ : ∃ n, n = ds.length := ⟨_, rfl⟩
  obtain ⟨nW, hnW⟩ : ∃ n, n = ws.length := ⟨_, rfl⟩
  obtain ⟨nF, hnF⟩ : ∃ n, n = fs.length := ⟨_, rfl⟩
  rw [← hnD] at h1 ⊢
  rw [← hnW] at h2 hl ⊢
  rw [← hnF] at h3 ⊢
  have H1 := Lib.hid h1
  have H2 := Lib.hid h2
  have H3 := Lib.hid h3
  have HD := Lib.hid hnD
  have HW := Lib.hid hnW
  have HF := Lib.hid hnF
  clear h1 h2 h3 hnD hnW hnF
  by_cases h512 : 512 ≤ nW
  · have he : pushD ⟨ds, ws, fs⟩ = (⟨ds, ws, fs⟩, 3) := if_pos (by have := HW.out; show 512 ≤ ws.length; omega)
    rw [he]
    clear he
    have hz : decide ((512 : Int) ≤ (nW : Int)) = true := by rw [decide_eq_true_iff]; omega
    go_enter Try.func14, Try.ntmps14
    go_wp2
    refine bodyPost_ret (v := .tuple #[.agg #[.slice AD nD cD, .slice AW nW cW, .slice AF nF cF], .int .i64 3]) ?_ rfl ⟨_, rfl, ?_, ?_⟩
    · simp [results, Try.results14, go_sem]
    · exact (show StoreAt w _ ⟨ds, ws, fs⟩ from ⟨_, _, _, rfl, H1.out, H2.out, H3.out⟩).since (((Since.refl w).alloc _).alloc _)
    · exact ((Since.refl w).alloc _).alloc _
  · have he : pushD ⟨ds, ws, fs⟩ = (⟨ds, ws ++ [ds], fs⟩, 0) := if_neg (by have := HW.out; show ¬ 512 ≤ ws.length; omega)
    rw [he]
    clear he
    have hz : decide ((512 : Int) ≤ (nW : Int)) = false := by rw [decide_eq_false_iff_not]; omega
    obtain ⟨w0, hw0⟩ : ∃ w0, w0 = (w.alloc (.cells #[.slice AD nD cD, .slice AW nW cW, .slice AF nF cF] 31)).alloc (.cells #[.slice none 0 0, .slice none 0 0, .slice none 0 0] 31) := ⟨_, rfl⟩
    have S0 := Lib.hid (show Since w w0 by rw [hw0]; exact ((Since.refl w).alloc _).alloc _)
    have B0 := Lib.hid (show Bx w0 w.heap.size #[.slice AD nD cD, .slice AW nW cW, .slice AF nF cF] 31 by rw [hw0]; exact (Bx.fresh w _ _).since (since_alloc _ _))
    have B1 := Lib.hid (show Bx w0 (w.heap.size + 1) #[.slice none 0 0, .slice none 0 0, .slice none 0 0] 31 by rw [hw0]; exact Bx.new (Since.refl _) (by simp))
    have hs0 := Lib.hid (show w0.heap.size = w.heap.size + 2 by rw [hw0]; simp)
    go_enter Try.func14, Try.ntmps14
    go_wp2
    rw [← hw0]
    clear hw0
    go_loopw [4, 5] (fun l i wr => ∃ (k : Nat) (A : Option Addr) (c : Nat) (xs : List Ds), i = .int .i64 (k : Int) ∧ l = .slice A k c ∧ k ≤ nW ∧ Hid (xs = ws.take k) ∧ Hid (xs.length = k) ∧ Hid (Rq 22 (QW w) w0 wr (.slice A k c) xs)) (fun _ i _ => nW - (intOf i).toNat)
    case atStart => exact ⟨0, none, 0, [], rfl, rfl, Nat.zero_le _, rfl, rfl, Rq.nil _ _ (Since.refl _)⟩
    case round =>
      obtain ⟨k, A, c, xs, rfl, rfl, hk, HX, HL, HR⟩ := hrel
      obtain ⟨c00, c01, c02⟩ := bx3 (B0.out.since HR.out.s)
      by_cases hkn : k < nW
      · have hkl : k < ws.length := by have := HW.out; omega
        obtain ⟨g, o, B, d, rfl, hS, e1⟩ := elW H2.out hkl
        have e0 := ((S0.out.trans HR.out.s).cell _ (World.block_lt_of_cell? _ _ e1)).trans e1
        have HT := Lib.hid (show ws.take k ++ [ws[k]] = ws.take (k + 1) from (List.take_succ_eq_append_getElem hkl).symm)
        generalize ws[k] = y at *
        have HS := Lib.hid hS
        have hl9 : xs.length ≤ 1000000 := by have := HL.out; omega
        clear hS e1 hkl
        go_wp2_with (at_builtin; refine wpList_appQ kW (HR.out.since (since_alloc _ _)) hl9 y (.slice B y.length d) ⟨_, rfl, HS.out⟩ rfl wr.heap.size 1 ((Bx.fresh wr _ _).cell 0) (by rfl) _ _ rfl rfl rfl ?_; intro A3 c3 w2 h2 q2)
        go_roundw
        case rel => exact ⟨k + 1, A3, c3, xs ++ [y], by go_num, by rw [HL.out], by omega, (by rw [HX.out]; exact HT.out), (by rw [List.length_append, HL.out]; rfl), (by rw [HL.out] at h2; exact h2)⟩
        case measure => simp [intOf]; omega
      · obtain rfl : k = nW := by omega
        have HE := Lib.hid (show xs = ws by rw [HX.out]; exact List.take_of_length_le (by have := HW.out; omega))
        have hl9 : xs.length ≤ 1000000 := by have := HL.out; omega
        go_wp2_with (at_builtin; refine wpList_appQ kW (HR.out.since (since_alloc _ _)) hl9 ds (.slice AD nD cD) ⟨_, rfl, H1.out⟩ rfl wr.heap.size 1 ((Bx.fresh wr _ _).cell 0) (by rfl) _ _ rfl rfl rfl ?_; intro A3 c3 w2 h2 q2; rw [HL.out] at h2 ⊢; obtain ⟨f00, f01, f02⟩ := bx3' (B0.out.since h2.s); obtain ⟨o00, o01, o02⟩ := bx3 (B0.out.since h2.s); obtain ⟨o10, o11, o12⟩ := bx3 (B1.out.since h2.s); obtain ⟨q10, q11, q12⟩ := bx3' (B1.out.since h2.s); have P0 := bxset (B0.out.since h2.s) 1 (.slice A3 (k + 1) c3) rfl; obtain ⟨p00, p01, p02⟩ := bx3 P0; have P1 := ((B1.out.since h2.s).other (b' := w.heap.size) (by omega) 1 (.slice A3 (k + 1) c3)); obtain ⟨f10, f11, f12⟩ := bx3' P1; obtain ⟨p10, p11, p12⟩ := bx3 (bxput3 P1 (.slice AD nD cD) (.slice A3 (k + 1) c3) (.slice AF nF cF)); unfold put3 at p10 p11 p12)
        have SS := Lib.hid (since_put3 (((S0.out.trans h2.s).set (p := ⟨w.heap.size, 1, none⟩) (Nat.le_refl _) (.slice A3 (k + 1) c3))) (Nat.le_succ w.heap.size) (.slice AD nD cD) (.slice A3 (k + 1) c3) (.slice AF nF cF))
        refine bodyPost_ret (v := .tuple #[.agg #[.slice AD nD cD, .slice A3 (k + 1) c3, .slice AF nF cF], .int .i64 0]) ?_ rfl ⟨_, rfl, ⟨_, _, _, rfl, H1.out.since stD SS.out, ?_, H3.out.since stB SS.out⟩, SS.out⟩
        · rw [results_cell_tmp rfl]
          go_simp
        · have hh := sl_put3 h2 (a0 := ⟨w.heap.size, 1, none⟩) (.slice A3 (k + 1) c3) (b := w.heap.size + 1) (by rw [hs0.out]; show w.heap.size < _; omega) (by rw [hs0.out]; omega) (.slice AD nD cD) (.slice A3 (k + 1) c3) (.slice AF nF cF)
          rw [HE.out] at hh
          exact Sl.mono (Q := fun _ => QW w) (Q' := QW) (fun x u (hq : QW w x u) => stW _ _ _ _ hq SS.out) hh
end Go.Proofs.Ytnojfeffmbdpmaa.Tr
