/- Layers 11, 12: the document's own first and after. -/
import Derived.Test.YtilgmkhcpmegjaaQbf
import Derived.Test.YtilgmkhcpmegjaaQbi
import Derived.Test.YtilgmkhcpmegjaaQbc
namespace Go.Proofs.Ytilgmkhcpmegjaa.Ev
open Go.RowKit
set_option linter.unusedVariables false
set_option linter.unusedSimpArgs false
open Go.Proofs.Ytilgmkhcpmegjaa.Dig Go.Proofs.Ytilgmkhcpmegjaa.Lx Go.Proofs.Ytilgmkhcpmegjaa.Tk Go.Proofs.Ytilgmkhcpmegjaa.Ti Go.Proofs.Ytilgmkhcpmegjaa.Zs Go.Proofs.Ytilgmkhcpmegjaa.Tr Go.Proofs.Ytilgmkhcpmegjaa.Sn Go.Proofs.Ytilgmkhcpmegjaa.Ln
/-- append([]int64{}, a...): a row of the call's own -/
theorem wpList_copyJ {w W : World} {l : List Int} {n c : Nat} {A : Option Addr} (hS : Sl 1 QI W (.slice A n c) l) (hk : Since w W) (hp : 0 < n) (hl : n ≤ 1000000) {v0 : Value} (hown : W.ownsRow w.heap.size 2 1 v0 0 [])
    {ops : Array Oper} {rest : List Oper} {o : Oper} {a : Act} {R : Exit → Act → World → Prop} (hw : Region.wanted o (yielded ops a.tmps) = true) (s z : Operand)
    (ho : o.op = .call { callee := .builtin .append, args := #[s, z], argTypes := #[23, 23] }) (hs : a.eval s = v0) (hx : a.eval z = .slice A n c)
    (h : ∀ g d cur w', Bx w' g cur 2 → w.heap.size ≤ g → n ≤ d → Beg cur l → Since w w' → wpList Try.prog ops R rest (a.put o.dst (.slice (some ⟨g, 0, none⟩) n d)) w') : wpList Try.prog ops R (o :: rest) a W := by
  refine BigFrame.wpList_want hw fun K hK => ?_
  obtain ⟨i, zv, bytes, hi, hz0, hz1, hz2, hz3, hz4⟩ := nL.inf
  have hnl := hS.at_.1
  obtain ⟨A', c', e1, e2, e3⟩ := hS
  injection e1 with e4 e5 e6
  subst e4
  obtain ⟨b, o', rfl, hcell⟩ := e3 (by omega)
  have hmul : n * bytes ≤ n * 24 := Nat.mul_le_mul_left _ hz3
  refine wp_append_at W s z 23 ho w.heap.size 2 i zv 1 bytes nL.ht hi hz0 hz1 hz2 hz4 (by decide) v0 0 [] hs hown ⟨b, o', none⟩ n c (l.map (Value.int .i64)) hx (by simp [hnl]) ?_ ?_ ?_ ?_ hk.size fun v' w' h2 h3 h4 => ?_
  · intro j u hj
    rw [List.getElem?_map] at hj
    cases hlj : l[j]? with
    | none => rw [hlj] at hj; cases hj
    | some x =>
      rw [hlj] at hj
      cases hj
      obtain ⟨u, h6, h7, h8⟩ := hcell j x hlj
      cases h6
      have := h8 0 _ rfl
      rw [add_at]
      simpa using this
  · intro u hu
    simp only [List.mem_map] at hu
    obtain ⟨x, -, rfl⟩ := hu; rfl
  · unfold maxLen; omega
  · rw [Nat.zero_add]; omega
  · simp only [List.nil_append, Nat.zero_add] at h2 h3
    have hsw : Since w w' := Below.grown hk h3 hk.size (fun g hg => (hown.lt g hg).1)
    rcases h2.2 with ⟨-, h5⟩ | ⟨g, cap, cur, rfl, h6, h7, h8, h9, h10, h11⟩
    · omega
    · refine hK _ _ (h g cap cur w' h7 h6 h8 (fun i x hx => ?_) hsw)
      rw [Nat.mul_one] at h11
      have h12 : (cur.toList.take n)[i]? = some (Value.int .i64 x) := by rw [h11, List.getElem?_map, hx]; rfl
      have hi2 : i < n := by
        apply Decidable.byContradiction; intro hn
        rw [List.getElem?_eq_none (by rw [hnl] at hn; omega)] at hx; cases hx
      rw [List.getElem?_take_of_lt hi2] at h12
      simpa using h12
/-- append([]int64{}, a...) of nothing -/
theorem wpList_copyK {w W : World} {c : Nat} {A : Option Addr} (hk : Since w W) {v0 : Value} (hown : W.ownsRow w.heap.size 2 1 v0 0 [])
    {ops : Array Oper} {rest : List Oper} {o : Oper} {a : Act} {R : Exit → Act → World → Prop} (hw : Region.wanted o (yielded ops a.tmps) = true) (s z : Operand)
    (ho : o.op = .call { callee := .builtin .append, args := #[s, z], argTypes := #[23, 23] }) (hs : a.eval s = v0) (hx : a.eval z = .slice A 0 c)
    (h : ∀ B d w', (∀ b, (Value.slice B 0 d).ownBlock = some b → w.heap.size ≤ b ∧ b < w'.heap.size) → Since w w' → wpList Try.prog ops R rest (a.put o.dst (.slice B 0 d)) w') : wpList Try.prog ops R (o :: rest) a W := by
  refine BigFrame.wpList_want hw fun K hK => ?_
  obtain ⟨i, zv, bytes, hi, hz0, hz1, hz2, hz3, hz4⟩ := nL.inf
  cases A with
  | none =>
    have hrun := Go.Proofs.Ytilgmkhcpmegjaa.Tk.run_append_nil (P := Try.prog) (ty := o.type) nL.ht hi hown c
    unfold Oper.wp execOp
    simp only [ho, resolve, invoke, builtin, Sem.run_bind, Sem.run_pure, Result.andThen_ok, List.map_toArray, List.map_cons, List.map_nil, hs, hx, hrun]
    obtain ⟨B, d, rfl⟩ := owns_slice hown
    exact hK _ _ (h B d W (fun b hb => hown.lt b hb) hk)
  | some ad =>
    refine wp_append_at W s z 23 ho w.heap.size 2 i zv 1 bytes nL.ht hi hz0 hz1 hz2 hz4 (by decide) v0 0 [] hs hown ad 0 c [] hx rfl (by simp) (by simp) (by unfold maxLen; omega) (by simp) hk.size fun v' w' h2 h3 h4 => ?_
    have hsw : Since w w' := Below.grown hk h3 hk.size (fun g hg => (hown.lt g hg).1)
    simp only [List.append_nil, Nat.zero_add] at h2
    obtain ⟨B, d, rfl⟩ := owns_slice h2
    exact hK _ _ (h B d w' (fun b hb => h2.lt b hb) hsw)
theorem lo_cell {w : World} {B : Option Addr} {dl cB : Nat} {d : List Rn} (h : Sl 2 QR w (.slice B dl cB) d) (hd : d ≠ []) : ∃ g o, B = some ⟨g, o, none⟩ ∧ w.cell? ⟨g, o, none⟩ = some (.int .i64 (d.headD (0, 0)).1) ∧ 0 < dl := by
  have hp := List.length_pos_iff.2 hd
  have hm := h.at_.1
  obtain ⟨g, o, h1, h2, -⟩ := elR h (i := 0) hp
  refine ⟨g, o, h1, ?_, by omega⟩
  have e : d[0] = d.headD (0, 0) := by cases d with | nil => exact absurd rfl hd | cons r l => rfl
  rw [e] at h2
  simpa using h2
set_option maxRecDepth 20000 in
set_option maxHeartbeats 3000000 in
theorem first_any (v : Value) (ds : Ln.Ds) (w : World) (h : Sl 1 QD w v ds) (hl : ds.length ≤ 1000) (hG : Gd ds) :
    Calls Try.prog 77 #[v] w (fun e w' => ∃ A c, e = .returned (.slice A ds.length c) ∧ Rq 2 QI0 w w' (.slice A ds.length c) (lows ds)) := by
  obtain ⟨A, c, rfl⟩ := h.form
  obtain ⟨nd, hn⟩ : ∃ n, n = List.length ds := ⟨_, rfl⟩
  rw [← hn] at h hl ⊢
  have H := Lib.hid h
  have HN := Lib.hid hn
  have HG := Lib.hid hG
  clear h hn hG
  go_enter Try.func77, Try.ntmps77
  go_wp2
  go_loopw [3, 4] (fun s i wr => ∃ (k : Nat) (A : Option Addr) (c : Nat), i = .int .i64 (k : Int) ∧ s = .slice A k c ∧ k ≤ nd ∧ Hid (Rq 2 QI0 w wr (.slice A k c) (lows (ds.take k)))) (fun _ i _ => nd - (intOf i).toNat)
  case atStart => exact ⟨0, none, 0, rfl, rfl, Nat.zero_le _, Lib.hid (Rq.nil _ _ (Since.refl _))⟩
  case round =>
    obtain ⟨k, O, cO, rfl, rfl, hk, HR⟩ := hrel
    by_cases hkn : k < nd
    · have hkl : k < ds.length := by have := HN.out; omega
      obtain ⟨g, o, B, cB, rfl, hS, e0⟩ := elD (H.out.since stD HR.out.s) hkl
      have hg := HG.out _ (List.getElem_mem hkl)
      obtain ⟨gb, ob, rfl, e1, hdl⟩ := lo_cell hS hg.2
      have SN := Lib.hid (show lows (ds.take (k + 1)) = lows (ds.take k) ++ [(ds[k].headD (0, 0)).1] by unfold lows; rw [List.take_succ_eq_append_getElem hkl, List.map_append]; rfl)
      have HL := Lib.hid (show (lows (ds.take k)).length = k by unfold lows; rw [List.length_map, List.length_take]; omega)
      have hl9 : (lows (ds.take k)).length ≤ 1000000 := by rw [HL.out]; omega
      generalize ds[k].length = dl at *
      generalize (ds[k].headD (0, 0)).1 = x at *
      clear hS hg hkl
      go_wp2_with (at_builtin; refine wpList_appW nL (HR.out.since (since_alloc _ _)) hl9 x (.int .i64 x) rfl rfl wr.heap.size 1 ((Bx.fresh wr #[.int .i64 x] 2).cell 0) (by rfl) _ _ rfl rfl rfl ?_; rw [HL.out]; intro A3 c3 w3 h3 q3; have H3 := Lib.hid h3; clear h3 q3)
      go_roundw
      case rel => exact ⟨k + 1, A3, c3, by go_num, rfl, by omega, Lib.hid (by rw [SN.out]; exact H3.out)⟩
      case measure => simp [intOf]; omega
    · obtain rfl : k = nd := by omega
      go_wp2
      go_ret
      have h := HR.out
      rw [List.take_of_length_le (by have := HN.out; omega)] at h
      exact ⟨O, cO, rfl, h⟩
theorem set_mid0 {α : Type} (l m : List α) (a y : α) {k : Nat} (h : k = l.length) : (l ++ a :: m).set k y = l ++ y :: m := by subst h; simp
theorem set_mid2 (a t : List Int) {j n : Nat} (hj : j < a.length) (x y : Int) : (a.take (j + 1) ++ t).set j x = a.take j ++ x :: t := by
  rw [List.take_succ_eq_append_getElem hj, List.append_assoc]
  exact set_mid0 _ _ _ _ (by rw [List.length_take]; omega)
set_option maxRecDepth 20000 in
set_option maxHeartbeats 4000000 in
theorem after_any (vd va : Value) (ds : Ln.Ds) (a : List Int) (w : World) (hd : Sl 1 QD w vd ds) (ha : Sl 1 QI w va a) (hl : ds.length ≤ 1000) (hG : Gd ds) (hw : Wi ds a) :
    Calls Try.prog 78 #[vd, va] w (fun e w' => ∃ A c, e = .returned (.tuple #[.slice A ds.length c, .bool (nextB ds a).isSome]) ∧ (∀ b, (Value.slice A ds.length c).ownBlock = some b → w.heap.size ≤ b ∧ b < w'.heap.size) ∧ (∀ b, nextB ds a = some b → Sl 1 QI w' (.slice A ds.length c) b) ∧ Since w w') := by
  have hal := hw.1
  obtain ⟨A, c, rfl⟩ := hd.form
  obtain ⟨X, xc, rfl⟩ := ha.form
  rw [hal] at ha ⊢
  obtain ⟨n, hn⟩ : ∃ n, n = List.length ds := ⟨_, rfl⟩
  rw [← hn] at hd ha hl ⊢
  by_cases h0 : n = 0
  · subst h0
    have e : nextB ds a = none := by
      have e1 : ds = [] := List.eq_nil_of_length_eq_zero hn.symm
      subst e1; rfl
    rw [e]
    have HA := Lib.hid ha
    have R0 := Lib.hid (show (w.alloc (.cells #[] 2)).ownsRow w.heap.size 2 1 (.slice (some ⟨w.heap.size, 0, none⟩) 0 0) 0 [] from World.ownsRow_made w #[] 0 (Nat.le_refl _) (Nat.zero_le _) rfl)
    have hneg : ¬ ((0 : Nat) : Int) - 1 ≥ 0 := by omega
    clear hn ha hd hG hw hal e
    go_enter Try.func78, Try.ntmps78
    go_wp2_with (at_builtin; refine wpList_copyK (since_alloc _ _) R0.out (by rfl) _ _ rfl rfl rfl ?_; intro B d w1 hb hs1; have HB0 := Lib.hid hb; have S1 := Lib.hid hs1; clear hb hs1)
    go_loopw [7] (fun i wr => i = .int .i64 (-1) ∧ wr = w1) (fun i _ => 0)
    case atStart => exact ⟨by first | rfl | simp, rfl⟩
    case round =>
      obtain ⟨rfl, rfl⟩ := hrel
      go_wp2
      go_ret2
      exact ⟨B, d, rfl, HB0.out, (fun b h => by cases h), S1.out⟩
  have HN := Lib.hid hn
  have HA := Lib.hid ha
  have HD := Lib.hid hd
  have HG := Lib.hid hG
  have HW := Lib.hid hw.2
  have HAL := Lib.hid (show a.length = n by omega)
  have hn0 : 0 < n := by omega
  have R0 := Lib.hid (show (w.alloc (.cells #[] 2)).ownsRow w.heap.size 2 1 (.slice (some ⟨w.heap.size, 0, none⟩) 0 0) 0 [] from World.ownsRow_made w #[] 0 (Nat.le_refl _) (Nat.zero_le _) rfl)
  obtain ⟨R, hR⟩ : ∃ R, R = nextB ds a := ⟨_, rfl⟩
  rw [← hR]
  have HR := Lib.hid hR
  have hwn : IntKind.i64.wrap ((n : Int) - 1) = (n : Int) - 1 := wrap_id' (by omega) (by omega)
  clear hn ha hd hG hw hal hR h0
  go_enter Try.func78, Try.ntmps78
  go_wp2_with (at_builtin; refine wpList_copyJ (HA.out.since stI (since_alloc _ _)) (since_alloc _ _) hn0 (by omega) R0.out (by rfl) _ _ rfl rfl rfl ?_; intro g d cur0 w1 hb hg hd1 hbeg hs1; have HB0 := Lib.hid hb; have HGE := Lib.hid hg; have HD1 := Lib.hid hd1; have HBG := Lib.hid hbeg; have S1 := Lib.hid hs1; clear hb hg hd1 hbeg hs1)
  go_loopw [7] (fun i wr => ∃ (k : Nat) (cur : Array Value), i = .int .i64 ((k : Int) - 1) ∧ k ≤ n ∧ Hid (Bx wr g cur 2) ∧ Hid (Beg cur (a.take k ++ lows (ds.drop k))) ∧ Hid (Since w wr) ∧ Hid (behind next (fun d => (d.headD (0, 0)).1) ds a k)) (fun i _ => (intOf i + 1).toNat)
  case atStart =>
    refine ⟨n, cur0, by first | rfl | simp [hwn], Nat.le_refl _, HB0, Lib.hid ?_, S1, Lib.hid ?_⟩
    · rw [List.take_of_length_le (by have := HAL.out; omega), List.drop_of_length_le (by have := HN.out; omega)]
      simpa [lows] using HBG.out
    · rw [HN.out]; exact behind_end _ _
  case round =>
    obtain ⟨k, cur, rfl, hk, HB, HC, HS, HBH⟩ := hrel
    cases k with
    | zero =>
      have E := Lib.hid (show R = none by rw [HR.out]; simpa [behind, nextB] using HBH.out)
      have hneg : ¬ ((0 : Nat) : Int) - 1 ≥ 0 := by omega
      go_wp2
      go_ret2
      rw [E.out]
      refine ⟨_, _, rfl, fun b hb => ?_, (fun b h => by cases h), HS.out⟩
      simp only [Value.ownBlock, Option.some.injEq] at hb
      subst hb
      exact ⟨HGE.out, bx_lt HB.out⟩
    | succ j =>
      have ej : ((j + 1 : Nat) : Int) - 1 = (j : Int) := by omega
      rw [ej]
      have hjn : j < n := by omega
      have hja : j < a.length := by have := HAL.out; omega
      have hjd : j < ds.length := by have := HN.out; omega
      obtain ⟨gd, od, B, cB, rfl, hS, ed⟩ := elD (HD.out.since stD HS.out) hjd
      obtain ⟨gx, ox, rfl, ex⟩ := elI (HA.out.since stI HS.out) hja
      have hg := HG.out _ (List.getElem_mem hjd)
      obtain ⟨gb, ob, rfl, el, hdl⟩ := lo_cell hS hg.2
      have hwi := HW.out (j : Int) (by omega) (by simpa using hjd)
      rw [domAt_lt (by exact hjd)] at hwi
      have hva : valAt a (j : Int) = a[j] := by simp [valAt, hja]
      simp only [Int.toNat_natCast] at hwi
      rw [hva] at hwi
      obtain ⟨y1, y2⟩ := mem_ge hg.1 hwi
      simp only [mx] at y1 y2
      have hgd : a.getD j 0 = a[j] := by simp [List.getD, hja]
      have hE9 : a.length = List.length ds := by have := HAL.out; have := HN.out; omega
      have BN := Lib.hid (fun (h : next ds[j] (a[j] + 1) = none) => behind_none next (fun d : List Rn => (d.headD (0, 0)).1) hjd hE9 HBH.out (by rw [hgd]; exact h))
      have BS := Lib.hid (fun (m : Int) (h : next ds[j] (a[j] + 1) = some m) => behind_some next (fun d : List Rn => (d.headD (0, 0)).1) (n := m) hjd hE9 HBH.out (by rw [hgd]; exact h))
      obtain ⟨nx, hnx⟩ : ∃ nx, next ds[j] (a[j] + 1) = nx := ⟨_, rfl⟩
      have NX := Lib.hid (fun W (k' : Since wr W) => show Calls Try.prog 139 #[.slice (some ⟨gb, ob, none⟩) ds[j].length cB, .int .i64 (a[j] + 1)] W (fun e w' => e = .returned (.tuple #[.int .i64 (nx.getD 0), .bool nx.isSome]) ∧ Since W w' ∧ True) by
        have := rnext_any _ ds[j] (a[j] + 1) W (hS.since stR k') (right_len hg.1) (okF_bd hg.1 (Int.le_refl _)) (by unfold fits; omega)
        rw [hnx] at this
        exact this.mono fun e w' h => ⟨h.1, h.2, trivial⟩)
      rw [hnx] at BN BS
      have WY : IntKind.i64.wrap (a[j] + 1) = a[j] + 1 := wrap_id' (by omega) (by omega)
      have LW := Lib.hid (show lows (ds.drop j) = (ds[j].headD (0, 0)).1 :: lows (ds.drop (j + 1)) by unfold lows; rw [List.drop_eq_getElem_cons hjd]; rfl)
      have SM := Lib.hid (fun x => set_mid2 a (lows (ds.drop (j + 1))) (n := 0) hja x 0)
      have HLN := Lib.hid (show j < (a.take (j + 1) ++ lows (ds.drop (j + 1))).length by rw [List.length_append, List.length_take]; omega)
      generalize ds[j].length = dl at *
      generalize (ds[j].headD (0, 0)).1 = lw at *
      generalize a[j] = y at *
      have C0 := Lib.hid (fun W (k' : Since wr W) => (k'.cell _ (World.block_lt_of_cell? _ _ ed)).trans ed)
      have C1 := Lib.hid (fun W (k' : Since wr W) => (k'.cell _ (World.block_lt_of_cell? _ _ ex)).trans ex)
      have C2 := Lib.hid (fun W (k' : Since wr W) => (k'.cell _ (World.block_lt_of_cell? _ _ el)).trans el)
      have CG := Lib.hid (fun W (k' : Since wr W) => show ∃ u, W.cell? ⟨g, j, none⟩ = some u from ⟨_, ((HB.out.since k').cell j).trans (HC.out j _ (List.getElem?_eq_getElem HLN.out))⟩)
      clear hS hg hwi hva hgd hnx y1 y2 hjd hja ej hE9
      obtain ⟨r, hr⟩ : ∃ r, r = nx.getD 0 := ⟨_, rfl⟩
      obtain ⟨b, hb⟩ : ∃ b, b = nx.isSome := ⟨_, rfl⟩
      rw [← hr, ← hb] at NX
      have hjz : (j : Int) ≥ 0 := by omega
      go_wp2
      have hr0 : Since wr wr.drew := Since.drew (Since.refl wr)
      refine wp_region_noPanic ?_
      refine Reg.wp_region_G (S := fun _ => True) (fun j => [].contains j) (by kernel_rfl) trivial ?_
      refine' Reg.tk3 (i := 0) (v := _) (some 21) [2, 3, 9, 10, 11, 12, 13, 14] [] rfl (Or.inl ⟨by rfl, Or.inl ?hy1⟩) ?rest1
      case hy1 => (intro w' kk ss; have x0 := C0.out _ (hr0.trans kk); have x1 := C1.out _ (hr0.trans kk); go_simp; first | done | with_reducible rfl)
      try simp only [Act.put, List.setIfInBounds_toArray, List.set_cons_zero, List.set_cons_succ]
      refine' Reg.tk3 (i := 1) (v := _) (some 22) [2, 3, 9, 10, 11, 12, 13, 14] [] rfl (Or.inl ⟨by rfl, Or.inl ?hy2⟩) ?rest2
      case hy2 => (intro w' kk ss; have x0 := C0.out _ (hr0.trans kk); have x1 := C1.out _ (hr0.trans kk); go_simp; first | done | with_reducible rfl)
      try simp only [Act.put, List.setIfInBounds_toArray, List.set_cons_zero, List.set_cons_succ]
      refine' Reg.tk3 (i := 2) (v := _) (some 23) [3, 9, 10, 11, 12, 13, 14] [] rfl (Or.inl ⟨by rfl, Or.inl ?hy3⟩) ?rest3
      case hy3 => (intro w' kk ss; have x0 := C0.out _ (hr0.trans kk); have x1 := C1.out _ (hr0.trans kk); go_simp; first | done | with_reducible rfl)
      try simp only [Act.put, List.setIfInBounds_toArray, List.set_cons_zero, List.set_cons_succ]
      refine' Reg.tk3 (i := 3) (v := _) (some 24) [9, 10, 11, 12, 13, 14] [] rfl (Or.inl ⟨by rfl, Or.inl ?hy4⟩) ?rest4
      case hy4 => (intro w' kk ss; have x0 := C0.out _ (hr0.trans kk); have x1 := C1.out _ (hr0.trans kk); go_simp; first | done | with_reducible rfl)
      try simp only [Act.put, List.setIfInBounds_toArray, List.set_cons_zero, List.set_cons_succ]
      refine' Reg.tk3 (i := 4) (v := _) (some 25) [6, 7, 8, 9, 10, 11, 12, 13, 14] [] rfl (Or.inl ⟨by rfl, Or.inl ?hy5⟩) ?rest5
      case hy5 => (intro w' kk ss; have x0 := C0.out _ (hr0.trans kk); have x1 := C1.out _ (hr0.trans kk); go_simp; first | done | with_reducible rfl)
      try simp only [Act.put, List.setIfInBounds_toArray, List.set_cons_zero, List.set_cons_succ]
      refine' Reg.tk3 (i := 5) (v := _) (some 26) [6, 7, 8, 9, 10, 11, 12, 13, 14] [] rfl (Or.inl ⟨by rfl, Or.inl ?hy6⟩) ?rest6
      case hy6 => (intro w' kk ss; have x0 := C0.out _ (hr0.trans kk); have x1 := C1.out _ (hr0.trans kk); go_simp; first | done | with_reducible rfl)
      try simp only [Act.put, List.setIfInBounds_toArray, List.set_cons_zero, List.set_cons_succ]
      refine' Reg.tk3 (i := 6) (v := _) (some 27) [7, 8, 9, 10, 11, 12, 13, 14] [] rfl (Or.inl ⟨by rfl, Or.inl ?hy7⟩) ?rest7
      case hy7 => (intro w' kk ss; have x0 := C0.out _ (hr0.trans kk); have x1 := C1.out _ (hr0.trans kk); go_simp; first | done | with_reducible rfl)
      try simp only [Act.put, List.setIfInBounds_toArray, List.set_cons_zero, List.set_cons_succ]
      refine' Reg.tk3 (i := 7) (v := _) (some 28) [8, 9, 10, 11, 12, 13, 14] [] rfl (Or.inl ⟨by rfl, Or.inl ?hy8⟩) ?rest8
      case hy8 => (intro w' kk ss; have x0 := C0.out _ (hr0.trans kk); have x1 := C1.out _ (hr0.trans kk); go_simp; first | done | with_reducible rfl)
      try simp only [Act.put, List.setIfInBounds_toArray, List.set_cons_zero, List.set_cons_succ]
      refine' Reg.tk3 (i := 8) (v := _) (some 29) [9, 10, 11, 12, 13, 14] [] rfl (Or.inl ⟨by rfl, Or.inl ?hy9⟩) ?rest9
      case hy9 => (intro w' kk ss; have x0 := C0.out _ (hr0.trans kk); have x1 := C1.out _ (hr0.trans kk); go_simp; first | done | with_reducible rfl)
      try simp only [Act.put, List.setIfInBounds_toArray, List.set_cons_zero, List.set_cons_succ]
      refine Reg.tk3 (i := 9) (v := .tuple #[.int .i64 r, .bool b]) (some 30) [10, 11, 12, 13, 14] [] rfl (Or.inl ⟨by rfl, Or.inr ⟨139, #[.slice (some ⟨gb, ob, none⟩) dl cB, .int .i64 (y + 1)], fun w' kk ss => ⟨?_, ?_⟩⟩⟩) ?_
      · (try dsimp only at ss); go_simp
      · exact NX.out w' (hr0.trans kk)
      try simp only [Act.put, List.setIfInBounds_toArray, List.set_cons_zero, List.set_cons_succ]
      refine' Reg.tk3 (i := 10) (v := _) (some 20) [11, 12, 13, 14] [] rfl (Or.inl ⟨by rfl, Or.inl ?hy10⟩) ?rest10
      case hy10 => (intro w' kk ss; have x0 := C0.out _ (hr0.trans kk); have x1 := C1.out _ (hr0.trans kk); go_simp; first | done | with_reducible rfl)
      try simp only [Act.put, List.setIfInBounds_toArray, List.set_cons_zero, List.set_cons_succ]
      refine' Reg.tk3 (i := 11) (v := _) (some 31) [13, 14] [] rfl (Or.inl ⟨by rfl, Or.inl ?hy11⟩) ?rest11
      case hy11 => (intro w' kk ss; have x0 := C0.out _ (hr0.trans kk); have x1 := C1.out _ (hr0.trans kk); go_simp; first | done | with_reducible rfl)
      try simp only [Act.put, List.setIfInBounds_toArray, List.set_cons_zero, List.set_cons_succ]
      refine' Reg.tk3 (i := 12) (v := _) (some 32) [14] [] rfl (Or.inl ⟨by rfl, Or.inl ?hy12⟩) ?rest12
      case hy12 => (intro w' kk ss; have x0 := C0.out _ (hr0.trans kk); have x1 := C1.out _ (hr0.trans kk); go_simp; first | done | with_reducible rfl)
      try simp only [Act.put, List.setIfInBounds_toArray, List.set_cons_zero, List.set_cons_succ]
      refine' Reg.tk3 (i := 13) (v := _) (some 8) [14] [] rfl (Or.inl ⟨by rfl, Or.inl ?hy13⟩) ?rest13
      case hy13 => (intro w' kk ss; have x0 := C0.out _ (hr0.trans kk); have x1 := C1.out _ (hr0.trans kk); go_simp; first | done | with_reducible rfl)
      try simp only [Act.put, List.setIfInBounds_toArray, List.set_cons_zero, List.set_cons_succ]
      refine' Reg.tk3 (i := 14) (v := _) (some 9) [] [] rfl (Or.inl ⟨by rfl, Or.inl ?hy14⟩) ?rest14
      case hy14 => (intro w' kk ss; have x0 := C0.out _ (hr0.trans kk); have x1 := C1.out _ (hr0.trans kk); go_simp; first | done | with_reducible rfl)
      try simp only [Act.put, List.setIfInBounds_toArray, List.set_cons_zero, List.set_cons_succ]
      refine Reg.wpG_done (by kernel_rfl) (fun wq ke se => ?_) _
      refine NoPanic.normal ?_
      have hr0 := hr0.trans ke
      clear ke
      cases nx with
      | none =>
        obtain rfl : b = false := hb
        have BN2 := Lib.hid (BN.out rfl)
        have c0 := C0.out _ hr0
        have c2 := C2.out _ hr0
        obtain ⟨ug, cg⟩ := CG.out _ hr0
        have fg := (HB.out.since hr0).no j
        have HR0 := Lib.hid hr0
        clear BS BN hr0
        go_wp2
        go_roundw
        case rel =>
          refine ⟨j, cur.setIfInBounds j (.int .i64 lw), by go_num, by omega, Lib.hid (bxset (HB.out.since HR0.out) j (.int .i64 lw) rfl), Lib.hid ?_, Lib.hid ((HS.out.trans HR0.out).set (p := ⟨g, j, none⟩) HGE.out _), BN2⟩
          have h := cur_set HC.out HLN.out lw
          rw [SM.out] at h
          rw [LW.out]; exact h
        case measure => first | (simp [intOf]; done) | (simp [intOf]; omega)
      | some m =>
        obtain rfl : b = true := hb
        obtain rfl : r = m := hr
        have BS2 := Lib.hid (show R = _ from HR.out.trans (BS.out _ rfl))
        obtain ⟨ug, cg⟩ := CG.out _ hr0
        have fg := (HB.out.since hr0).no j
        have HR0 := Lib.hid hr0
        clear BS BN hr0
        go_wp2
        go_ret2
        rw [BS2.out]
        have hb2 := bxset (HB.out.since HR0.out) j (.int .i64 r) rfl
        refine ⟨_, _, rfl, fun b hb => ?_, fun b hb => ?_, (HS.out.trans HR0.out).set (p := ⟨g, j, none⟩) HGE.out _⟩
        · simp only [Value.ownBlock, Option.some.injEq] at hb
          subst hb
          exact ⟨HGE.out, bx_lt hb2⟩
        · injection hb with hb
          subst hb
          have h := cur_set HC.out HLN.out r
          rw [SM.out] at h
          exact sl_bx hb2 (by simp only [List.length_append, List.length_cons, List.length_map, List.length_take, List.length_drop]; have := HAL.out; have := HN.out; omega) HD1.out h
end Go.Proofs.Ytilgmkhcpmegjaa.Ev
