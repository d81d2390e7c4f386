/- ParseEnds, if Text says what the document says. -/
import Derived.Test.YtgcfemnigpjadaaDoorL6e
import Derived.Test.YtgcfemnigpjadaaDoorL6p
import Derived.Test.YtgcfemnigpjadaaDoorReg
namespace Go.Proofs.YtgcfemnigpjadaaDoor.Law06
open Go.RowKit
set_option linter.unusedVariables false
set_option linter.unusedSimpArgs false
open Go.Proofs.YtgcfemnigpjadaaDoor.Dig Go.Proofs.YtgcfemnigpjadaaDoor.Lx Go.Proofs.YtgcfemnigpjadaaDoor.Tk Go.Proofs.YtgcfemnigpjadaaDoor.Ps Go.Proofs.YtgcfemnigpjadaaDoor.Ti
open Go.Proofs.YtgcfemnigpjadaaDoor.Lex (ErrIn)

theorem elUp {w w' : World} (k : Since w w') {p : Addr} {u : Value} (g : w.cell? p = some u) : w'.cell? p = some u := (k.cell _ (World.block_lt_of_cell? _ _ g)).trans g
theorem drop_tok {ts : List Tv} {k : Nat} (h : k < ts.length) : ts.drop k = ts.getD k .nil :: ts.drop (k + 1) := by
  rw [List.drop_eq_getElem_cons h]; simp [List.getD, h]
set_option maxRecDepth 100000 in
set_option maxHeartbeats 4000000 in
theorem ends_any {Ok : World → Prop} (T : TextSays Ok) (a0 : ByteArray) (w : World) (ok : Ok w) (he : ErrIn w) : Calls Tryd.prog 6 #[.string a0] w fun e w' => e = .returned (.bool true) ∧ Since w w' := by
  have AL := Lib.hid (alive T w ok)
  have OK := Lib.hid (fun W (h : Since w W) => T.1 w W ok h)
  have EI := Lib.hid he
  clear he
  by_cases hbig : 9000 < a0.size
  · have hz : decide ((9000 : Int) < (a0.size : Int)) = true := by rw [decide_eq_true_iff]; omega
    go_enter Tryd.func6, Tryd.ntmps6
    go_wp2_with (go_at_call 7; (with_reducible refine AL.out.mono ?_); rintro e w1 ⟨rfl, h1⟩)
    go_ret
    exact ⟨rfl, h1⟩
  have hz : decide ((9000 : Int) < (a0.size : Int)) = false := by rw [decide_eq_false_iff_not]; omega
  obtain ⟨⟨l, p, er⟩, hr⟩ : ∃ r, textD a0 = r := ⟨_, rfl⟩
  obtain ⟨n, hn⟩ : ∃ n, l.length = n := ⟨_, rfl⟩
  have S1 := Lib.hid (fun W (h : Ok W) => text_at T a0 (by omega) hr hn W h)
  by_cases her : er = 0
  rotate_left
  · obtain ⟨⟨o, q, f⟩, hs⟩ : ∃ r, splitD (L a0) = r := ⟨_, rfl⟩
    obtain ⟨k, hk⟩ : ∃ k, o.length = k := ⟨_, rfl⟩
    have S2 := Lib.hid (fun W (h : ErrIn W) => split_at a0 (by omega) hs hk W h)
    have ne : (er != 0) = true := by rw [bne_iff_ne]; exact her
    clear hr hs hn hk her T
    go_enter Tryd.func6, Tryd.ntmps6
    go_wp2_with (first
      | (go_at_call 7; (with_reducible refine AL.out.mono ?_); rintro e w1 ⟨rfl, h1⟩)
      | (go_at_call 8; (with_reducible refine (S1.out _ (OK.out _ h1)).mono ?_); rintro e w2 ⟨A1, c1, rfl, t1, h2⟩)
      | (go_at_call 9; (with_reducible refine (S2.out _ (EI.out.since (h1.trans h2))).mono ?_); rintro e w3 ⟨A2, c2, rfl, t2, h3⟩))
    go_ret
    exact ⟨rfl, (h1.trans h2).trans h3⟩
  subst her
  obtain ⟨o, hs, hg, -, -, -, hl, hrun⟩ := text_runs hr
  have hst := Stand.start hg hrun
  rw [hn] at hl
  obtain ⟨m, hm⟩ : ∃ m, o.length = m := ⟨_, rfl⟩
  have S2 := Lib.hid (fun W (h : ErrIn W) => split_at a0 (by omega) hs hm W h)
  have hm1 : m ≤ 4096 := by have := splitD_len (L a0); rw [hs] at this; simp only at this; omega
  have HM := Lib.hid (show (o.map tv).length = m by rw [List.length_map]; exact hm)
  have HN := Lib.hid hn
  have HST := Lib.hid hst
  clear hr hs hg hrun hst hn hm T
  generalize o.map tv = ts at *
  go_enter Tryd.func6, Tryd.ntmps6
  go_wp2_with (first
    | (go_at_call 7; (with_reducible refine AL.out.mono ?_); rintro e w1 ⟨rfl, h1⟩)
    | (go_at_call 8; (with_reducible refine (S1.out _ (OK.out _ h1)).mono ?_); rintro e w2 ⟨A1, c1, rfl, t1, h2⟩)
    | (go_at_call 9; (with_reducible refine (S2.out _ (EI.out.since (h1.trans h2))).mono ?_); rintro e w3 ⟨A2, c2, rfl, t2, h3⟩))
  have T1 := Lib.hid (t1.since (stI _) h3)
  have T2 := Lib.hid t2
  clear t1 t2
  go_loopw [9, 10, 38] (fun x b i wr => ∃ (k c : Nat) (bb : Bool), k ≤ m ∧ i = .int .i64 (k : Int) ∧ x = .int .i64 (c : Int) ∧ b = .bool bb ∧ c ≤ k ∧ Hid (Stand l c bb (ts.drop k)) ∧ Since w3 wr) (fun _ _ i _ => m - (intOf i).toNat)
  case atStart => exact ⟨0, 0, true, Nat.zero_le _, rfl, rfl, rfl, Nat.le_refl _, HST.out, Since.refl _⟩
  case round =>
    obtain ⟨k, c, bb, hk, rfl, rfl, rfl, hck, HS, hw⟩ := hrel
    by_cases hlt : k < m
    · have hkx : k < ts.length := by have := HM.out; omega
      obtain ⟨b, o', rfl, g1, g2, g3, g4⟩ := (T2.out.since hw).el hkx
      have hsd := HS.out
      rw [drop_tok hkx] at hsd
      obtain ⟨hst1, hst2⟩ := hsd.step
      generalize ts.getD k .nil = t at *
      obtain ⟨tk, tt, tv_, ta⟩ := t
      simp only at g1 g2 g3 g4 hst1 hst2
      clear hsd hkx HS
      have HB := Lib.hid (Box.new wr [.int .i64 tk, .string tt, .int .i64 tv_, .int .i64 ta] 37)
      cases bb with
      | false =>
        clear hst1
        by_cases hsm : L tt = semi
        · obtain rfl := of_L hsm
          rw [if_pos hsm, decide_eq_true hsm] at hst2
          have HS2 := Lib.hid hst2
          clear hst2 hsm
          go_wp2
          go_roundw
          case rel => exact ⟨k + 1, c + 1, true, by omega, by go_num, by go_num, rfl, by omega, HS2.out, hw.trans (since_alloc _ _)⟩
          case measure => simp [intOf]; omega
        · have hne : (tt.toList == [59]) = false := by rw [ByteArray.toList_eq]; exact beq_eq_false_iff_ne.2 hsm
          rw [if_neg hsm, decide_eq_false hsm] at hst2
          have HS2 := Lib.hid hst2
          clear hst2 hsm
          go_wp2
          go_roundw
          case rel => exact ⟨k + 1, c, false, by omega, by go_num, rfl, rfl, by omega, HS2.out, hw.trans (since_alloc _ _)⟩
          case measure => simp [intOf]; omega
      | true =>
        obtain ⟨hcl, hbg⟩ := hst1 rfl
        have hcn : c < n := by have := HN.out; omega
        have hge : decide ((n : Int) ≤ (c : Int)) = false := by rw [decide_eq_false_iff_not]; omega
        obtain ⟨b', o2, B1, d1, B2, d2, rfl, -, -, -, f0, f1, f2, f3, f4, f5, f6, f7⟩ := elI2 T1.out hw hcl
        have hgd : l.getD c It.nil = l[c] := by simp [List.getD, hcl]
        rw [hgd] at hbg
        have ST := Lib.hid (fun W (x : It) (d v : Value) (h : startsD x (L tt) = true) => starts_any x tt d v W h)
        generalize l[c] = x at *
        have hsm : L tt ≠ semi := by
          intro h
          rw [h] at hbg
          rcases starts_cases hbg with ⟨h, _⟩ | ⟨h, _⟩ | ⟨h, _⟩ | ⟨h, _⟩ | ⟨h, _⟩ | ⟨h, _⟩ | ⟨h, _⟩ <;> exact absurd h (by decide)
        have hne : (tt.toList == [59]) = false := by rw [ByteArray.toList_eq]; exact beq_eq_false_iff_ne.2 hsm
        rw [if_neg hsm, decide_eq_false hsm] at hst2
        have HS2 := Lib.hid hst2
        have HBG := Lib.hid hbg
        obtain ⟨W1, hW1⟩ : ∃ W1, W1 = wr.alloc (.cells #[.int .i64 tk, .string tt, .int .i64 tv_, .int .i64 ta] 37) := ⟨_, rfl⟩
        have hs1 : Since wr W1 := by rw [hW1]; exact since_alloc _ _
        have HX := Lib.hid (fun W (k : Since W1 W) => Box.since (us := [.int .i64 tk, .string tt, .int .i64 tv_, .int .i64 ta]) (by rw [hW1]; exact Box.new _ _ _) k)
        have HF := Lib.hid (fun W (k : Since W1 W) => And.intro (elUp (hs1.trans k) f0) (And.intro (elUp (hs1.trans k) f1) (And.intro (elUp (hs1.trans k) f2) (And.intro (elUp (hs1.trans k) f3) (And.intro (elUp (hs1.trans k) f4) (And.intro (elUp (hs1.trans k) f5) (And.intro (elUp (hs1.trans k) f6) (elUp (hs1.trans k) f7))))))))
        clear hbg hgd hcl hst1 hst2 hsm f0 f1 f2 f3 f4 f5 f6 f7 HB
        go_wp2
        rw [← hW1]
        clear hW1
        have hr0 : Since W1 W1.drew := Since.drew (Since.refl W1)
        refine wp_region_noPanic ?_
        refine Reg.wp_region_G (S := fun _ => True) (fun j => [].contains j) (by kernel_rfl) trivial ?_
        refine' Reg.wpG_take (i := 0) (oi := { dst := some 43, op := Op.move (Operand.tmp 9), type := 3, pos := "law.go:131", after := #[], guard := none }) (v := _) [3, 4, 5, 6, 7, 8, 9, 10, 11, 12, 13] [] rfl rfl (by kernel_rfl) (by kernel_rfl) (by kernel_rfl) (by kernel_rfl) (by kernel_rfl) (by kernel_rfl) (by kernel_rfl) (fun _ _ _ h => h) (Or.inl ⟨by rfl, Or.inl ?hy2⟩) ?rest2
        case hy2 => (intro w' kk ss; obtain ⟨f0, f1, f2, f3, f4, f5, f6, f7⟩ := HF.out _ (hr0.trans kk); obtain ⟨y0, y1, y2, y3⟩ := (HX.out _ (hr0.trans kk)).four; go_simp; first | done | with_reducible rfl)
        try simp only [Act.put, List.setIfInBounds_toArray, List.set_cons_zero, List.set_cons_succ]
        refine' Reg.wpG_take (i := 1) (oi := { dst := some 44, op := Op.move (Operand.tmp 3), type := 23, pos := "law.go:131", after := #[], guard := none }) (v := _) [2, 3, 4, 5, 6, 7, 8, 9, 10, 11, 12, 13] [] rfl rfl (by kernel_rfl) (by kernel_rfl) (by kernel_rfl) (by kernel_rfl) (by kernel_rfl) (by kernel_rfl) (by kernel_rfl) (fun _ _ _ h => h) (Or.inl ⟨by rfl, Or.inl ?hy3⟩) ?rest3
        case hy3 => (intro w' kk ss; obtain ⟨f0, f1, f2, f3, f4, f5, f6, f7⟩ := HF.out _ (hr0.trans kk); obtain ⟨y0, y1, y2, y3⟩ := (HX.out _ (hr0.trans kk)).four; go_simp; first | done | with_reducible rfl)
        try simp only [Act.put, List.setIfInBounds_toArray, List.set_cons_zero, List.set_cons_succ]
        refine' Reg.wpG_take (i := 2) (oi := { dst := some 45, op := Op.call { callee := Callee.builtin Builtin.len, args := #[Operand.tmp 44], argTypes := #[23] }, type := 3, pos := "law.go:131", after := #[{ on := 1, ground := Ground.data }], guard := none }) (v := _) [3, 4, 5, 6, 7, 8, 9, 10, 11, 12, 13] [] rfl rfl (by kernel_rfl) (by kernel_rfl) (by kernel_rfl) (by kernel_rfl) (by kernel_rfl) (by kernel_rfl) (by kernel_rfl) (fun _ _ _ h => h) (Or.inl ⟨by rfl, Or.inl ?hy4⟩) ?rest4
        case hy4 => (intro w' kk ss; obtain ⟨f0, f1, f2, f3, f4, f5, f6, f7⟩ := HF.out _ (hr0.trans kk); obtain ⟨y0, y1, y2, y3⟩ := (HX.out _ (hr0.trans kk)).four; go_simp; first | done | with_reducible rfl)
        try simp only [Act.put, List.setIfInBounds_toArray, List.set_cons_zero, List.set_cons_succ]
        refine' Reg.wpG_take (i := 3) (oi := { dst := some 46, op := Op.binOp BinOp.geq 3 (Operand.tmp 43) (Operand.tmp 45) 3, type := 4, pos := "law.go:131", after := #[{ on := 0, ground := Ground.data }, { on := 2, ground := Ground.data }], guard := none }) (v := .bool false) [4, 5, 6, 7, 8, 9, 10, 11, 12, 13] [] rfl rfl (by kernel_rfl) (by kernel_rfl) (by kernel_rfl) (by kernel_rfl) (by kernel_rfl) (by kernel_rfl) (by kernel_rfl) (fun _ _ _ h => h) (Or.inl ⟨by rfl, Or.inl ?hy5⟩) ?rest5
        case hy5 => (intro w' kk ss; obtain ⟨f0, f1, f2, f3, f4, f5, f6, f7⟩ := HF.out _ (hr0.trans kk); obtain ⟨y0, y1, y2, y3⟩ := (HX.out _ (hr0.trans kk)).four; go_simp; first | done | with_reducible rfl)
        try simp only [Act.put, List.setIfInBounds_toArray, List.set_cons_zero, List.set_cons_succ]
        refine' Reg.wpG_take (i := 4) (oi := { dst := some 47, op := Op.move (Operand.tmp 46), type := 4, pos := "law.go:131", after := #[{ on := 3, ground := Ground.data }], guard := none }) (v := _) [5, 6, 7, 8, 9, 10, 11, 12, 13] [] rfl rfl (by kernel_rfl) (by kernel_rfl) (by kernel_rfl) (by kernel_rfl) (by kernel_rfl) (by kernel_rfl) (by kernel_rfl) (fun _ _ _ h => h) (Or.inl ⟨by rfl, Or.inl ?hy6⟩) ?rest6
        case hy6 => (intro w' kk ss; obtain ⟨f0, f1, f2, f3, f4, f5, f6, f7⟩ := HF.out _ (hr0.trans kk); obtain ⟨y0, y1, y2, y3⟩ := (HX.out _ (hr0.trans kk)).four; go_simp; first | done | with_reducible rfl)
        try simp only [Act.put, List.setIfInBounds_toArray, List.set_cons_zero, List.set_cons_succ]
        refine' Reg.wpG_take (i := 5) (oi := { dst := some 48, op := Op.move (Operand.tmp 3), type := 23, pos := "law.go:131", after := #[{ on := 4, ground := Ground.guard }], guard := some (4, false) }) (v := _) [7, 8, 11, 12, 13] [] rfl rfl (by kernel_rfl) (by kernel_rfl) (by kernel_rfl) (by kernel_rfl) (by kernel_rfl) (by kernel_rfl) (by kernel_rfl) (fun _ _ _ h => h) (Or.inl ⟨by rfl, Or.inl ?hy7⟩) ?rest7
        case hy7 => (intro w' kk ss; obtain ⟨f0, f1, f2, f3, f4, f5, f6, f7⟩ := HF.out _ (hr0.trans kk); obtain ⟨y0, y1, y2, y3⟩ := (HX.out _ (hr0.trans kk)).four; go_simp; first | done | with_reducible rfl)
        try simp only [Act.put, List.setIfInBounds_toArray, List.set_cons_zero, List.set_cons_succ]
        refine' Reg.wpG_take (i := 6) (oi := { dst := some 49, op := Op.move (Operand.tmp 9), type := 3, pos := "law.go:131", after := #[{ on := 4, ground := Ground.guard }], guard := some (4, false) }) (v := _) [7, 8, 11, 12, 13] [] rfl rfl (by kernel_rfl) (by kernel_rfl) (by kernel_rfl) (by kernel_rfl) (by kernel_rfl) (by kernel_rfl) (by kernel_rfl) (fun _ _ _ h => h) (Or.inl ⟨by rfl, Or.inl ?hy8⟩) ?rest8
        case hy8 => (intro w' kk ss; obtain ⟨f0, f1, f2, f3, f4, f5, f6, f7⟩ := HF.out _ (hr0.trans kk); obtain ⟨y0, y1, y2, y3⟩ := (HX.out _ (hr0.trans kk)).four; go_simp; first | done | with_reducible rfl)
        try simp only [Act.put, List.setIfInBounds_toArray, List.set_cons_zero, List.set_cons_succ]
        refine' Reg.wpG_take (i := 7) (oi := { dst := some 50, op := Op.indexAddr 23 (Operand.tmp 48) (Operand.tmp 49), type := 0, pos := "law.go:131", after := #[{ on := 5, ground := Ground.data }, { on := 6, ground := Ground.data }, { on := 4, ground := Ground.guard }], guard := some (4, false) }) (v := _) [8, 11, 12, 13] [] rfl rfl (by kernel_rfl) (by kernel_rfl) (by kernel_rfl) (by kernel_rfl) (by kernel_rfl) (by kernel_rfl) (by kernel_rfl) (fun _ _ _ h => h) (Or.inl ⟨by rfl, Or.inl ?hy9⟩) ?rest9
        case hy9 => (intro w' kk ss; obtain ⟨f0, f1, f2, f3, f4, f5, f6, f7⟩ := HF.out _ (hr0.trans kk); obtain ⟨y0, y1, y2, y3⟩ := (HX.out _ (hr0.trans kk)).four; go_simp; first | done | with_reducible rfl)
        try simp only [Act.put, List.setIfInBounds_toArray, List.set_cons_zero, List.set_cons_succ]
        refine' Reg.wpG_take (i := 8) (oi := { dst := some 51, op := Op.load 42 (Operand.tmp 50), type := 42, pos := "law.go:131", after := #[{ on := 7, ground := Ground.data }, { on := 4, ground := Ground.guard }], guard := some (4, false) }) (v := _) [11, 12, 13] [] rfl rfl (by kernel_rfl) (by kernel_rfl) (by kernel_rfl) (by kernel_rfl) (by kernel_rfl) (by kernel_rfl) (by kernel_rfl) (fun _ _ _ h => h) (Or.inl ⟨by rfl, Or.inl ?hy10⟩) ?rest10
        case hy10 => (intro w' kk ss; obtain ⟨f0, f1, f2, f3, f4, f5, f6, f7⟩ := HF.out _ (hr0.trans kk); obtain ⟨y0, y1, y2, y3⟩ := (HX.out _ (hr0.trans kk)).four; go_simp; first | done | with_reducible rfl)
        try simp only [Act.put, List.setIfInBounds_toArray, List.set_cons_zero, List.set_cons_succ]
        refine' Reg.wpG_take (i := 9) (oi := { dst := some 52, op := Op.fieldAddr 37 (Operand.tmp 12) 1, type := 0, pos := "law.go:131", after := #[{ on := 4, ground := Ground.guard }], guard := some (4, false) }) (v := _) [10, 11, 12, 13] [] rfl rfl (by kernel_rfl) (by kernel_rfl) (by kernel_rfl) (by kernel_rfl) (by kernel_rfl) (by kernel_rfl) (by kernel_rfl) (fun _ _ _ h => h) (Or.inl ⟨by rfl, Or.inl ?hy11⟩) ?rest11
        case hy11 => (intro w' kk ss; obtain ⟨f0, f1, f2, f3, f4, f5, f6, f7⟩ := HF.out _ (hr0.trans kk); obtain ⟨y0, y1, y2, y3⟩ := (HX.out _ (hr0.trans kk)).four; go_simp; first | done | with_reducible rfl)
        try simp only [Act.put, List.setIfInBounds_toArray, List.set_cons_zero, List.set_cons_succ]
        refine' Reg.wpG_take (i := 10) (oi := { dst := some 53, op := Op.load 9 (Operand.tmp 52), type := 9, pos := "law.go:131", after := #[{ on := 9, ground := Ground.data }, { on := 4, ground := Ground.guard }], guard := some (4, false) }) (v := _) [11, 12, 13] [] rfl rfl (by kernel_rfl) (by kernel_rfl) (by kernel_rfl) (by kernel_rfl) (by kernel_rfl) (by kernel_rfl) (by kernel_rfl) (fun _ _ _ h => h) (Or.inl ⟨by rfl, Or.inl ?hy12⟩) ?rest12
        case hy12 => (intro w' kk ss; obtain ⟨f0, f1, f2, f3, f4, f5, f6, f7⟩ := HF.out _ (hr0.trans kk); obtain ⟨y0, y1, y2, y3⟩ := (HX.out _ (hr0.trans kk)).four; go_simp; first | done | with_reducible rfl)
        try simp only [Act.put, List.setIfInBounds_toArray, List.set_cons_zero, List.set_cons_succ]
        refine Reg.wpG_take (i := 11) (oi := { dst := some 54, op := Op.call { callee := Callee.value (Operand.func 13), args := #[Operand.tmp 51, Operand.tmp 53], argTypes := #[42, 9] }, type := 4, pos := "law.go:131", after := #[{ on := 8, ground := Ground.data }, { on := 10, ground := Ground.data }, { on := 4, ground := Ground.chain }, { on := 4, ground := Ground.guard }], guard := some (4, false) }) (v := .bool true) [12, 13] [] rfl rfl (by kernel_rfl) (by kernel_rfl) (by kernel_rfl) (by kernel_rfl) (by kernel_rfl) (by kernel_rfl) (by kernel_rfl) (fun _ _ _ h => h) (Or.inl ⟨by rfl, Or.inr ⟨13, #[.agg #[.int .i64 x.kind, .string x.name, .bool x.bool, .slice B1 x.dom.length d1, .int .i64 x.size, .bool x.out, .slice B2 x.vals.length d2, .int .i64 x.ask], .string tt], fun w' kk ss => ⟨?_, ?_⟩⟩⟩) ?_
        · (try dsimp only at ss); go_simp
        · exact (ST.out w' x _ _ HBG.out).mono (fun e w'' h => ⟨h.1, h.2, trivial⟩)
        try simp only [Act.put, List.setIfInBounds_toArray, List.set_cons_zero, List.set_cons_succ]
        refine' Reg.wpG_take (i := 12) (oi := { dst := some 55, op := Op.unOp UnOp.not 4 (Operand.tmp 54), type := 4, pos := "law.go:131", after := #[{ on := 11, ground := Ground.data }, { on := 4, ground := Ground.guard }], guard := some (4, false) }) (v := _) [13] [] rfl rfl (by kernel_rfl) (by kernel_rfl) (by kernel_rfl) (by kernel_rfl) (by kernel_rfl) (by kernel_rfl) (by kernel_rfl) (fun _ _ _ h => h) (Or.inl ⟨by rfl, Or.inl ?hy13⟩) ?rest13
        case hy13 => (intro w' kk ss; obtain ⟨f0, f1, f2, f3, f4, f5, f6, f7⟩ := HF.out _ (hr0.trans kk); obtain ⟨y0, y1, y2, y3⟩ := (HX.out _ (hr0.trans kk)).four; go_simp; first | done | with_reducible rfl)
        try simp only [Act.put, List.setIfInBounds_toArray, List.set_cons_zero, List.set_cons_succ]
        refine' Reg.wpG_take (i := 13) (oi := { dst := some 56, op := Op.pick (Operand.tmp 47) (Operand.const (Value.bool true)) (Operand.tmp 55), type := 4, pos := "law.go:131", after := #[{ on := 4, ground := Ground.data }, { on := 12, ground := Ground.data }], guard := none }) (v := _) [] [] rfl rfl (by kernel_rfl) (by kernel_rfl) (by kernel_rfl) (by kernel_rfl) (by kernel_rfl) (by kernel_rfl) (by kernel_rfl) (fun _ _ _ h => h) (Or.inl ⟨by rfl, Or.inl ?hy14⟩) ?rest14
        case hy14 => (intro w' kk ss; obtain ⟨f0, f1, f2, f3, f4, f5, f6, f7⟩ := HF.out _ (hr0.trans kk); obtain ⟨y0, y1, y2, y3⟩ := (HX.out _ (hr0.trans kk)).four; go_simp; first | done | with_reducible rfl)
        try simp only [Act.put, List.setIfInBounds_toArray, List.set_cons_zero, List.set_cons_succ]
        refine Reg.wpG_done (by kernel_rfl) (fun we ke se => ?_) _
        refine NoPanic.normal ?_
        have hr0 := hr0.trans ke
        clear ke
        obtain ⟨y0, y1, y2, y3⟩ := (HX.out _ hr0).four
        go_wp2
        go_roundw
        case rel => exact ⟨k + 1, c, false, by omega, by go_num, rfl, rfl, by omega, HS2.out, (hw.trans hs1).trans hr0⟩
        case measure => simp [intOf]; omega
    · obtain rfl : k = m := by omega
      have e : ts.drop k = [] := List.drop_eq_nil_of_le (by have := HM.out; omega)
      have hsd := HS.out
      rw [e] at hsd
      obtain ⟨rfl, hc⟩ := hsd.stop
      obtain rfl : c = n := by have := HN.out; omega
      clear e hsd HS hc
      go_wp2
      go_ret
      exact ⟨rfl, ((h1.trans h2).trans h3).trans hw⟩
end Go.Proofs.YtgcfemnigpjadaaDoor.Law06
