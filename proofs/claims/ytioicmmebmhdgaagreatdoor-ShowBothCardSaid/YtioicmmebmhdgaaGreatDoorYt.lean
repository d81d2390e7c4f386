/- ShowBack, if Text (of parse) and Text (of show) say what the document says. -/
import Derived.Test.YtioicmmebmhdgaaGreatDoorYs
namespace Go.Proofs.YtioicmmebmhdgaaGreatDoor.Law07
open Go.RowKit
set_option linter.unusedVariables false
set_option linter.unusedSimpArgs false
open Go.Proofs.YtioicmmebmhdgaaGreatDoor.Dig Go.Proofs.YtioicmmebmhdgaaGreatDoor.Lx Go.Proofs.YtioicmmebmhdgaaGreatDoor.Tk Go.Proofs.YtioicmmebmhdgaaGreatDoor.Ps Go.Proofs.YtioicmmebmhdgaaGreatDoor.Ti Go.Proofs.YtioicmmebmhdgaaGreatDoor.Sh
open Go.Proofs.YtioicmmebmhdgaaGreatDoor.Law06 (TextSays text_at ours_at same_at)

theorem nP_plq {p : Pq} {q : Pl} (h : nP p = plq q) : p = plq q := by
  obtain ⟨k, n, s, d⟩ := p
  obtain ⟨k', n', s'⟩ := q
  simp only [nP, plq, Pq.mk.injEq] at h ⊢
  obtain ⟨h1, h2, h3, h4⟩ := h
  refine ⟨h1, h2, h3, ?_⟩
  by_cases hd : d = 0
  · exact hd
  · rw [if_neg hd] at h4; omega
theorem map_back {α β : Type} {f : α → α} {g : β → α} (h : ∀ a b, f a = g b → a = g b) : ∀ {l : List α} {m : List β}, l.map f = m.map g → l = m.map g
  | [], [], _ => rfl
  | [], b :: m, e => by simp at e
  | a :: l, [], e => by simp at e
  | a :: l, b :: m, e => by
    simp only [List.map_cons, List.cons.injEq] at e ⊢
    exact ⟨h a b e.1, map_back h e.2⟩
theorem nX_xpq {x : Xq} {y : Xp} (h : nX x = xpq y) : x = xpq y := by
  obtain ⟨k, n, s, l⟩ := x
  obtain ⟨k', n', s', l'⟩ := y
  simp only [nX, xpq, Xq.mk.injEq] at h ⊢
  exact ⟨h.1, h.2.1, h.2.2.1, map_back (fun a b => nP_plq) h.2.2.2⟩
theorem nI_itq {x : Iq} {y : It} (h : nI x = itq y) : x = itq y := by
  obtain ⟨a1, a2, a3, a4, a5, a6, a7, a8⟩ := x
  obtain ⟨b1, b2, b3, b4, b5, b6, b7, b8⟩ := y
  simp only [nI, itq, Iq.mk.injEq] at h ⊢
  exact ⟨h.1, h.2.1, h.2.2.1, h.2.2.2.1, h.2.2.2.2.1, h.2.2.2.2.2.1, map_back (fun a b => nX_xpq) h.2.2.2.2.2.2.1, h.2.2.2.2.2.2.2⟩
/-- a call of All on items that are few, in letters -/
theorem all_at (A : Option Addr) (n c : Nat) (l : List Iq) (w : World) (h : Sl 8 (QIq noG) w (.slice A n c) l) (hs : ∀ x ∈ l, SmI x) (hn : l.length = n) (hm : n ≤ 10000) :
    Calls Tryz.prog 10 #[.slice A n c] w fun e w' => ∃ B d, e = .returned (.slice B n d) ∧ ItemsQ w' (.slice B n d) (l.map nI) ∧ Since w w' := by
  refine (all_any noG _ l w h (fun b hb => hb.elim) (by omega) (fun x hx => ⟨Nat.le_trans (hs x hx).2.1 (by decide), fun y hy => Nat.le_trans ((hs x hx).2.2.2 y hy).2.1 (by decide)⟩)).mono ?_
  rintro e w' ⟨B, d, cs, rfl, ho, hr, k⟩
  have e1 : (l.map nI).length = n := by rw [List.length_map, hn]
  rw [e1] at ho hr ⊢
  exact ⟨B, d, rfl, Sl.mono (fun x u => QIq.none) (Sl.own ho hr e1.symm), k⟩
/-- a call of show.Text on what All gave, in letters -/
theorem text_all {Ok : World → Prop} (S : ShowSays Ok) (l : List Iq) (n : Nat) (hn : l.length = n) (hm : n ≤ 10000) (hs : ∀ x ∈ l, SmI x) (hb : ∀ x ∈ l, BdI x) (B : Option Addr) (d : Nat) (w : World) (ok : Ok w) (h : ItemsQ w (.slice B n d) (l.map nI)) :
    Calls Tryz.prog 9 #[.slice B n d] w fun e w' =>
      (∃ er : Int, (er != 0) = true ∧ e = .returned (.tuple #[.string ⟨#[]⟩, .int .i64 er]) ∧ Since w w') ∨
      (∃ (ys : List It) (T : ByteArray), e = .returned (.tuple #[.string T, .int .i64 0]) ∧ Hid (l = ys.map itq ∧ ys.length = n ∧ textD T = (ys, 0, 0) ∧ T.size ≤ 8192) ∧ Since w w') := by
  refine (S.2.2.2 (l.map nI) _ w ok h (by rw [List.length_map]; omega) (fun x hx => by
    obtain ⟨y, hy, rfl⟩ := List.mem_map.1 hx
    exact boI_of (hb y hy) (hs y hy))).mono ?_
  rintro e w' ⟨T, er, rfl, hT, k⟩
  by_cases he : er = 0
  · subst he
    obtain ⟨ys, h1, h2, h3, h4, -⟩ := (show_back hT).2 rfl
    refine .inr ⟨ys, T, rfl, ⟨map_back (fun a b => nI_itq) h1, ?_, h3, h4⟩, k⟩
    have := congrArg List.length h1
    rw [List.length_map, List.length_map] at this
    omega
  · obtain rfl := (show_back hT).1 he
    exact .inl ⟨er, by rw [bne_iff_ne]; exact he, rfl, k⟩
/-- parse.Text on it, in letters -/
theorem text_back {Ok : World → Prop} (T : TextSays Ok) {l : List Iq} {ys : List It} {s : ByteArray} {n : Nat} (h : Hid (l = ys.map itq ∧ ys.length = n ∧ textD s = (ys, 0, 0) ∧ s.size ≤ 8192)) (w : World) (ok : Ok w) :
    Calls Tryz.prog 12 #[.string s] w fun x w' => ∃ A c, x = .returned (.tuple #[.slice A n c, .int .i64 0, .int .i64 0]) ∧ Items w' (.slice A n c) ys ∧ Since w w' :=
  text_at T s (Nat.le_trans h.out.2.2.2 (by decide)) h.out.2.2.1 h.out.2.1 w ok
theorem bd_back {l : List Iq} {ys : List It} {s : ByteArray} {n : Nat} (h : Hid (l = ys.map itq ∧ ys.length = n ∧ textD s = (ys, 0, 0) ∧ s.size ≤ 8192)) : ∀ x ∈ ys, Bd x := (bd_text h.out.2.2.1).2
theorem ge_yes {k : Nat} (h : 100 ≤ k) : decide ((100 : Int) ≤ (k : Int)) = true := by rw [decide_eq_true_iff]; omega
theorem ge_no {k : Nat} (h : ¬ 100 ≤ k) : decide ((100 : Int) ≤ (k : Int)) = false := by rw [decide_eq_false_iff_not]; omega
set_option maxRecDepth 100000 in
set_option maxHeartbeats 4000000 in
theorem back_any {Ok : World → Prop} (T : TextSays Ok) (S : ShowSays Ok) (A : Option Addr) (n c : Nat) (l : List Iq) (w : World) (ok : Ok w) (h : ItemsIn w A n c l) : Calls Tryz.prog 4 #[.slice A n c] w fun e w' => e = .returned (.bool true) ∧ Since w w' := by
  have AL := Lib.hid (alive S w ok)
  have OK := Lib.hid (fun W (h : Since w W) => T.1 w W ok h)
  obtain ⟨hn, hv, hb, hm⟩ := h
  have hnm : n ≤ 9223372036854775807 := by unfold maxLen at hm; omega
  have HV := Lib.hid hv
  have HB := Lib.hid hb
  have HN := Lib.hid hn
  have TT := Lib.hid T
  have SS := Lib.hid S
  clear T S hn hv hb hm
  go_enter Tryz.func4, Tryz.ntmps4
  go_wp2_with (go_at_call 7; (with_reducible refine AL.out.mono ?_); rintro e w1 ⟨rfl, h1⟩)
  go_loopw [13] (fun i wr => ∃ k : Nat, k ≤ n ∧ k ≤ 100 ∧ i = .int .i64 (k : Int) ∧ Hid (∀ x ∈ l.take k, SmI x) ∧ Since w wr) (fun i _ => n - (intOf i).toNat)
  case atStart => exact ⟨0, Nat.zero_le _, Nat.zero_le _, rfl, (by intro y hy; simp at hy), h1⟩
  case round =>
    obtain ⟨k, hk, hk100, rfl, HS, hw⟩ := hrel
    by_cases hlt : k < n
    · by_cases h100 : 100 ≤ k
      · have u1 : decide ((100 : Int) ≤ (k : Int)) = true := ge_yes h100
        go_wp2
        go_ret
        exact ⟨rfl, hw⟩
      have u1 : decide ((100 : Int) ≤ (k : Int)) = false := ge_no h100
      have hkx : k < l.length := by have := HN.out; omega
      obtain ⟨b, o, A1, c1, A2, c2, rfl, hd, hdf, hv, g0, g1, g2, g3, g4, g5, g6, g7⟩ := elIq2 HV.out hw hkx
      have hst := takeR hkx
      have hbd := HB.out l[k] (List.getElem_mem hkx)
      obtain ⟨x, hx⟩ : ∃ x, x = l[k] := ⟨_, rfl⟩
      rw [← hx] at hd hdf hv g0 g1 g2 g3 g4 g5 g6 g7 hst hbd
      obtain ⟨ki, nm, bo, dm, sz, ou, vs, ak⟩ := x
      simp only at hd hdf hv g0 g1 g2 g3 g4 g5 g6 g7
      obtain ⟨p, hp⟩ : ∃ p, p = dm.length := ⟨_, rfl⟩
      obtain ⟨m, hm⟩ : ∃ m, m = vs.length := ⟨_, rfl⟩
      have FC := Lib.hid (few_any ki nm bo sz ou ak A1 A2 p m c1 c2 dm vs wr hp (by rw [hm]; exact hv.since (stXq _) hw) hbd.2.2.1 hbd.1 (by rw [hp]; exact hbd.2.1) hbd.2.2.2.1)
      rw [← hp] at hd hdf g3
      rw [← hm] at hv g6
      have HT := Lib.hid hst
      have H100 := Lib.hid h100
      clear hst hx hkx hv hd hdf hbd hp hm h100
      go_wp2_with (go_at_call 8; (with_reducible refine FC.out.mono ?_); rintro e w2 ⟨_ | _, rfl, hr, hs⟩)
      · go_ret
        exact ⟨rfl, hw.trans hs⟩
      · go_roundw
        case rel =>
          refine ⟨k + 1, by omega, by have := H100.out; omega, by go_num, ?_, hw.trans hs⟩
          intro y hy
          rw [HT.out] at hy
          rcases List.mem_append.1 hy with hy | hy
          · exact HS.out y hy
          · obtain rfl := List.mem_singleton.1 hy
            first | exact hr rfl | exact hr trivial
        case measure => simp [intOf]; omega
    · obtain rfl : k = n := by omega
      have e : l.take k = l := List.take_of_length_le (by have := HN.out; omega)
      rw [e] at HS
      go_wp2_with (first
        | (go_at_call 10; (with_reducible refine (all_at A k c l _ (HV.out.since (stIq _) hw) HS.out HN.out (by omega)).mono ?_); rintro e w2 ⟨B, d, rfl, hq, h2⟩; have k2 := hw.trans h2)
        | (go_at_call 9; (with_reducible refine (text_all SS.out l k HN.out (by omega) HS.out HB.out B d _ (OK.out _ k2) hq).mono ?_); rintro e w3 (⟨er, hz, rfl, h3⟩ | ⟨ys, s, rfl, HY, h3⟩) <;> have k3 := k2.trans h3)
        | (go_at_call 12; (with_reducible refine (text_back TT.out HY _ (OK.out _ k3)).mono ?_); rintro e w4 ⟨A2, c2, rfl, t2, h4⟩; have k4 := k3.trans h4)
        | (go_at_call 14; (with_reducible refine (ours_at A2 c2 k ys _ noG t2 (fun b hb => hb.elim) HY.out.2.1 (by omega) (bd_back HY)).mono ?_); rintro e w5 ⟨B1, d1, cs1, rfl, q1, r1, h5⟩; have y1 := Sl.mono (fun x u => QI.none) (Sl.own q1 r1 HY.out.2.1.symm); have k5 := k4.trans h5)
        | (go_at_call 13; (with_reducible refine (same_at B1 A k d1 c ys _ y1 (itemsU (by rw [← HY.out.1]; exact HV.out.since (stIq _) k5)) (by omega) (bd_back HY)).mono ?_); rintro e w6 ⟨rfl, h6⟩; have k6 := k5.trans h6))
      all_goals go_ret
      all_goals first | exact ⟨rfl, k6⟩ | exact ⟨rfl, k3⟩
end Go.Proofs.YtioicmmebmhdgaaGreatDoor.Law07
