/- ShowOnce, if Text (of parse) and Text (of show) say what the document says. -/
import Derived.Test.YtioicmmebmhdgaaGreatDoorVw
import Derived.Test.YtioicmmebmhdgaaGreatDoorLa
namespace Go.Proofs.YtioicmmebmhdgaaGreatDoor.Law07
open Go.RowKit
set_option linter.unusedVariables false
set_option linter.unusedSimpArgs false
open Go.Proofs.YtioicmmebmhdgaaGreatDoor.Dig Go.Proofs.YtioicmmebmhdgaaGreatDoor.Lx Go.Proofs.YtioicmmebmhdgaaGreatDoor.Tk Go.Proofs.YtioicmmebmhdgaaGreatDoor.Ps Go.Proofs.YtioicmmebmhdgaaGreatDoor.Ti Go.Proofs.YtioicmmebmhdgaaGreatDoor.Sh
open Go.Proofs.YtioicmmebmhdgaaGreatDoor.Law06 (TextSays text_at ours_at same_at)

theorem shows_size {l : List Iq} {T : ByteArray} (h : ShowsT l T 0) : T.size ≤ 8192 := ((show_back h).2 rfl).elim fun ys h => h.2.2.2.1
/-- a call of show.Text on items that read, in letters -/
theorem show_at {Ok : World → Prop} (S : ShowSays Ok) {l : List It} {B : ByteArray} (hB : B = itemsB l) (h : ShowsT (l.map itq) B 0) (hl : l.length ≤ 512) (hw : ∀ x ∈ l, WfI x) (n : Nat) (hn : l.length = n) (A : Option Addr) (c : Nat) (w : World) (ok : Ok w) (hv : Items w (.slice A n c) l) :
    Calls Tryz.prog 9 #[.slice A n c] w fun e w' => e = .returned (.tuple #[.string B, .int .i64 0]) ∧ Since w w' := by
  have hs := shows_size h
  refine (S.2.2.2 (l.map itq) _ w ok (itemsQ hv) (by rw [List.length_map]; omega) (wfs_bo hw (by rw [← hB]; omega))).mono ?_
  rintro e w' ⟨T, er, rfl, hT, k⟩
  obtain ⟨rfl, rfl⟩ := shows_one hT h
  exact ⟨rfl, k⟩
set_option maxRecDepth 100000 in
set_option maxHeartbeats 4000000 in
theorem once_any {Ok : World → Prop} (T : TextSays Ok) (S : ShowSays Ok) (a0 : ByteArray) (w : World) (ok : Ok w) : Calls Tryz.prog 5 #[.string a0] w fun e w' => e = .returned (.bool true) ∧ Since w w' := by
  have AL := Lib.hid (alive S w ok)
  have OK := Lib.hid (fun W (h : Since w W) => T.1 w W ok h)
  by_cases hbig : 2000 < a0.size
  · have hz : decide ((2000 : Int) < (a0.size : Int)) = true := by rw [decide_eq_true_iff]; omega
    clear T S
    go_enter Tryz.func5, Tryz.ntmps5
    go_wp2_with (go_at_call 7; (with_reducible refine AL.out.mono ?_); rintro e w1 ⟨rfl, h1⟩)
    go_ret
    exact ⟨rfl, h1⟩
  have hz : decide ((2000 : Int) < (a0.size : Int)) = false := by rw [decide_eq_false_iff_not]; omega
  obtain ⟨⟨l, p, er⟩, hr⟩ : ∃ r, textD a0 = r := ⟨_, rfl⟩
  obtain ⟨n, hn⟩ : ∃ n, l.length = n := ⟨_, rfl⟩
  have S1 := Lib.hid (fun W (h : Ok W) => text_at T a0 (by omega) hr hn W h)
  by_cases he : er ≠ 0
  · have ne1 : (er != 0) = true := by rw [bne_iff_ne]; exact he
    clear T S hr hn he hbig
    go_enter Tryz.func5, Tryz.ntmps5
    go_wp2_with (first
      | (go_at_call 7; (with_reducible refine AL.out.mono ?_); rintro e w1 ⟨rfl, h1⟩)
      | (go_at_call 12; (with_reducible refine (S1.out _ (OK.out _ h1)).mono ?_); rintro e w2 ⟨A1, c1, rfl, t1, h2⟩))
    go_ret
    exact ⟨rfl, h1.trans h2⟩
  obtain rfl : er = 0 := by omega
  obtain ⟨hT, hr2⟩ := show_once (by omega) hr
  have hw := wf_text hr
  obtain ⟨lb, bd⟩ := bd_text hr
  obtain ⟨B, hB⟩ : ∃ B, B = itemsB l := ⟨_, rfl⟩
  rw [← hB] at hT hr2
  have hBs := shows_size hT
  have S2 := Lib.hid (fun W (h : Ok W) => text_at T B (by omega) hr2 hn W h)
  have S3 := Lib.hid (show_at S hB hT lb hw n hn)
  rw [hn] at lb
  have LN := Lib.hid hn
  have BD := Lib.hid bd
  clear T S hr hr2 hn hT hw hB bd hBs hbig he
  go_enter Tryz.func5, Tryz.ntmps5
  go_wp2_with (first
    | (go_at_call 7; (with_reducible refine AL.out.mono ?_); rintro e w1 ⟨rfl, h1⟩)
    | (go_at_call 12; (with_reducible refine (S1.out _ (OK.out _ h1)).mono ?_); rintro e w2 ⟨A1, c1, rfl, t1, h2⟩; have k2 := h1.trans h2)
    | (go_at_call 9; (with_reducible refine (S3.out A1 c1 _ (OK.out _ k2) t1).mono ?_); rintro e w3 ⟨rfl, h3⟩; have k3 := k2.trans h3)
    | (go_at_call 12; (with_reducible refine (S2.out _ (OK.out _ k3)).mono ?_); rintro e w4 ⟨A2, c2, rfl, t2, h4⟩; have k4 := k3.trans h4)
    | (go_at_call 9; (with_reducible refine (S3.out A2 c2 _ (OK.out _ k4) t2).mono ?_); rintro e w5 ⟨rfl, h5⟩; have k5 := k4.trans h5)
    | (go_at_call 14; (with_reducible refine (ours_at A1 c1 n l _ noG (t1.since (stI _) ((h3.trans h4).trans h5)) (fun b hb => hb.elim) LN.out (by omega) BD.out).mono ?_); rintro e w6 ⟨B1, d1, cs1, rfl, q1, r1, h6⟩; have y1 := Sl.mono (fun x u => QI.none) (Sl.own q1 r1 LN.out.symm); have k6 := k5.trans h6)
    | (go_at_call 14; (with_reducible refine (ours_at A2 c2 n l _ noG (t2.since (stI _) (h5.trans h6)) (fun b hb => hb.elim) LN.out (by omega) BD.out).mono ?_); rintro e w7 ⟨B2, d2, cs2, rfl, q2, r2, h7⟩; have y2 := Sl.mono (fun x u => QI.none) (Sl.own q2 r2 LN.out.symm); have k7 := k6.trans h7)
    | (go_at_call 13; (with_reducible refine (same_at B1 B2 n d1 d2 l _ (y1.since (stI _) h7) y2 (by omega) BD.out).mono ?_); rintro e w8 ⟨rfl, h8⟩; have k8 := k7.trans h8))
  go_ret
  exact ⟨rfl, k8⟩
end Go.Proofs.YtioicmmebmhdgaaGreatDoor.Law07
