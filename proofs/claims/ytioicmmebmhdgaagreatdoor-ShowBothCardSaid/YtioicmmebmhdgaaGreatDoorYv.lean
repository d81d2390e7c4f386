/- ShowBoth, if Text of show says what the document says. -/
import Derived.Test.YtioicmmebmhdgaaGreatDoorYt
import Derived.Test.YtioicmmebmhdgaaGreatDoorAp7
import Derived.Test.YtioicmmebmhdgaaGreatDoorLa
namespace Go.Proofs.YtioicmmebmhdgaaGreatDoor.Law07
open Go.RowKit
set_option linter.unusedVariables false
set_option linter.unusedSimpArgs false
open Go.Proofs.YtioicmmebmhdgaaGreatDoor.Dig Go.Proofs.YtioicmmebmhdgaaGreatDoor.Lx Go.Proofs.YtioicmmebmhdgaaGreatDoor.Tk Go.Proofs.YtioicmmebmhdgaaGreatDoor.Ps Go.Proofs.YtioicmmebmhdgaaGreatDoor.Ti Go.Proofs.YtioicmmebmhdgaaGreatDoor.Sh

/-- Text gives something for all items -/
theorem shows_some (l : List Iq) : ∃ T e, ShowsT l T e := by
  by_cases h : 512 < l.length
  · exact ⟨nos, 3, .inl ⟨h, rfl, rfl⟩⟩
  · by_cases hv : ∀ x ∈ l, Valid x
    · obtain ⟨ys, hy, hw⟩ := valid_all hv
      have h5 : ys.length ≤ 512 := by
        have := congrArg List.length hy
        rw [List.length_map] at this; omega
      by_cases h8 : 8192 < (itemsB ys).size ∨ 4096 < (textP ys).length
      · exact ⟨nos, 3, .inr (.inr ⟨ys, hy, h5, hw, .inl ⟨h8, rfl, rfl⟩⟩)⟩
      · exact ⟨itemsB ys, 0, .inr (.inr ⟨ys, hy, h5, hw, .inr ⟨by omega, by omega, rfl, rfl⟩⟩)⟩
    · exact ⟨nos, 2, .inr (.inl ⟨by omega, hv, rfl, rfl⟩)⟩
theorem shows_len {l : List Iq} {T : ByteArray} {e : Int} (h : ShowsT l T e) : T.size ≤ 8192 := by
  rcases h with ⟨-, rfl, -⟩ | ⟨-, -, rfl, -⟩ | ⟨ys, -, -, -, ⟨-, rfl, -⟩ | ⟨h8, -, rfl, -⟩⟩
  · decide
  · decide
  · decide
  · exact h8
/-- a call of show.Text, its answer known ahead -/
theorem text_is {Ok : World → Prop} (S : ShowSays Ok) {l : List Iq} {T : ByteArray} {er : Int} (hT : ShowsT (l.map nI) T er) {n : Nat} (hn : l.length = n) (hm : n ≤ 10000) (hs : ∀ x ∈ l, SmI x) (hb : ∀ x ∈ l, BdI x) (B : Option Addr) (d : Nat) (w : World) (ok : Ok w) (h : ItemsQ w (.slice B n d) (l.map nI)) :
    Calls Tryz.prog 9 #[.slice B n d] w fun e w' => e = .returned (.tuple #[.string T, .int .i64 er]) ∧ Since w w' := by
  refine (S.2.2.2 (l.map nI) _ w ok h (by rw [List.length_map]; omega) (fun x hx => by
    obtain ⟨y, hy, rfl⟩ := List.mem_map.1 hx
    exact boI_of (hb y hy) (hs y hy))).mono ?_
  rintro e w' ⟨U, f, rfl, hU, k⟩
  obtain ⟨rfl, rfl⟩ := shows_one hT hU
  exact ⟨rfl, k⟩
/-- a call of All, its row -/
theorem all_rows (G : Nat → Prop) (A : Option Addr) (n c : Nat) (l : List Iq) (w : World) (h : Sl 8 (QIq G) w (.slice A n c) l) (hG : ∀ b, G b → b < w.heap.size) (hs : ∀ x ∈ l, SmI x) (hn : l.length = n) (hm : n ≤ 10000) :
    Calls Tryz.prog 10 #[.slice A n c] w fun e w' => ∃ B d cs, e = .returned (.slice B n d) ∧ w'.ownsRow w.heap.size 47 8 (.slice B n d) n cs ∧ Rws 8 (QIq (own G (.slice B n d)) w') (l.map nI) cs ∧ Since w w' := by
  refine (all_any G _ l w h hG (by omega) (fun x hx => ⟨Nat.le_trans (hs x hx).2.1 (by decide), fun y hy => Nat.le_trans ((hs x hx).2.2.2 y hy).2.1 (by decide)⟩)).mono ?_
  rintro e w' ⟨B, d, cs, rfl, ho, hr, k⟩
  have e1 : (l.map nI).length = n := by rw [List.length_map, hn]
  rw [e1] at ho hr ⊢
  exact ⟨B, d, cs, rfl, ho, hr, k⟩
set_option maxRecDepth 100000 in
set_option maxHeartbeats 8000000 in
theorem both_any {Ok : World → Prop} (S : ShowSays Ok) (A1 A2 : Option Addr) (n1 c1 n2 c2 : Nat) (l1 l2 : List Iq) (w : World) (ok : Ok w) (h1 : ItemsIn w A1 n1 c1 l1) (h2 : ItemsIn w A2 n2 c2 l2) : Calls Tryz.prog 6 #[.slice A1 n1 c1, .slice A2 n2 c2] w fun e w' => e = .returned (.bool true) ∧ Since w w' := by
  have AL := Lib.hid (alive S w ok)
  have OK := Lib.hid (fun W (h : Since w W) => S.1 w W ok h)
  obtain ⟨hn1, hv1, hb1, hm1⟩ := h1
  obtain ⟨hn2, hv2, hb2, hm2⟩ := h2
  have HV1 := Lib.hid hv1
  have HV2 := Lib.hid hv2
  have HB1 := Lib.hid hb1
  have HB2 := Lib.hid hb2
  have HN1 := Lib.hid hn1
  have HN2 := Lib.hid hn2
  have SS := Lib.hid S
  have l63a : n1 ≤ 9223372036854775807 := by unfold maxLen at hm1; omega
  have l63b : n2 ≤ 9223372036854775807 := by unfold maxLen at hm2; omega
  clear S hv1 hv2 hb1 hb2 hn1 hn2 hm1 hm2 ok
  by_cases hb0 : 50 < n1
  · have z0 : decide ((50 : Int) < (n1 : Int)) = true := by rw [decide_eq_true_iff]; omega
    go_enter Tryz.func6, Tryz.ntmps6
    go_wp2_with (go_at_call 7; (with_reducible refine AL.out.mono ?_); rintro e w1 ⟨rfl, h1⟩)
    go_ret
    exact ⟨rfl, h1⟩
  have z0 : decide ((50 : Int) < (n1 : Int)) = false := by rw [decide_eq_false_iff_not]; omega
  by_cases hb1 : 50 < n2
  · have z1 : decide ((50 : Int) < (n2 : Int)) = true := by rw [decide_eq_true_iff]; omega
    go_enter Tryz.func6, Tryz.ntmps6
    go_wp2_with (go_at_call 7; (with_reducible refine AL.out.mono ?_); rintro e w1 ⟨rfl, h1⟩)
    go_ret
    exact ⟨rfl, h1⟩
  have z1 : decide ((50 : Int) < (n2 : Int)) = false := by rw [decide_eq_false_iff_not]; omega
  have h50 : n1 ≤ 50 ∧ n2 ≤ 50 := by omega
  have H50 := Lib.hid h50
  obtain ⟨cs1, r1, -, q1⟩ := Sl.rows HV1.out
  obtain ⟨cs2, r2, -, q2⟩ := Sl.rows HV2.out
  have LE1 := Lib.hid (show cs1.length = n1 * 8 by rw [r1.len, HN1.out])
  have LE2 := Lib.hid (show cs2.length = n2 * 8 by rw [r2.len, HN2.out])
  have up : ∀ W, Since w W → ∀ {p : Addr} {u : Value}, w.cell? p = some u → W.cell? p = some u := fun W k p u g => (k.cell _ (World.block_lt_of_cell? _ _ g)).trans g
  have Q1 := Lib.hid (fun W (k : Since w W) => (q1.imp id (fun ⟨b, o, e, f⟩ => ⟨b, o, e, fun j u hj => up W k (f j u hj)⟩) : n1 = 0 ∨ ∃ b o, A1 = some ⟨b, o, none⟩ ∧ ∀ j u, cs1[j]? = some u → W.cell? ⟨b, o + j, none⟩ = some u))
  have Q2 := Lib.hid (fun W (k : Since w W) => (q2.imp id (fun ⟨b, o, e, f⟩ => ⟨b, o, e, fun j u hj => up W k (f j u hj)⟩) : n2 = 0 ∨ ∃ b o, A2 = some ⟨b, o, none⟩ ∧ ∀ j u, cs2[j]? = some u → W.cell? ⟨b, o + j, none⟩ = some u))
  have O1 := Lib.hid (Rws.one (fun x u h => QIq.one h) r1)
  have O2 := Lib.hid (Rws.one (fun x u h => QIq.one h) r2)
  have HR := Lib.hid (r1.append r2)
  clear r1 r2 q1 q2 up h50
  obtain ⟨i0, hi, hz0, hz1', hz2'⟩ := info_parts Law06.info_ritem
  obtain ⟨i1, hj, hj0, hj1, hj2⟩ := info_parts info_pitem
  have HI := Lib.hid hj
  have HJ0 := Lib.hid hj0
  have HJ1 := Lib.hid hj1
  have HJ2 := Lib.hid hj2
  clear hj hj0 hj1 hj2
  go_enter Tryz.func6, Tryz.ntmps6
  go_wp2_with (first
    | (go_at_call 7; (with_reducible refine AL.out.mono ?_); rintro e w1 ⟨rfl, h1⟩)
    | (at_builtin; refine wpList_append_in (by rfl) _ _ 22 rfl w1.heap.size 28 i0 (.agg #[.int .i64 0, .string ⟨#[]⟩, .bool false, .slice none 0 0, .int .i64 0, .bool false, .slice none 0 0, .int .i64 0]) 8 104 Tryz.underlying22 hi hz0 hz1' hz2' rfl (by decide) (.slice none 0 0) 0 [] rfl (World.ownsRow_nil _ _ _ _) A1 n1 c1 cs1 rfl LE1.out (Q1.out _ h1) O1.out ?c1 ?c2 ?c3 ?_))
  case c1 => have := H50.out; unfold maxLen; omega
  case c2 => have := H50.out; omega
  case c3 => exact Nat.le_refl _
  intro v2 w2 ho2 hg2 hat2
  try simp only [Nat.zero_add, List.nil_append] at ho2
  obtain ⟨B0, d0, rfl⟩ := owns_slice ho2
  have h2 : Since w1 w2 := Below.grown (Since.refl w1) hg2 (Nat.le_refl _) (fun g hg => by simp [Value.ownBlock] at hg)
  clear hg2 hat2
  go_wp2_with (at_builtin; refine wpList_append_in (by rfl) _ _ 22 rfl w1.heap.size 28 i0 (.agg #[.int .i64 0, .string ⟨#[]⟩, .bool false, .slice none 0 0, .int .i64 0, .bool false, .slice none 0 0, .int .i64 0]) 8 104 Tryz.underlying22 hi hz0 hz1' hz2' rfl (by decide) (.slice B0 n1 d0) n1 cs1 rfl ho2 A2 n2 c2 cs2 rfl LE2.out (Q2.out _ (h1.trans h2)) O2.out ?c1 ?c2 ?c3 ?_)
  case c1 => have := H50.out; unfold maxLen; omega
  case c2 => have := H50.out; omega
  case c3 => exact h2.size
  intro v3 w3 ho3 hg3 hat3
  have h3 : Since w1 w3 := Below.grown h2 hg3 h2.size (fun g hg => (ho2.lt g hg).1)
  have k3 := h1.trans h3
  obtain ⟨B3, d3, rfl⟩ := owns_slice ho3
  obtain ⟨l, hl⟩ : ∃ l, l = l1 ++ l2 := ⟨_, rfl⟩
  have hnl : n1 + n2 = l.length := by rw [hl, List.length_append, HN1.out, HN2.out]
  have HV := Lib.hid (Sl.own ho3 (by rw [hl]; exact HR.out.since (stIq _) k3) hnl)
  have HB := Lib.hid (show ∀ x ∈ l, BdI x by rw [hl]; intro x hx; exact (List.mem_append.1 hx).elim (HB1.out x) (HB2.out x))
  have HN := Lib.hid hnl.symm
  have HL := Lib.hid hl
  clear ho2 ho3 hg3 hat3 hl hnl hi hz0 hz1' hz2' h2 h3 h1
  obtain ⟨n, hn⟩ : ∃ n, n = n1 + n2 := ⟨_, rfl⟩
  have H100 := Lib.hid (show n ≤ 100 by have := H50.out; omega)
  have hnm : n ≤ 9223372036854775807 := by have := H100.out; omega
  rw [← hn] at HV HN ⊢
  have HNN := Lib.hid hn
  clear hn
  go_wp2
  go_loopw [28] (fun i wr => ∃ k : Nat, k ≤ n ∧ i = .int .i64 (k : Int) ∧ Hid (∀ x ∈ l.take k, SmI x) ∧ Since w3 wr) (fun i _ => n - (intOf i).toNat)
  case atStart => exact ⟨0, Nat.zero_le _, rfl, (by intro y hy; simp at hy), Since.refl _⟩
  case round =>
    obtain ⟨k, hk, rfl, HS, hw3⟩ := hrel
    have hw := k3.trans hw3
    by_cases hlt : k < n
    · have hkx : k < l.length := by have := HN.out; omega
      obtain ⟨b, o, D1, e1, D2, e2, rfl, hd, hdf, hv, g0, g1, g2, g3, g4, g5, g6, g7⟩ := elIq2 HV.out hw3 hkx
      have hst := takeR hkx
      have hbd := HB.out l[k] (List.getElem_mem hkx)
      obtain ⟨x, hx⟩ : ∃ x, x = l[k] := ⟨_, rfl⟩
      rw [← hx] at hd hdf hv g0 g1 g2 g3 g4 g5 g6 g7 hst hbd
      obtain ⟨ki, nm, bo, dm, sz, ou, vs, ak⟩ := x
      simp only at hd hdf hv g0 g1 g2 g3 g4 g5 g6 g7
      obtain ⟨p, hp⟩ : ∃ p, p = dm.length := ⟨_, rfl⟩
      obtain ⟨m, hm⟩ : ∃ m, m = vs.length := ⟨_, rfl⟩
      have FC := Lib.hid (fun W (kk : Since wr W) => few_any ki nm bo sz ou ak D1 D2 p m e1 e2 dm vs W hp (by rw [hm]; exact hv.since (stXq _) (hw3.trans kk)) hbd.2.2.1 hbd.1 (by rw [hp]; exact hbd.2.1) hbd.2.2.2.1)
      rw [← hp] at hd hdf g3
      rw [← hm] at hv g6
      have HT := Lib.hid hst
      have ka := Lib.hid (since_alloc wr (.cells #[.int .i64 ki, .string nm, .bool bo, .slice D1 p e1, .int .i64 sz, .bool ou, .slice D2 m e2, .int .i64 ak] 28))
      clear hst hx hkx hv hd hdf hbd hp hm
      go_wp2_with (go_at_call 8; (with_reducible refine (FC.out _ ka.out).mono ?_); rintro e w5 ⟨_ | _, rfl, hr, hs0⟩ <;> have hs := ka.out.trans hs0)
      · go_ret
        exact ⟨rfl, hw.trans hs⟩
      · go_roundw
        case rel =>
          refine ⟨k + 1, by omega, by go_num, ?_, hw3.trans hs⟩
          intro y hy
          rw [HT.out] at hy
          rcases List.mem_append.1 hy with hy | hy
          · exact HS.out y hy
          · obtain rfl := List.mem_singleton.1 hy
            first | exact hr rfl | exact hr trivial
        case measure => simp [intOf]; omega
    · obtain rfl : k = n := by omega
      have e : l.take k = l := List.take_of_length_le (by have := HN.out; omega)
      rw [e] at HS
      clear e
      have HS1 := Lib.hid (show ∀ x ∈ l1, SmI x from fun x hx => HS.out x (by rw [HL.out]; exact List.mem_append_left _ hx))
      have HS2 := Lib.hid (show ∀ x ∈ l2, SmI x from fun x hx => HS.out x (by rw [HL.out]; exact List.mem_append_right _ hx))
      obtain ⟨s, e, hs1⟩ := shows_some (l1.map nI)
      obtain ⟨t, f, hs2⟩ := shows_some (l2.map nI)
      obtain ⟨u, g, hs3⟩ := shows_some (l.map nI)
      have m50 := H50.out
      have T1 := Lib.hid (fun B d W => text_is SS.out hs1 HN1.out (by omega) HS1.out HB1.out B d W)
      have T2 := Lib.hid (fun B d W => text_is SS.out hs2 HN2.out (by omega) HS2.out HB2.out B d W)
      have T3 := Lib.hid (fun B d W => text_is SS.out hs3 HN.out (by have := H100.out; omega) HS.out HB.out B d W)
      have sb := show_both (by rw [List.length_map, List.length_map, HN1.out, HN2.out]; omega) hs1 hs2 (by rw [← List.map_append, ← HL.out]; exact hs3)
      have gg : ¬ (9223372036854775807 < s.size + t.size) := by have := shows_len hs1; have := shows_len hs2; omega
      have NN := Lib.hid (HNN.out)
      clear hs1 hs2 hs3 m50 hlt hk hnm H100 l63a l63b z0 z1 hb0 hb1
      by_cases he : e = 0
      · subst he
        by_cases hf : f = 0
        · subst hf
          by_cases hg : g = 0
          · subst hg
            obtain rfl := (sb.2 rfl rfl).2 rfl
            clear sb
            go_wp2_with (first
            | (go_at_call 10; (with_reducible refine (all_at A1 n1 c1 l1 _ (HV1.out.since (stIq _) hw) HS1.out HN1.out (by have := H50.out; omega)).mono ?_); rintro e0 w4 ⟨C1, f1, rfl, hq1, h4⟩; have k4 := hw.trans h4)
            | (go_at_call 9; (with_reducible refine (T1.out C1 f1 _ (OK.out _ k4) hq1).mono ?_); rintro e0 w5 ⟨rfl, h5⟩; have k5 := k4.trans h5)
            | (go_at_call 10; (with_reducible refine (all_at A2 n2 c2 l2 _ (HV2.out.since (stIq _) k5) HS2.out HN2.out (by have := H50.out; omega)).mono ?_); rintro e0 w6 ⟨C2, f2, rfl, hq2, h6⟩; have k6 := k5.trans h6)
            | (go_at_call 9; (with_reducible refine (T2.out C2 f2 _ (OK.out _ k6) hq2).mono ?_); rintro e0 w7 ⟨rfl, h7⟩; have k7 := k6.trans h7)
            | (go_at_call 10; (with_reducible refine (all_rows noG A1 n1 c1 l1 _ (HV1.out.since (stIq _) k7) (fun b hb => hb.elim) HS1.out HN1.out (by have := H50.out; omega)).mono ?_); rintro e0 w8 ⟨C3, f3, ds1, rfl, q3, r3, h8⟩; have k8 := k7.trans h8; have y8 : Sl 8 (QIq (fun b => (Value.slice C3 n1 f3).ownBlock = some b)) w8 (.slice A2 n2 c2) l2 := (HV2.out.mono (fun x u => QIq.less (fun b hb => .inr (Nat.le_trans k7.size (q3.lt b hb).1)))).since (stIq _) k8)
            | (go_at_call 10; (with_reducible refine (all_rows (fun b => (Value.slice C3 n1 f3).ownBlock = some b) A2 n2 c2 l2 _ y8 (fun b hb => (q3.lt b hb).2) HS2.out HN2.out (by have := H50.out; omega)).mono ?_); rintro e0 w9 ⟨C4, f4, ds2, rfl, q4, r4, h9⟩; have k9 := k8.trans h9)
            | (at_builtin; refine wpList_append_rows (by rfl) _ _ 32 rfl w7.heap.size 47 i1 (.agg #[.int .i64 0, .string ⟨#[]⟩, .bool false, .slice none 0 0, .int .i64 0, .bool false, .slice none 0 0, .int .i64 0]) 8 104 Tryz.underlying32 HI.out HJ0.out HJ1.out HJ2.out rfl (by decide) (.slice C3 n1 f3) n1 ds1 rfl (owns_since q3 h9) w8.heap.size 47 (.slice C4 n2 f4) n2 ds2 rfl q4 (Rws.one (fun x u h => QIq.one h) r4) ?c1 ?c2 ?c3 ?_))
            case c1 => have := H50.out; unfold maxLen; omega
            case c2 => have := H50.out; omega
            case c3 => exact (h8.trans h9).size
            intro v10 w10 ho10 hg10 hat10
            have h10 : Since w7 w10 := Below.grown (h8.trans h9) hg10 (h8.trans h9).size (fun g hg => (q3.lt g hg).1)
            have rr : Rws 8 (QIq noG w10) (l1.map nI ++ l2.map nI) (ds1 ++ ds2) :=
              (((r3.since (stIq _) h9).mono (fun x u => QIq.less (G' := fun b => (Value.slice C3 n1 f3).ownBlock = some b) (fun b hb => .inl (.inr hb)))).append (r4.mono (fun x u => QIq.less (fun b hb => .inl (.inl hb))))).mono (fun x u h => QIq.grow hg10 (fun b hb => hb) (fun b hb => hb.elim) h)
            rw [← List.map_append, ← HL.out] at rr
            rw [← NN.out] at ho10
            have hq3 := Sl.own ho10 rr (by rw [List.length_map, HN.out])
            obtain ⟨C5, f5, rfl⟩ := owns_slice ho10
            have k10 := k7.trans h10
            clear ho10 hg10 hat10 rr r3 r4
            go_wp2_with (go_at_call 9; (with_reducible refine (T3.out C5 f5 _ (OK.out _ k10) hq3).mono ?_); rintro e0 w11 ⟨rfl, h11⟩; have k11 := k10.trans h11)
            go_ret
            exact ⟨rfl, k11⟩
          · obtain rfl := (sb.2 rfl rfl).1 hg
            clear sb hg
            go_wp2_with (first
            | (go_at_call 10; (with_reducible refine (all_at A1 n1 c1 l1 _ (HV1.out.since (stIq _) hw) HS1.out HN1.out (by have := H50.out; omega)).mono ?_); rintro e0 w4 ⟨C1, f1, rfl, hq1, h4⟩; have k4 := hw.trans h4)
            | (go_at_call 9; (with_reducible refine (T1.out C1 f1 _ (OK.out _ k4) hq1).mono ?_); rintro e0 w5 ⟨rfl, h5⟩; have k5 := k4.trans h5)
            | (go_at_call 10; (with_reducible refine (all_at A2 n2 c2 l2 _ (HV2.out.since (stIq _) k5) HS2.out HN2.out (by have := H50.out; omega)).mono ?_); rintro e0 w6 ⟨C2, f2, rfl, hq2, h6⟩; have k6 := k5.trans h6)
            | (go_at_call 9; (with_reducible refine (T2.out C2 f2 _ (OK.out _ k6) hq2).mono ?_); rintro e0 w7 ⟨rfl, h7⟩; have k7 := k6.trans h7)
            | (go_at_call 10; (with_reducible refine (all_rows noG A1 n1 c1 l1 _ (HV1.out.since (stIq _) k7) (fun b hb => hb.elim) HS1.out HN1.out (by have := H50.out; omega)).mono ?_); rintro e0 w8 ⟨C3, f3, ds1, rfl, q3, r3, h8⟩; have k8 := k7.trans h8; have y8 : Sl 8 (QIq (fun b => (Value.slice C3 n1 f3).ownBlock = some b)) w8 (.slice A2 n2 c2) l2 := (HV2.out.mono (fun x u => QIq.less (fun b hb => .inr (Nat.le_trans k7.size (q3.lt b hb).1)))).since (stIq _) k8)
            | (go_at_call 10; (with_reducible refine (all_rows (fun b => (Value.slice C3 n1 f3).ownBlock = some b) A2 n2 c2 l2 _ y8 (fun b hb => (q3.lt b hb).2) HS2.out HN2.out (by have := H50.out; omega)).mono ?_); rintro e0 w9 ⟨C4, f4, ds2, rfl, q4, r4, h9⟩; have k9 := k8.trans h9)
            | (at_builtin; refine wpList_append_rows (by rfl) _ _ 32 rfl w7.heap.size 47 i1 (.agg #[.int .i64 0, .string ⟨#[]⟩, .bool false, .slice none 0 0, .int .i64 0, .bool false, .slice none 0 0, .int .i64 0]) 8 104 Tryz.underlying32 HI.out HJ0.out HJ1.out HJ2.out rfl (by decide) (.slice C3 n1 f3) n1 ds1 rfl (owns_since q3 h9) w8.heap.size 47 (.slice C4 n2 f4) n2 ds2 rfl q4 (Rws.one (fun x u h => QIq.one h) r4) ?c1 ?c2 ?c3 ?_))
            case c1 => have := H50.out; unfold maxLen; omega
            case c2 => have := H50.out; omega
            case c3 => exact (h8.trans h9).size
            intro v10 w10 ho10 hg10 hat10
            have h10 : Since w7 w10 := Below.grown (h8.trans h9) hg10 (h8.trans h9).size (fun g hg => (q3.lt g hg).1)
            have rr : Rws 8 (QIq noG w10) (l1.map nI ++ l2.map nI) (ds1 ++ ds2) :=
              (((r3.since (stIq _) h9).mono (fun x u => QIq.less (G' := fun b => (Value.slice C3 n1 f3).ownBlock = some b) (fun b hb => .inl (.inr hb)))).append (r4.mono (fun x u => QIq.less (fun b hb => .inl (.inl hb))))).mono (fun x u h => QIq.grow hg10 (fun b hb => hb) (fun b hb => hb.elim) h)
            rw [← List.map_append, ← HL.out] at rr
            rw [← NN.out] at ho10
            have hq3 := Sl.own ho10 rr (by rw [List.length_map, HN.out])
            obtain ⟨C5, f5, rfl⟩ := owns_slice ho10
            have k10 := k7.trans h10
            clear ho10 hg10 hat10 rr r3 r4
            go_wp2_with (go_at_call 9; (with_reducible refine (T3.out C5 f5 _ (OK.out _ k10) hq3).mono ?_); rintro e0 w11 ⟨rfl, h11⟩; have k11 := k10.trans h11)
            go_ret
            exact ⟨rfl, k11⟩
        · have zg : (g != 0) = true := by rw [bne_iff_ne]; exact sb.1 (.inr hf)
          have zf : (f != 0) = true := by rw [bne_iff_ne]; exact hf
          clear sb hf
          go_wp2_with (first
          | (go_at_call 10; (with_reducible refine (all_at A1 n1 c1 l1 _ (HV1.out.since (stIq _) hw) HS1.out HN1.out (by have := H50.out; omega)).mono ?_); rintro e0 w4 ⟨C1, f1, rfl, hq1, h4⟩; have k4 := hw.trans h4)
          | (go_at_call 9; (with_reducible refine (T1.out C1 f1 _ (OK.out _ k4) hq1).mono ?_); rintro e0 w5 ⟨rfl, h5⟩; have k5 := k4.trans h5)
          | (go_at_call 10; (with_reducible refine (all_at A2 n2 c2 l2 _ (HV2.out.since (stIq _) k5) HS2.out HN2.out (by have := H50.out; omega)).mono ?_); rintro e0 w6 ⟨C2, f2, rfl, hq2, h6⟩; have k6 := k5.trans h6)
          | (go_at_call 9; (with_reducible refine (T2.out C2 f2 _ (OK.out _ k6) hq2).mono ?_); rintro e0 w7 ⟨rfl, h7⟩; have k7 := k6.trans h7)
          | (go_at_call 10; (with_reducible refine (all_rows noG A1 n1 c1 l1 _ (HV1.out.since (stIq _) k7) (fun b hb => hb.elim) HS1.out HN1.out (by have := H50.out; omega)).mono ?_); rintro e0 w8 ⟨C3, f3, ds1, rfl, q3, r3, h8⟩; have k8 := k7.trans h8; have y8 : Sl 8 (QIq (fun b => (Value.slice C3 n1 f3).ownBlock = some b)) w8 (.slice A2 n2 c2) l2 := (HV2.out.mono (fun x u => QIq.less (fun b hb => .inr (Nat.le_trans k7.size (q3.lt b hb).1)))).since (stIq _) k8)
          | (go_at_call 10; (with_reducible refine (all_rows (fun b => (Value.slice C3 n1 f3).ownBlock = some b) A2 n2 c2 l2 _ y8 (fun b hb => (q3.lt b hb).2) HS2.out HN2.out (by have := H50.out; omega)).mono ?_); rintro e0 w9 ⟨C4, f4, ds2, rfl, q4, r4, h9⟩; have k9 := k8.trans h9)
          | (at_builtin; refine wpList_append_rows (by rfl) _ _ 32 rfl w7.heap.size 47 i1 (.agg #[.int .i64 0, .string ⟨#[]⟩, .bool false, .slice none 0 0, .int .i64 0, .bool false, .slice none 0 0, .int .i64 0]) 8 104 Tryz.underlying32 HI.out HJ0.out HJ1.out HJ2.out rfl (by decide) (.slice C3 n1 f3) n1 ds1 rfl (owns_since q3 h9) w8.heap.size 47 (.slice C4 n2 f4) n2 ds2 rfl q4 (Rws.one (fun x u h => QIq.one h) r4) ?c1 ?c2 ?c3 ?_))
          case c1 => have := H50.out; unfold maxLen; omega
          case c2 => have := H50.out; omega
          case c3 => exact (h8.trans h9).size
          intro v10 w10 ho10 hg10 hat10
          have h10 : Since w7 w10 := Below.grown (h8.trans h9) hg10 (h8.trans h9).size (fun g hg => (q3.lt g hg).1)
          have rr : Rws 8 (QIq noG w10) (l1.map nI ++ l2.map nI) (ds1 ++ ds2) :=
            (((r3.since (stIq _) h9).mono (fun x u => QIq.less (G' := fun b => (Value.slice C3 n1 f3).ownBlock = some b) (fun b hb => .inl (.inr hb)))).append (r4.mono (fun x u => QIq.less (fun b hb => .inl (.inl hb))))).mono (fun x u h => QIq.grow hg10 (fun b hb => hb) (fun b hb => hb.elim) h)
          rw [← List.map_append, ← HL.out] at rr
          rw [← NN.out] at ho10
          have hq3 := Sl.own ho10 rr (by rw [List.length_map, HN.out])
          obtain ⟨C5, f5, rfl⟩ := owns_slice ho10
          have k10 := k7.trans h10
          clear ho10 hg10 hat10 rr r3 r4
          go_wp2_with (go_at_call 9; (with_reducible refine (T3.out C5 f5 _ (OK.out _ k10) hq3).mono ?_); rintro e0 w11 ⟨rfl, h11⟩; have k11 := k10.trans h11)
          go_ret
          exact ⟨rfl, k11⟩
      · have zg : (g != 0) = true := by rw [bne_iff_ne]; exact sb.1 (.inl he)
        have ze : (e != 0) = true := by rw [bne_iff_ne]; exact he
        clear sb he
        go_wp2_with (first
        | (go_at_call 10; (with_reducible refine (all_at A1 n1 c1 l1 _ (HV1.out.since (stIq _) hw) HS1.out HN1.out (by have := H50.out; omega)).mono ?_); rintro e0 w4 ⟨C1, f1, rfl, hq1, h4⟩; have k4 := hw.trans h4)
        | (go_at_call 9; (with_reducible refine (T1.out C1 f1 _ (OK.out _ k4) hq1).mono ?_); rintro e0 w5 ⟨rfl, h5⟩; have k5 := k4.trans h5)
        | (go_at_call 10; (with_reducible refine (all_at A2 n2 c2 l2 _ (HV2.out.since (stIq _) k5) HS2.out HN2.out (by have := H50.out; omega)).mono ?_); rintro e0 w6 ⟨C2, f2, rfl, hq2, h6⟩; have k6 := k5.trans h6)
        | (go_at_call 9; (with_reducible refine (T2.out C2 f2 _ (OK.out _ k6) hq2).mono ?_); rintro e0 w7 ⟨rfl, h7⟩; have k7 := k6.trans h7)
        | (go_at_call 10; (with_reducible refine (all_rows noG A1 n1 c1 l1 _ (HV1.out.since (stIq _) k7) (fun b hb => hb.elim) HS1.out HN1.out (by have := H50.out; omega)).mono ?_); rintro e0 w8 ⟨C3, f3, ds1, rfl, q3, r3, h8⟩; have k8 := k7.trans h8; have y8 : Sl 8 (QIq (fun b => (Value.slice C3 n1 f3).ownBlock = some b)) w8 (.slice A2 n2 c2) l2 := (HV2.out.mono (fun x u => QIq.less (fun b hb => .inr (Nat.le_trans k7.size (q3.lt b hb).1)))).since (stIq _) k8)
        | (go_at_call 10; (with_reducible refine (all_rows (fun b => (Value.slice C3 n1 f3).ownBlock = some b) A2 n2 c2 l2 _ y8 (fun b hb => (q3.lt b hb).2) HS2.out HN2.out (by have := H50.out; omega)).mono ?_); rintro e0 w9 ⟨C4, f4, ds2, rfl, q4, r4, h9⟩; have k9 := k8.trans h9)
        | (at_builtin; refine wpList_append_rows (by rfl) _ _ 32 rfl w7.heap.size 47 i1 (.agg #[.int .i64 0, .string ⟨#[]⟩, .bool false, .slice none 0 0, .int .i64 0, .bool false, .slice none 0 0, .int .i64 0]) 8 104 Tryz.underlying32 HI.out HJ0.out HJ1.out HJ2.out rfl (by decide) (.slice C3 n1 f3) n1 ds1 rfl (owns_since q3 h9) w8.heap.size 47 (.slice C4 n2 f4) n2 ds2 rfl q4 (Rws.one (fun x u h => QIq.one h) r4) ?c1 ?c2 ?c3 ?_))
        case c1 => have := H50.out; unfold maxLen; omega
        case c2 => have := H50.out; omega
        case c3 => exact (h8.trans h9).size
        intro v10 w10 ho10 hg10 hat10
        have h10 : Since w7 w10 := Below.grown (h8.trans h9) hg10 (h8.trans h9).size (fun g hg => (q3.lt g hg).1)
        have rr : Rws 8 (QIq noG w10) (l1.map nI ++ l2.map nI) (ds1 ++ ds2) :=
          (((r3.since (stIq _) h9).mono (fun x u => QIq.less (G' := fun b => (Value.slice C3 n1 f3).ownBlock = some b) (fun b hb => .inl (.inr hb)))).append (r4.mono (fun x u => QIq.less (fun b hb => .inl (.inl hb))))).mono (fun x u h => QIq.grow hg10 (fun b hb => hb) (fun b hb => hb.elim) h)
        rw [← List.map_append, ← HL.out] at rr
        rw [← NN.out] at ho10
        have hq3 := Sl.own ho10 rr (by rw [List.length_map, HN.out])
        obtain ⟨C5, f5, rfl⟩ := owns_slice ho10
        have k10 := k7.trans h10
        clear ho10 hg10 hat10 rr r3 r4
        go_wp2_with (go_at_call 9; (with_reducible refine (T3.out C5 f5 _ (OK.out _ k10) hq3).mono ?_); rintro e0 w11 ⟨rfl, h11⟩; have k11 := k10.trans h11)
        go_ret
        exact ⟨rfl, k11⟩
end Go.Proofs.YtioicmmebmhdgaaGreatDoor.Law07
