/- What is asked of parse.Text: that it says what the document says. What exprs of layer 6's law gives back: the same expressions. What Ours of layer 6's law gives back: the same items, in a row of the call's own. What the document's own exprs of layer 6 gives back where the expressions are the same. What the document's own Same of layer 6 gives back where the items are the same. Calls of Ours and Same, in letters. -/
import Derived.Test.YtioicmmebmhdgaaGreatDoorAp6
import Derived.Test.YtioicmmebmhdgaaGreatDoorVp
import Derived.Test.YtioicmmebmhdgaaGreatDoorTi
import Derived.Maps.AppendAt
import Derived.Deep.DeepCutAuto
import Derived.Test.YtioicmmebmhdgaaGreatDoorReg
import Derived.RegionTactic
import Derived.ChangeAlike
import Derived.BigRegion
namespace Go.Proofs.YtioicmmebmhdgaaGreatDoor.Law06
open Go.RowKit
set_option linter.unusedVariables false
set_option linter.unusedSimpArgs false
open Go.Proofs.YtioicmmebmhdgaaGreatDoor.Dig Go.Proofs.YtioicmmebmhdgaaGreatDoor.Lx Go.Proofs.YtioicmmebmhdgaaGreatDoor.Tk Go.Proofs.YtioicmmebmhdgaaGreatDoor.Ps Go.Proofs.YtioicmmebmhdgaaGreatDoor.Ti

/-- ends as the document says: items, a place, an error -/
def RetP (r : List It × Int × Int) (w : World) (x : Ending) (w' : World) : Prop :=
  ∃ A c, x = .returned (.tuple #[.slice A r.1.length c, .int .i64 r.2.1, .int .i64 r.2.2]) ∧ Items w' (.slice A r.1.length c) r.1 ∧ Since w w'
/-- Text says what the document says, in every world that is Ok -/
def TextSays (Ok : World → Prop) : Prop :=
  (∀ w w', Ok w → Since w w' → Ok w') ∧ ∀ (s : ByteArray) (w : World), s.size ≤ 10000 → Ok w → Calls Tryz.prog 12 #[.string s] w (RetP (textD s) w)
/-- a call of Text, in letters -/
theorem text_at {Ok : World → Prop} (T : TextSays Ok) (s : ByteArray) (hs : s.size ≤ 10000) {l : List It} {p e : Int} {n : Nat} (hr : textD s = (l, p, e)) (hn : l.length = n) (w : World) (ok : Ok w) :
    Calls Tryz.prog 12 #[.string s] w fun x w' => ∃ A c, x = .returned (.tuple #[.slice A n c, .int .i64 p, .int .i64 e]) ∧ Items w' (.slice A n c) l ∧ Since w w' := by
  have h := T.2 s w hs ok
  rw [hr] at h
  subst hn
  exact h
end Go.Proofs.YtioicmmebmhdgaaGreatDoor.Law06

namespace Go.Proofs.YtioicmmebmhdgaaGreatDoor.Law06
open Go.RowKit
set_option linter.unusedVariables false
set_option linter.unusedSimpArgs false
open Go.Proofs.YtioicmmebmhdgaaGreatDoor.Dig Go.Proofs.YtioicmmebmhdgaaGreatDoor.Lx Go.Proofs.YtioicmmebmhdgaaGreatDoor.Tk Go.Proofs.YtioicmmebmhdgaaGreatDoor.Ps Go.Proofs.YtioicmmebmhdgaaGreatDoor.Ti

theorem info_rexpr : (Tryz.prog.info? 50).map (fun i => (i.zero, i.size, i.bytes)) = some (some (.agg #[.int .i64 0, .int .i64 0, .string ⟨#[]⟩, .slice none 0 0]), 4, 56) := by kernel_rfl
/-- ends with a slice that reads as these expressions -/
def RetX (xs : List Xp) (w : World) (x : Ending) (w' : World) : Prop := ∃ A c, x = .returned (.slice A xs.length c) ∧ Sl 4 (QX (fun b => b < w.heap.size)) w' (.slice A xs.length c) xs ∧ FarO (fun b => b < w.heap.size) (.slice A xs.length c) ∧ Since w w'
set_option maxRecDepth 100000 in
set_option maxHeartbeats 4000000 in
theorem exprs_any (v : Value) (xs : List Xp) (w : World) (h : Exprs w v xs) (hn : xs.length ≤ 10000) (hm : ∀ x ∈ xs, x.l.length ≤ 10000) :
    Calls Tryz.prog 25 #[v] w (RetX xs w) := by
  have H := Lib.hid h
  obtain ⟨A0, c0, rfl⟩ := h.form
  clear h
  obtain ⟨i0, hi, hz0, hz1, hz2⟩ := info_parts info_rexpr
  obtain ⟨n, hnn⟩ : ∃ n, n = xs.length := ⟨_, rfl⟩
  rw [← hnn] at H hn
  rw [← hnn]
  have HN := Lib.hid hnn
  have HM := Lib.hid hm
  clear hnn hm
  go_enter Tryz.func25, Tryz.ntmps25
  go_wp2
  go_loopw [3, 12] (fun out i wr => ∃ (k : Nat) (A : Option Addr) (c : Nat) (cs : List Value), k ≤ n ∧ i = .int .i64 (k : Int) ∧ out = .slice A k c ∧ Hid (wr.ownsRow w.heap.size 50 4 (.slice A k c) k cs) ∧ Hid (Rws 4 (QX (own (fun b => b < w.heap.size) (.slice A k c)) wr) (xs.take k) cs) ∧ Since w wr) (fun _ i _ => n - (intOf i).toNat)
  case atStart => exact ⟨0, none, 0, [], Nat.zero_le _, rfl, rfl, World.ownsRow_nil _ _ _ _, .nil, Since.refl _⟩
  case round =>
    obtain ⟨k, A, c, cs, hk, rfl, rfl, HO, HR, hw⟩ := hrel
    by_cases hlt : k < n
    · have hkx : k < xs.length := by have := HN.out; omega
      obtain ⟨b, o, A1, c1, rfl, hs, h1, h2, h3, h4⟩ := elX (H.out.since (stX _) hw) hkx
      have hst := takeR hkx
      have hml := HM.out xs[k] (List.getElem_mem hkx)
      obtain ⟨x, hx⟩ : ∃ x, x = xs[k] := ⟨_, rfl⟩
      rw [← hx] at hs h1 h2 h3 h4 hst hml
      obtain ⟨kx, nx, sx, lx⟩ := x
      simp only at hs h1 h2 h3 h4 hml
      obtain ⟨m, hmm⟩ : ∃ m, m = lx.length := ⟨_, rfl⟩
      rw [← hmm] at hs h4 hml
      have HT := Lib.hid hst
      have HS := Lib.hid hs
      have HMM := Lib.hid hmm
      clear hst hx hs hmm hkx
      obtain ⟨W, hW⟩ : ∃ W, W = wr := ⟨_, rfl⟩
      subst hW
      go_wp2
      go_loopw [6, 19] (fun inn j w2 => ∃ (q : Nat) (B : Option Addr) (d : Nat) (ds : List Value), q ≤ m ∧ j = .int .i64 (q : Int) ∧ inn = .slice B q d ∧ Hid (w2.ownsRow (W.heap.size + 1) 50 4 (.slice B q d) q ds) ∧ Hid (Rws 4 (QP w2) (lx.take q) ds) ∧ Since W w2 ∧ W.heap.size + 1 ≤ w2.heap.size ∧ Hid (Box w2 W.heap.size [.int .i64 kx, .int .i64 nx, .string sx, .slice A1 m c1])) (fun _ j _ => m - (intOf j).toNat)
      case atStart => exact ⟨0, none, 0, [], Nat.zero_le _, rfl, rfl, World.ownsRow_nil _ _ _ _, .nil, (Since.refl _).alloc _, by simp, Box.new _ [.int .i64 kx, .int .i64 nx, .string sx, .slice A1 m c1] _⟩
      case round =>
        obtain ⟨q, B, d, ds, hq, rfl, rfl, HB, HD, hw2, hsz, HX⟩ := hrel
        by_cases hlt2 : q < m
        · have hqx : q < lx.length := by have := HMM.out; omega
          obtain ⟨b2, o2, A3, c3, rfl, g1, g2, g3, g4⟩ := elP (HS.out.since stP hw2) hqx
          have hst2 := takeR hqx
          obtain ⟨y, hy⟩ : ∃ y, y = lx[q] := ⟨_, rfl⟩
          rw [← hy] at g1 g2 g3 hst2
          have HT2 := Lib.hid hst2
          clear hst2 hy hqx
          go_wp2_with (at_builtin; refine wpList_append_own _ rfl _ _ 26 rfl (W.heap.size + 1) 50 i0 (.agg #[.int .i64 0, .int .i64 0, .string ⟨#[]⟩, .slice none 0 0]) 4 56 Tryz.underlying26 hi hz0 hz1 hz2 rfl (by decide) _ _ _ rfl (owns_since HB.out ((((Since.refl wr).alloc _).alloc _).alloc _)) ⟨wr.heap.size + 2, 0, none⟩ 1 1 [.int .i64 y.k, .int .i64 y.n, .string y.s, .slice none 0 0] rfl rfl ?c1 ?c2 ?c3 ?c4 ?c5 ?_)
          case c1 =>
            intro j u hj
            exact cell_new _ _ _ (by simp) (by simpa using hj)
          case c2 => intro u hu; simp at hu; rcases hu with rfl | rfl | rfl | rfl <;> rfl
          case c3 => unfold maxLen; omega
          case c4 => omega
          case c5 => simp; omega
          intro v' w3 hown' hgrow _
          have hb : Below (W.heap.size + 1) wr w3 := Below.grown ((((Below.refl (W.heap.size + 1) wr).alloc hsz _).alloc (by simp; omega) _).alloc (by simp; omega) _) hgrow (by simp; omega) (fun g hg => (HB.out.lt g hg).1)
          have hs3 : Since W w3 := Below.trans hw2 (Below.mono hb (by omega))
          have hsz3 := hb.size
          have ho1 : w3.ownsRow (W.heap.size + 1) 50 4 v' (q + 1) (ds ++ [.int .i64 y.k, .int .i64 y.n, .string y.s, .slice none 0 0]) := hown'
          clear hown' hgrow
          obtain ⟨B', d', rfl⟩ := owns_slice ho1
          have HB1 := Lib.hid ho1
          clear ho1
          go_wp2
          go_roundw
          case rel =>
            refine ⟨q + 1, B', d', _, by omega, by go_num, rfl, HB1.out, ?_, hs3, by omega, HX.out.below hb (by omega)⟩
            rw [HT2.out]
            exact (HD.out.mono fun x u h => h).snoc ⟨none, 0, rfl⟩ rfl
          case measure => simp [intOf]; omega
        · obtain rfl : q = m := by omega
          have e : lx.take q = lx := List.take_of_length_le (by have := HMM.out; omega)
          rw [e] at HD
          clear e
          obtain ⟨x1, x2, x3, x4⟩ := HX.out.four
          have HX' := HX
          clear HX
          go_wp2_with (at_builtin; refine wpList_append_own_at _ rfl _ _ 26 rfl w.heap.size 50 i0 (.agg #[.int .i64 0, .int .i64 0, .string ⟨#[]⟩, .slice none 0 0]) 4 56 Tryz.underlying26 hi hz0 hz1 hz2 rfl (by decide) _ _ _ rfl (owns_since HO.out (hw2.alloc _)) ⟨wr.heap.size, 0, none⟩ 1 1 [.int .i64 kx, .int .i64 nx, .string sx, .slice B q d] rfl rfl ?c1 ?c2 ?c3 ?c4 ?c5 ?_)
          case c1 =>
            intro j u hj
            exact cell_new _ _ _ rfl (by simpa using hj)
          case c2 => intro u hu; simp at hu; rcases hu with rfl | rfl | rfl | rfl <;> rfl
          case c3 => unfold maxLen; omega
          case c4 => omega
          case c5 => have := hw.size; simp; omega
          intro v' w3 hown' hgrow _ hat
          have hxn : QX (own (fun b => b < w.heap.size) (.slice A k c)) wr ⟨kx, nx, sx, lx⟩ [.int .i64 kx, .int .i64 nx, .string sx, .slice B q d] :=
            ⟨_, rfl, Sl.own HB.out HD.out HMM.out, FarO.own HB.out (fun b hb => by have := hw.size; rcases hb with hb | hb; omega; have := (HO.out.lt b hb).2; omega)⟩
          have hr1 : Rws 4 (QX (own (fun b => b < w.heap.size) v') w3) (xs.take (k + 1)) (cs ++ [.int .i64 kx, .int .i64 nx, .string sx, .slice B q d]) := by
            rw [HT.out]
            exact Rws.mono (fun x u h => QX.grow hgrow own.has (own.app (hat.imp id fun e => e.trans (by simp))) h) (((HR.out.since (stX _) hw2).snoc hxn rfl).since (stX _) ((Since.refl wr).alloc _))
          have hs3 : Since w w3 := Below.grown ((hw.trans hw2).alloc _) hgrow (by have := hw.size; simp; omega) (fun g hg => (HO.out.lt g hg).1)
          have ho1 : w3.ownsRow w.heap.size 50 4 v' (k + 1) (cs ++ [.int .i64 kx, .int .i64 nx, .string sx, .slice B q d]) := hown'
          clear hown' hgrow hxn hat
          obtain ⟨A', c', rfl⟩ := owns_slice ho1
          have HO1 := Lib.hid ho1
          have HR1 := Lib.hid hr1
          clear ho1 hr1
          go_wp2
          go_roundw
          case rel => exact ⟨k + 1, A', c', _, by omega, by go_num, rfl, HO1.out, HR1.out, hs3⟩
          case measure => simp [intOf]; omega
    · obtain rfl : k = n := by omega
      have e : xs.take k = xs := List.take_of_length_le (by have := HN.out; omega)
      rw [e] at HR
      clear e
      go_wp2
      go_ret
      have hk2 := HN.out
      subst hk2
      exact ⟨A, c, rfl, (Sl.own HO.out HR.out rfl).mono (fun x u => QX.less (fun b hb => .inl (.inl hb))), FarO.own HO.out (fun b hb => hb), hw⟩
end Go.Proofs.YtioicmmebmhdgaaGreatDoor.Law06

namespace Go.Proofs.YtioicmmebmhdgaaGreatDoor.Law06
open Go.RowKit
set_option linter.unusedVariables false
set_option linter.unusedSimpArgs false
open Go.Proofs.YtioicmmebmhdgaaGreatDoor.Dig Go.Proofs.YtioicmmebmhdgaaGreatDoor.Lx Go.Proofs.YtioicmmebmhdgaaGreatDoor.Tk Go.Proofs.YtioicmmebmhdgaaGreatDoor.Ps Go.Proofs.YtioicmmebmhdgaaGreatDoor.Ti

theorem info_ritem : (Tryz.prog.info? 28).map (fun i => (i.zero, i.size, i.bytes)) = some (some (.agg #[.int .i64 0, .string ⟨#[]⟩, .bool false, .slice none 0 0, .int .i64 0, .bool false, .slice none 0 0, .int .i64 0]), 8, 104) := by kernel_rfl
/-- ends with a row of the call's own that reads as these items; what they hang on lies neither in it nor in G -/
def RetI (G : Nat → Prop) (xs : List It) (w : World) (x : Ending) (w' : World) : Prop :=
  ∃ A c cs, x = .returned (.slice A xs.length c) ∧ w'.ownsRow w.heap.size 28 8 (.slice A xs.length c) xs.length cs ∧ Rws 8 (QI (own G (.slice A xs.length c)) w') xs cs ∧ Since w w'
set_option maxRecDepth 100000 in
set_option maxHeartbeats 4000000 in
theorem ours_any (v : Value) (xs : List It) (w : World) (G : Nat → Prop) (h : Sl 8 (QI G) w v xs) (hG : ∀ b, G b → b < w.heap.size) (hn : xs.length ≤ 10000) (hm : ∀ x ∈ xs, x.vals.length ≤ 10000 ∧ ∀ y ∈ x.vals, y.l.length ≤ 10000) :
    Calls Tryz.prog 14 #[v] w (RetI G xs w) := by
  have H := Lib.hid h
  obtain ⟨A0, c0, rfl⟩ := h.form
  clear h
  obtain ⟨i0, hi, hz0, hz1, hz2⟩ := info_parts info_ritem
  obtain ⟨n, hnn⟩ : ∃ n, n = xs.length := ⟨_, rfl⟩
  rw [← hnn] at H hn
  rw [← hnn]
  have HN := Lib.hid hnn
  have HM := Lib.hid hm
  have HG := Lib.hid hG
  clear hnn hm hG
  go_enter Tryz.func14, Tryz.ntmps14
  go_wp2
  go_loopw [3, 8] (fun out i wr => ∃ (k : Nat) (A : Option Addr) (c : Nat) (cs : List Value), k ≤ n ∧ i = .int .i64 (k : Int) ∧ out = .slice A k c ∧ Hid (wr.ownsRow w.heap.size 28 8 (.slice A k c) k cs) ∧ Hid (Rws 8 (QI (own G (.slice A k c)) wr) (xs.take k) cs) ∧ Since w wr) (fun _ i _ => n - (intOf i).toNat)
  case atStart => exact ⟨0, none, 0, [], Nat.zero_le _, rfl, rfl, World.ownsRow_nil _ _ _ _, .nil, Since.refl _⟩
  case round =>
    obtain ⟨k, A, c, cs, hk, rfl, rfl, HO, HR, hw⟩ := hrel
    by_cases hlt : k < n
    · have hkx : k < xs.length := by have := HN.out; omega
      obtain ⟨b, o, A1, c1, A2, c2, rfl, hd, hdf, hv, h0, h1, h2, h3, h4, h5, h6, h7⟩ := elI2 H.out hw hkx
      have hst := takeR hkx
      have hml := HM.out xs[k] (List.getElem_mem hkx)
      obtain ⟨x, hx⟩ : ∃ x, x = xs[k] := ⟨_, rfl⟩
      rw [← hx] at hd hdf hv h0 h1 h2 h3 h4 h5 h6 h7 hst hml
      obtain ⟨ki, nm, bo, dm, sz, ou, vs, ak⟩ := x
      simp only at hd hdf hv h0 h1 h2 h3 h4 h5 h6 h7 hml
      obtain ⟨p, hp⟩ : ∃ p, p = dm.length := ⟨_, rfl⟩
      obtain ⟨m, hm⟩ : ∃ m, m = vs.length := ⟨_, rfl⟩
      rw [← hp] at hd hdf h3
      rw [← hm] at hv h6
      obtain ⟨W1, hW1⟩ : ∃ W1, W1 = wr.alloc (.cells #[.int .i64 ki, .string nm, .bool bo, .slice A1 p c1, .int .i64 sz, .bool ou, .slice A2 m c2, .int .i64 ak] 47) := ⟨_, rfl⟩
      have hs1 : Since wr W1 := by rw [hW1]; exact since_alloc _ _
      have hsz1 : W1.heap.size = wr.heap.size + 1 := by rw [hW1]; simp
      have HX := Lib.hid (fun W (k : Since W1 W) => Box.since (us := [.int .i64 ki, .string nm, .bool bo, .slice A1 p c1, .int .i64 sz, .bool ou, .slice A2 m c2, .int .i64 ak]) (by rw [hW1]; exact Box.new _ _ _) k)
      have C := Lib.hid (fun W (k : Since W1 W) => exprs_any (.slice A2 m c2) vs W (hv.since (stX _) ((hw.trans hs1).trans k)) hml.1 hml.2)
      have HT := Lib.hid hst
      have HD := Lib.hid hd
      have HDF := Lib.hid hdf
      have HMM := Lib.hid hm
      clear hst hx hkx hv hd hdf hml hp hm
      go_wp2
      rw [← hW1]
      have HW1 := Lib.hid hW1
      clear hW1
      have hr0 : Since W1 W1.drew := Since.drew (Since.refl W1)
      refine wp_region_noPanic ?_
      refine Reg.wp_region_G (S := fun _ => True) (fun j => [20, 21].contains j) (by kernel_rfl) trivial ?_
      refine' Reg.wpG_take (i := 0) (oi := { dst := some 12, op := Op.move (Operand.tmp 3), type := 22, pos := "law.go:38", after := #[], guard := none }) (v := _) [20, 21] [20, 21] rfl rfl (by kernel_rfl) (by kernel_rfl) (by kernel_rfl) (by kernel_rfl) (by kernel_rfl) (by kernel_rfl) (by kernel_rfl) (fun _ _ _ h => h) (Or.inl ⟨by rfl, Or.inl ?hy2⟩) ?rest2
      case hy2 => (intro w' kk ss; obtain ⟨q0, q1, q2, q3, q4, q5, q6, q7⟩ := (HX.out _ (hr0.trans kk)).eight; go_simp; first | done | with_reducible rfl)
      try simp only [Act.put, List.setIfInBounds_toArray, List.set_cons_zero, List.set_cons_succ]
      refine' Reg.wpG_take (i := 1) (oi := { dst := some 13, op := Op.fieldAddr 47 (Operand.tmp 5) 0, type := 0, pos := "law.go:38", after := #[], guard := none }) (v := _) [2, 18, 19, 20, 21] [20, 21] rfl rfl (by kernel_rfl) (by kernel_rfl) (by kernel_rfl) (by kernel_rfl) (by kernel_rfl) (by kernel_rfl) (by kernel_rfl) (fun _ _ _ h => h) (Or.inl ⟨by rfl, Or.inl ?hy3⟩) ?rest3
      case hy3 => (intro w' kk ss; obtain ⟨q0, q1, q2, q3, q4, q5, q6, q7⟩ := (HX.out _ (hr0.trans kk)).eight; go_simp; first | done | with_reducible rfl)
      try simp only [Act.put, List.setIfInBounds_toArray, List.set_cons_zero, List.set_cons_succ]
      refine' Reg.wpG_take (i := 2) (oi := { dst := some 14, op := Op.load 3 (Operand.tmp 13), type := 3, pos := "law.go:38", after := #[{ on := 1, ground := Ground.data }], guard := none }) (v := _) [18, 19, 20, 21] [20, 21] rfl rfl (by kernel_rfl) (by kernel_rfl) (by kernel_rfl) (by kernel_rfl) (by kernel_rfl) (by kernel_rfl) (by kernel_rfl) (fun _ _ _ h => h) (Or.inl ⟨by rfl, Or.inl ?hy4⟩) ?rest4
      case hy4 => (intro w' kk ss; obtain ⟨q0, q1, q2, q3, q4, q5, q6, q7⟩ := (HX.out _ (hr0.trans kk)).eight; go_simp; first | done | with_reducible rfl)
      try simp only [Act.put, List.setIfInBounds_toArray, List.set_cons_zero, List.set_cons_succ]
      refine' Reg.wpG_take (i := 3) (oi := { dst := some 15, op := Op.fieldAddr 47 (Operand.tmp 5) 1, type := 0, pos := "law.go:38", after := #[], guard := none }) (v := _) [4, 18, 19, 20, 21] [20, 21] rfl rfl (by kernel_rfl) (by kernel_rfl) (by kernel_rfl) (by kernel_rfl) (by kernel_rfl) (by kernel_rfl) (by kernel_rfl) (fun _ _ _ h => h) (Or.inl ⟨by rfl, Or.inl ?hy5⟩) ?rest5
      case hy5 => (intro w' kk ss; obtain ⟨q0, q1, q2, q3, q4, q5, q6, q7⟩ := (HX.out _ (hr0.trans kk)).eight; go_simp; first | done | with_reducible rfl)
      try simp only [Act.put, List.setIfInBounds_toArray, List.set_cons_zero, List.set_cons_succ]
      refine' Reg.wpG_take (i := 4) (oi := { dst := some 16, op := Op.load 9 (Operand.tmp 15), type := 9, pos := "law.go:38", after := #[{ on := 3, ground := Ground.data }], guard := none }) (v := _) [18, 19, 20, 21] [20, 21] rfl rfl (by kernel_rfl) (by kernel_rfl) (by kernel_rfl) (by kernel_rfl) (by kernel_rfl) (by kernel_rfl) (by kernel_rfl) (fun _ _ _ h => h) (Or.inl ⟨by rfl, Or.inl ?hy6⟩) ?rest6
      case hy6 => (intro w' kk ss; obtain ⟨q0, q1, q2, q3, q4, q5, q6, q7⟩ := (HX.out _ (hr0.trans kk)).eight; go_simp; first | done | with_reducible rfl)
      try simp only [Act.put, List.setIfInBounds_toArray, List.set_cons_zero, List.set_cons_succ]
      refine' Reg.wpG_take (i := 5) (oi := { dst := some 17, op := Op.fieldAddr 47 (Operand.tmp 5) 2, type := 0, pos := "law.go:38", after := #[], guard := none }) (v := _) [6, 18, 19, 20, 21] [20, 21] rfl rfl (by kernel_rfl) (by kernel_rfl) (by kernel_rfl) (by kernel_rfl) (by kernel_rfl) (by kernel_rfl) (by kernel_rfl) (fun _ _ _ h => h) (Or.inl ⟨by rfl, Or.inl ?hy7⟩) ?rest7
      case hy7 => (intro w' kk ss; obtain ⟨q0, q1, q2, q3, q4, q5, q6, q7⟩ := (HX.out _ (hr0.trans kk)).eight; go_simp; first | done | with_reducible rfl)
      try simp only [Act.put, List.setIfInBounds_toArray, List.set_cons_zero, List.set_cons_succ]
      refine' Reg.wpG_take (i := 6) (oi := { dst := some 18, op := Op.load 4 (Operand.tmp 17), type := 4, pos := "law.go:38", after := #[{ on := 5, ground := Ground.data }], guard := none }) (v := _) [18, 19, 20, 21] [20, 21] rfl rfl (by kernel_rfl) (by kernel_rfl) (by kernel_rfl) (by kernel_rfl) (by kernel_rfl) (by kernel_rfl) (by kernel_rfl) (fun _ _ _ h => h) (Or.inl ⟨by rfl, Or.inl ?hy8⟩) ?rest8
      case hy8 => (intro w' kk ss; obtain ⟨q0, q1, q2, q3, q4, q5, q6, q7⟩ := (HX.out _ (hr0.trans kk)).eight; go_simp; first | done | with_reducible rfl)
      try simp only [Act.put, List.setIfInBounds_toArray, List.set_cons_zero, List.set_cons_succ]
      refine' Reg.wpG_take (i := 7) (oi := { dst := some 19, op := Op.fieldAddr 47 (Operand.tmp 5) 3, type := 0, pos := "law.go:38", after := #[], guard := none }) (v := _) [8, 18, 19, 20, 21] [20, 21] rfl rfl (by kernel_rfl) (by kernel_rfl) (by kernel_rfl) (by kernel_rfl) (by kernel_rfl) (by kernel_rfl) (by kernel_rfl) (fun _ _ _ h => h) (Or.inl ⟨by rfl, Or.inl ?hy9⟩) ?rest9
      case hy9 => (intro w' kk ss; obtain ⟨q0, q1, q2, q3, q4, q5, q6, q7⟩ := (HX.out _ (hr0.trans kk)).eight; go_simp; first | done | with_reducible rfl)
      try simp only [Act.put, List.setIfInBounds_toArray, List.set_cons_zero, List.set_cons_succ]
      refine' Reg.wpG_take (i := 8) (oi := { dst := some 20, op := Op.load 25 (Operand.tmp 19), type := 25, pos := "law.go:38", after := #[{ on := 7, ground := Ground.data }], guard := none }) (v := _) [18, 19, 20, 21] [20, 21] rfl rfl (by kernel_rfl) (by kernel_rfl) (by kernel_rfl) (by kernel_rfl) (by kernel_rfl) (by kernel_rfl) (by kernel_rfl) (fun _ _ _ h => h) (Or.inl ⟨by rfl, Or.inl ?hy10⟩) ?rest10
      case hy10 => (intro w' kk ss; obtain ⟨q0, q1, q2, q3, q4, q5, q6, q7⟩ := (HX.out _ (hr0.trans kk)).eight; go_simp; first | done | with_reducible rfl)
      try simp only [Act.put, List.setIfInBounds_toArray, List.set_cons_zero, List.set_cons_succ]
      refine' Reg.wpG_take (i := 9) (oi := { dst := some 21, op := Op.fieldAddr 47 (Operand.tmp 5) 4, type := 0, pos := "law.go:38", after := #[], guard := none }) (v := _) [10, 18, 19, 20, 21] [20, 21] rfl rfl (by kernel_rfl) (by kernel_rfl) (by kernel_rfl) (by kernel_rfl) (by kernel_rfl) (by kernel_rfl) (by kernel_rfl) (fun _ _ _ h => h) (Or.inl ⟨by rfl, Or.inl ?hy11⟩) ?rest11
      case hy11 => (intro w' kk ss; obtain ⟨q0, q1, q2, q3, q4, q5, q6, q7⟩ := (HX.out _ (hr0.trans kk)).eight; go_simp; first | done | with_reducible rfl)
      try simp only [Act.put, List.setIfInBounds_toArray, List.set_cons_zero, List.set_cons_succ]
      refine' Reg.wpG_take (i := 10) (oi := { dst := some 22, op := Op.load 2 (Operand.tmp 21), type := 2, pos := "law.go:38", after := #[{ on := 9, ground := Ground.data }], guard := none }) (v := _) [18, 19, 20, 21] [20, 21] rfl rfl (by kernel_rfl) (by kernel_rfl) (by kernel_rfl) (by kernel_rfl) (by kernel_rfl) (by kernel_rfl) (by kernel_rfl) (fun _ _ _ h => h) (Or.inl ⟨by rfl, Or.inl ?hy12⟩) ?rest12
      case hy12 => (intro w' kk ss; obtain ⟨q0, q1, q2, q3, q4, q5, q6, q7⟩ := (HX.out _ (hr0.trans kk)).eight; go_simp; first | done | with_reducible rfl)
      try simp only [Act.put, List.setIfInBounds_toArray, List.set_cons_zero, List.set_cons_succ]
      refine' Reg.wpG_take (i := 11) (oi := { dst := some 23, op := Op.fieldAddr 47 (Operand.tmp 5) 5, type := 0, pos := "law.go:38", after := #[], guard := none }) (v := _) [12, 18, 19, 20, 21] [20, 21] rfl rfl (by kernel_rfl) (by kernel_rfl) (by kernel_rfl) (by kernel_rfl) (by kernel_rfl) (by kernel_rfl) (by kernel_rfl) (fun _ _ _ h => h) (Or.inl ⟨by rfl, Or.inl ?hy13⟩) ?rest13
      case hy13 => (intro w' kk ss; obtain ⟨q0, q1, q2, q3, q4, q5, q6, q7⟩ := (HX.out _ (hr0.trans kk)).eight; go_simp; first | done | with_reducible rfl)
      try simp only [Act.put, List.setIfInBounds_toArray, List.set_cons_zero, List.set_cons_succ]
      refine' Reg.wpG_take (i := 12) (oi := { dst := some 24, op := Op.load 4 (Operand.tmp 23), type := 4, pos := "law.go:38", after := #[{ on := 11, ground := Ground.data }], guard := none }) (v := _) [18, 19, 20, 21] [20, 21] rfl rfl (by kernel_rfl) (by kernel_rfl) (by kernel_rfl) (by kernel_rfl) (by kernel_rfl) (by kernel_rfl) (by kernel_rfl) (fun _ _ _ h => h) (Or.inl ⟨by rfl, Or.inl ?hy14⟩) ?rest14
      case hy14 => (intro w' kk ss; obtain ⟨q0, q1, q2, q3, q4, q5, q6, q7⟩ := (HX.out _ (hr0.trans kk)).eight; go_simp; first | done | with_reducible rfl)
      try simp only [Act.put, List.setIfInBounds_toArray, List.set_cons_zero, List.set_cons_succ]
      refine' Reg.wpG_take (i := 13) (oi := { dst := some 25, op := Op.fieldAddr 47 (Operand.tmp 5) 6, type := 0, pos := "law.go:38", after := #[], guard := none }) (v := _) [14, 15, 18, 19, 20, 21] [20, 21] rfl rfl (by kernel_rfl) (by kernel_rfl) (by kernel_rfl) (by kernel_rfl) (by kernel_rfl) (by kernel_rfl) (by kernel_rfl) (fun _ _ _ h => h) (Or.inl ⟨by rfl, Or.inl ?hy15⟩) ?rest15
      case hy15 => (intro w' kk ss; obtain ⟨q0, q1, q2, q3, q4, q5, q6, q7⟩ := (HX.out _ (hr0.trans kk)).eight; go_simp; first | done | with_reducible rfl)
      try simp only [Act.put, List.setIfInBounds_toArray, List.set_cons_zero, List.set_cons_succ]
      refine' Reg.wpG_take (i := 14) (oi := { dst := some 26, op := Op.load 45 (Operand.tmp 25), type := 45, pos := "law.go:38", after := #[{ on := 13, ground := Ground.data }], guard := none }) (v := _) [15, 18, 19, 20, 21] [20, 21] rfl rfl (by kernel_rfl) (by kernel_rfl) (by kernel_rfl) (by kernel_rfl) (by kernel_rfl) (by kernel_rfl) (by kernel_rfl) (fun _ _ _ h => h) (Or.inl ⟨by rfl, Or.inl ?hy16⟩) ?rest16
      case hy16 => (intro w' kk ss; obtain ⟨q0, q1, q2, q3, q4, q5, q6, q7⟩ := (HX.out _ (hr0.trans kk)).eight; go_simp; first | done | with_reducible rfl)
      try simp only [Act.put, List.setIfInBounds_toArray, List.set_cons_zero, List.set_cons_succ]
      refine' Reg.wpG_take (i := 16) (oi := { dst := some 28, op := Op.fieldAddr 47 (Operand.tmp 5) 7, type := 0, pos := "law.go:38", after := #[], guard := none }) (v := _) [17, 18, 19, 20, 21] [20, 21] rfl rfl (by kernel_rfl) (by kernel_rfl) (by kernel_rfl) (by kernel_rfl) (by kernel_rfl) (by kernel_rfl) (by kernel_rfl) (fun _ _ _ h => h) (Or.inl ⟨by rfl, Or.inl ?hy17⟩) ?rest17
      case hy17 => (intro w' kk ss; obtain ⟨q0, q1, q2, q3, q4, q5, q6, q7⟩ := (HX.out _ (hr0.trans kk)).eight; go_simp; first | done | with_reducible rfl)
      try simp only [Act.put, List.setIfInBounds_toArray, List.set_cons_zero, List.set_cons_succ]
      refine' Reg.wpG_take (i := 17) (oi := { dst := some 29, op := Op.load 3 (Operand.tmp 28), type := 3, pos := "law.go:38", after := #[{ on := 16, ground := Ground.data }], guard := none }) (v := _) [18, 19, 20, 21] [20, 21] rfl rfl (by kernel_rfl) (by kernel_rfl) (by kernel_rfl) (by kernel_rfl) (by kernel_rfl) (by kernel_rfl) (by kernel_rfl) (fun _ _ _ h => h) (Or.inl ⟨by rfl, Or.inl ?hy18⟩) ?rest18
      case hy18 => (intro w' kk ss; obtain ⟨q0, q1, q2, q3, q4, q5, q6, q7⟩ := (HX.out _ (hr0.trans kk)).eight; go_simp; first | done | with_reducible rfl)
      try simp only [Act.put, List.setIfInBounds_toArray, List.set_cons_zero, List.set_cons_succ]
      refine Reg.wpG_ready (rs := [15]) (by kernel_rfl) (by simp) (fun wq1001 k1001' sq1001 => ?_)
      have hr0 := hr0.trans k1001'
      refine Reg.AllG.first (o := { dst := some 27, op := Op.call { callee := Callee.value (Operand.func 25), args := #[Operand.tmp 26], argTypes := #[45] }, type := 26, pos := "law.go:38", after := #[{ on := 14, ground := Ground.data }], guard := none }) rfl (by rfl) (fun K hK => ?_) Reg.AllG.nil
      go_simp
      have hq1 := hr0.size
      (with_reducible refine (C.out _ hr0).mono ?_)
      rintro e y1001 ⟨A3, c3, rfl, hCall, hCf, hx⟩
      rw [← HMM.out]
      rw [← HMM.out] at hCall hCf
      refine hK.out _ _ trivial hx ?_
      clear hK K
      have hr0 := hr0.trans hx
      clear hx
      try simp only [Act.put, List.setIfInBounds_toArray, List.set_cons_zero, List.set_cons_succ]
      refine' Reg.wpG_take (i := 18) (oi := { dst := some 30, op := Op.build 28 #[(0, Operand.tmp 14), (1, Operand.tmp 16), (2, Operand.tmp 18), (3, Operand.tmp 20), (4, Operand.tmp 22), (5, Operand.tmp 24), (6, Operand.tmp 27), (7, Operand.tmp 29)], type := 28, pos := "law.go:38", after := #[{ on := 2, ground := Ground.data }, { on := 4, ground := Ground.data }, { on := 6, ground := Ground.data }, { on := 8, ground := Ground.data }, { on := 10, ground := Ground.data }, { on := 12, ground := Ground.data }, { on := 15, ground := Ground.data }, { on := 17, ground := Ground.data }], guard := none }) (v := _) [19, 20, 21] [20, 21] rfl rfl (by kernel_rfl) (by kernel_rfl) (by kernel_rfl) (by kernel_rfl) (by kernel_rfl) (by kernel_rfl) (by kernel_rfl) (fun _ _ _ h => h) (Or.inl ⟨by rfl, Or.inl ?hy19⟩) ?rest19
      case hy19 => (intro w' kk ss; obtain ⟨q0, q1, q2, q3, q4, q5, q6, q7⟩ := (HX.out _ (hr0.trans kk)).eight; go_simp; first | done | with_reducible rfl)
      try simp only [Act.put, List.setIfInBounds_toArray, List.set_cons_zero, List.set_cons_succ]
      refine Reg.wpG_ready (rs := [19]) (by kernel_rfl) (by simp) (fun wq1002 k1002' sq1002 => ?_)
      have hr0 := hr0.trans k1002'
      have hCall := hCall.since (stX _) k1002'
      refine Reg.AllG.first (o := { dst := some 31, op := Op.buildSlice 22 1 #[(0, Operand.tmp 30)], type := 22, pos := "law.go:38", after := #[{ on := 18, ground := Ground.data }], guard := none }) rfl (by rfl) (fun K hK => ?_) Reg.AllG.nil
      go_simp
      refine hK.out _ _ trivial (since_alloc _ _) ?_
      clear hK K
      have hr0 := hr0.trans (since_alloc wq1002 (.cells #[.int .i64 ki, .string nm, .bool bo, .slice A1 p c1, .int .i64 sz, .bool ou, .slice A3 m c3, .int .i64 ak] 28))
      have hCall := hCall.since (stX _) (since_alloc wq1002 (.cells #[.int .i64 ki, .string nm, .bool bo, .slice A1 p c1, .int .i64 sz, .bool ou, .slice A3 m c3, .int .i64 ak] 28))
      have hB := Box.new wq1002 [.int .i64 ki, .string nm, .bool bo, .slice A1 p c1, .int .i64 sz, .bool ou, .slice A3 m c3, .int .i64 ak] 28
      try simp only [Act.put, List.setIfInBounds_toArray, List.set_cons_zero, List.set_cons_succ]
      refine Reg.wpG_ready (rs := [20]) (by kernel_rfl) (by simp) (fun wq k1003' sq => ?_)
      have hCall := hCall.since (stX _) k1003'
      have hB := hB.since k1003'
      have hr0 := hr0.trans k1003'
      refine Reg.AllG.last (o := { dst := some 32, op := Op.call { callee := Callee.builtin Builtin.append, args := #[Operand.tmp 12, Operand.tmp 31], argTypes := #[22, 22] }, type := 22, pos := "law.go:38", after := #[{ on := 0, ground := Ground.data }, { on := 19, ground := Ground.data }, { on := 15, ground := Ground.chain }], guard := none }) rfl (by rfl) (fun K hK => ?_) Reg.AllG.nil
      have hsq : Since wr wq := hs1.trans hr0
      have hlt1 : ∀ b, own G (.slice A k c) b → b < wq1001.heap.size := fun b hb => by
        have := hs1.size
        have := hw.size
        rcases hb with hb | hb
        · have := HG.out b hb; omega
        · have := (HO.out.lt b hb).2; omega
      rw [if_pos (by rfl)]
      refine wp_append_at _ _ _ 22 rfl w.heap.size 28 i0 (.agg #[.int .i64 0, .string ⟨#[]⟩, .bool false, .slice none 0 0, .int .i64 0, .bool false, .slice none 0 0, .int .i64 0]) 8 104 Tryz.underlying22 hi hz0 hz1 hz2 rfl (by decide) (.slice A k c) _ _ rfl (owns_since HO.out hsq) ⟨_, 0, none⟩ 1 1 [.int .i64 ki, .string nm, .bool bo, .slice A1 p c1, .int .i64 sz, .bool ou, .slice A3 m c3, .int .i64 ak] rfl rfl hB.cells ?c2 ?c3 ?c4 ?c5 ?_
      case c2 => intro u hu; simp at hu; rcases hu with rfl | rfl | rfl | rfl | rfl | rfl | rfl | rfl <;> rfl
      case c3 => unfold maxLen; omega
      case c4 => omega
      case c5 => exact (hw.trans hsq).size
      intro v' w3 hown' hgrow hat
      refine hK.out _ _ trivial (fun hHeld => ?_)
      clear hK K
      have hxn : QI (own G (.slice A k c)) wq ⟨ki, nm, bo, dm, sz, ou, vs, ak⟩ [.int .i64 ki, .string nm, .bool bo, .slice A1 p c1, .int .i64 sz, .bool ou, .slice A3 m c3, .int .i64 ak] :=
        ⟨_, _, rfl, HD.out.since stR (hw.trans hsq), HDF.out.or (FarO.new (G := fun b => (Value.slice A k c).ownBlock = some b) HD.out (by decide) (fun b hb => (HO.out.lt b hb).1)),
          hCall.mono (fun x u => QX.less (fun b hb => .inl (hlt1 b hb))), hCf.mono hlt1⟩
      have hr1 : Rws 8 (QI (own G v') w3) (xs.take (k + 1)) (cs ++ [.int .i64 ki, .string nm, .bool bo, .slice A1 p c1, .int .i64 sz, .bool ou, .slice A3 m c3, .int .i64 ak]) := by
        rw [HT.out]
        exact Rws.mono (fun x u h => QI.grow hgrow own.has (own.app hat) h) ((HR.out.since (stI _) hsq).snoc hxn rfl)
      have hs3 : Since w w3 := Below.grown (hw.trans hsq) hgrow (hw.trans hsq).size (fun g hg => (HO.out.lt g hg).1)
      have ho1 : w3.ownsRow w.heap.size 28 8 v' (k + 1) (cs ++ [.int .i64 ki, .string nm, .bool bo, .slice A1 p c1, .int .i64 sz, .bool ou, .slice A3 m c3, .int .i64 ak]) := hown'
      clear hown' hgrow hxn hat
      obtain ⟨A', c', rfl⟩ := owns_slice ho1
      have HO1 := Lib.hid ho1
      have HR1 := Lib.hid hr1
      clear ho1 hr1 hB hCall hCf hlt1 hq1
      try simp only [Act.put, List.setIfInBounds_toArray, List.set_cons_zero, List.set_cons_succ]
      refine' wpAnyH_take (i := 21) (oi := { dst := some 3, op := Op.assign (Operand.tmp 32), type := 22, pos := "law.go:38", after := #[{ on := 20, ground := Ground.data }, { on := 20, ground := Ground.chain }, { on := 0, ground := Ground.phase }, { on := 1, ground := Ground.phase }, { on := 2, ground := Ground.phase }, { on := 3, ground := Ground.phase }, { on := 4, ground := Ground.phase }, { on := 5, ground := Ground.phase }, { on := 6, ground := Ground.phase }, { on := 7, ground := Ground.phase }, { on := 8, ground := Ground.phase }, { on := 9, ground := Ground.phase }, { on := 10, ground := Ground.phase }, { on := 11, ground := Ground.phase }, { on := 12, ground := Ground.phase }, { on := 13, ground := Ground.phase }, { on := 14, ground := Ground.phase }, { on := 15, ground := Ground.phase }, { on := 16, ground := Ground.phase }, { on := 17, ground := Ground.phase }, { on := 18, ground := Ground.phase }, { on := 19, ground := Ground.phase }, { on := 20, ground := Ground.phase }], guard := none }) (v := _) rfl (by kernel_rfl) (by kernel_rfl) (by kernel_rfl) (fun _ _ _ h => h) (Or.inl ⟨by rfl, ?hy20⟩) (by assumption) ?rest20
      case hy20 => (intro w' ss; (try dsimp only at ss); go_simp; first | done | with_reducible rfl)
      try simp only [Act.put, List.setIfInBounds_toArray, List.set_cons_zero, List.set_cons_succ]
      refine wpAnyH_done (by kernel_rfl) ?_ _
      refine NoPanic.normal ?_
      go_wp2
      go_roundw
      case rel => exact ⟨k + 1, A', c', _, by omega, by go_num, rfl, HO1.out, HR1.out, hs3⟩
      case measure => simp [intOf]; omega
    · obtain rfl : k = n := by omega
      have e : xs.take k = xs := List.take_of_length_le (by have := HN.out; omega)
      rw [e] at HR
      clear e
      go_wp2
      go_ret
      have hk2 := HN.out
      subst hk2
      exact ⟨A, c, cs, rfl, HO.out, HR.out, hw⟩
end Go.Proofs.YtioicmmebmhdgaaGreatDoor.Law06

namespace Go.Proofs.YtioicmmebmhdgaaGreatDoor.Ref06
open Go.RowKit
set_option linter.unusedVariables false
set_option linter.unusedSimpArgs false
open Go.Proofs.YtioicmmebmhdgaaGreatDoor.Dig Go.Proofs.YtioicmmebmhdgaaGreatDoor.Lx Go.Proofs.YtioicmmebmhdgaaGreatDoor.Tk Go.Proofs.YtioicmmebmhdgaaGreatDoor.Ps Go.Proofs.YtioicmmebmhdgaaGreatDoor.Ti

set_option maxRecDepth 100000 in
set_option maxHeartbeats 4000000 in
theorem exprs_same (va vb : Value) (xs : List Xp) (w : World) (ha : Exprs w va xs) (hb : Exprs w vb xs) (hn : xs.length ≤ 10000) (hm : ∀ x ∈ xs, x.l.length ≤ 10000) :
    Calls Tryz.prog 24 #[va, vb] w fun e w' => e = .returned (.bool true) ∧ Since w w' := by
  have HA := Lib.hid ha
  have HB := Lib.hid hb
  obtain ⟨A, c, rfl⟩ := ha.form
  obtain ⟨B, d, rfl⟩ := hb.form
  clear ha hb
  obtain ⟨n, hnn⟩ : ∃ n, n = xs.length := ⟨_, rfl⟩
  rw [← hnn] at HA HB hn ⊢
  have HN := Lib.hid hnn
  have HM := Lib.hid hm
  clear hnn hm
  go_enter Tryz.func24, Tryz.ntmps24
  go_wp2
  go_loopw [5] (fun i wr => ∃ k : Nat, k ≤ n ∧ i = .int .i64 (k : Int) ∧ Since w wr) (fun i _ => n - (intOf i).toNat)
  case atStart => exact ⟨0, Nat.zero_le _, rfl, Since.refl _⟩
  case round =>
    obtain ⟨k, hk, rfl, hw⟩ := hrel
    by_cases hlt : k < n
    · have hkx : k < xs.length := by have := HN.out; omega
      obtain ⟨b, o, A1, c1, rfl, hs, h1, h2, h3, h4⟩ := elX (HA.out.since (stX _) hw) hkx
      obtain ⟨b', o', A2, c2, rfl, hs', g1, g2, g3, g4⟩ := elX (HB.out.since (stX _) hw) hkx
      have hml := HM.out xs[k] (List.getElem_mem hkx)
      generalize xs[k] = x at *
      obtain ⟨kx, nx, sx, lx⟩ := x
      simp only at hs hs' h1 h2 h3 h4 g1 g2 g3 g4 hml
      obtain ⟨m, hmm⟩ : ∃ m, m = lx.length := ⟨_, rfl⟩
      rw [← hmm] at hs hs' h4 g4 hml
      have q1 : b < wr.heap.size := World.block_lt_of_cell? _ _ h1
      have q2 : b' < wr.heap.size := World.block_lt_of_cell? _ _ g1
      have q3 : b < wr.heap.size + 1 := by omega
      have q4 : b' < wr.heap.size + 1 := by omega
      have HS := Lib.hid hs
      have HS' := Lib.hid hs'
      have HMM := Lib.hid hmm
      clear hs hs' hmm hkx
      obtain ⟨W, hW⟩ : ∃ W, W = wr := ⟨_, rfl⟩
      subst hW
      go_wp2
      go_cut [6, 7] (fun p q W2 => ∃ x0 y0 : Nat, p = .pointer (some ⟨x0, 0, none⟩) ∧ q = .pointer (some ⟨y0, 0, none⟩) ∧ Since W W2 ∧ Hid (Box W2 x0 [.int .i64 kx, .int .i64 nx, .string sx, .slice A1 m c1]) ∧ Hid (Box W2 y0 [.int .i64 kx, .int .i64 nx, .string sx, .slice A2 m c2]))
      case first =>
        go_region
        all_goals
          go_wp2_with fail
          go_meet
          first
            | exact ⟨_, _, rfl, rfl, (Box.two W _ _ _ _).1, (Box.two W [.int .i64 kx, .int .i64 nx, .string sx, .slice A1 m c1] [.int .i64 kx, .int .i64 nx, .string sx, .slice A2 m c2] _ _).2.1, (Box.two W [.int .i64 kx, .int .i64 nx, .string sx, .slice A1 m c1] [.int .i64 kx, .int .i64 nx, .string sx, .slice A2 m c2] _ _).2.2⟩
            | exact ⟨_, _, rfl, rfl, (Box.two W _ _ _ _).1, (Box.two W [.int .i64 kx, .int .i64 nx, .string sx, .slice A2 m c2] [.int .i64 kx, .int .i64 nx, .string sx, .slice A1 m c1] _ _).2.2, (Box.two W [.int .i64 kx, .int .i64 nx, .string sx, .slice A2 m c2] [.int .i64 kx, .int .i64 nx, .string sx, .slice A1 m c1] _ _).2.1⟩
      case rest =>
        obtain ⟨x0, y0, rfl, rfl, hW2, BX, BY⟩ := hcut
        obtain ⟨k0, k1, k2, k3⟩ := BX.out.four
        obtain ⟨l0, l1, l2, l3⟩ := BY.out.four
        go_wp2
        clear k0 k1 k2 k3 l0 l1 l2 l3
        go_loopw [8] (fun j wr => ∃ q : Nat, q ≤ m ∧ j = .int .i64 (q : Int) ∧ Since wc wr) (fun j _ => m - (intOf j).toNat)
        case atStart => exact ⟨0, Nat.zero_le _, rfl, Since.refl _⟩
        case round =>
          obtain ⟨q, hq, rfl, hw3⟩ := hrel
          obtain ⟨k0, k1, k2, k3⟩ := (BX.out.since hw3).four
          obtain ⟨l0, l1, l2, l3⟩ := (BY.out.since hw3).four
          by_cases hlt2 : q < m
          · have hqx : q < lx.length := by have := HMM.out; omega
            obtain ⟨b2, o2, A3, c3, rfl, e0, e1, e2, e3⟩ := elP (HS.out.since stP (hW2.trans hw3)) hqx
            obtain ⟨b3, o3, A4, c4, rfl, f0, f1, f2, f3⟩ := elP (HS'.out.since stP (hW2.trans hw3)) hqx
            generalize lx[q] = y at *
            obtain ⟨ky, ny, sy⟩ := y
            simp only at e0 e1 e2 f0 f1 f2
            have q1 : b2 < wr.heap.size := World.block_lt_of_cell? _ _ e0
            have q2 : b3 < wr.heap.size := World.block_lt_of_cell? _ _ f0
            have q3 : b2 < wr.heap.size + 1 := by omega
            have q4 : b3 < wr.heap.size + 1 := by omega
            have q5 : x0 < wr.heap.size := World.block_lt_of_cell? _ _ k0
            have q6 : y0 < wr.heap.size := World.block_lt_of_cell? _ _ l0
            have q7 : x0 < wr.heap.size + 1 := by omega
            have q8 : y0 < wr.heap.size + 1 := by omega
            clear hqx
            obtain ⟨W, hW⟩ : ∃ W, W = wr := ⟨_, rfl⟩
            subst hW
            go_wp2
            go_cut [9, 10] (fun p q W2 => ∃ x1 y1 : Nat, p = .pointer (some ⟨x1, 0, none⟩) ∧ q = .pointer (some ⟨y1, 0, none⟩) ∧ Since W W2 ∧ Hid (Box W2 x1 [.int .i64 ky, .int .i64 ny, .string sy, .slice A3 0 c3]) ∧ Hid (Box W2 y1 [.int .i64 ky, .int .i64 ny, .string sy, .slice A4 0 c4]))
            case first =>
              go_region
              all_goals
                go_wp2_with fail
                go_meet
                first
                  | exact ⟨_, _, rfl, rfl, (Box.two W _ _ _ _).1, (Box.two W [.int .i64 ky, .int .i64 ny, .string sy, .slice A3 0 c3] [.int .i64 ky, .int .i64 ny, .string sy, .slice A4 0 c4] _ _).2.1, (Box.two W [.int .i64 ky, .int .i64 ny, .string sy, .slice A3 0 c3] [.int .i64 ky, .int .i64 ny, .string sy, .slice A4 0 c4] _ _).2.2⟩
                  | exact ⟨_, _, rfl, rfl, (Box.two W _ _ _ _).1, (Box.two W [.int .i64 ky, .int .i64 ny, .string sy, .slice A4 0 c4] [.int .i64 ky, .int .i64 ny, .string sy, .slice A3 0 c3] _ _).2.2, (Box.two W [.int .i64 ky, .int .i64 ny, .string sy, .slice A4 0 c4] [.int .i64 ky, .int .i64 ny, .string sy, .slice A3 0 c3] _ _).2.1⟩
            case rest =>
              clear k0 k1 k2 k3 l0 l1 l2 l3 e0 e1 e2 e3 f0 f1 f2 f3 q1 q2 q3 q4 q5 q6 q7 q8
              obtain ⟨x1, y1, rfl, rfl, hW4, DX, DY⟩ := hcut
              obtain ⟨k0, k1, k2, k3⟩ := DX.out.four
              obtain ⟨l0, l1, l2, l3⟩ := DY.out.four
              go_wp2
              go_roundw
              case rel => exact ⟨q + 1, by omega, by go_num, hw3.trans hW4⟩
              case measure => simp [intOf]; omega
          · obtain rfl : q = m := by omega
            go_wp2
            go_roundw
            case rel => exact ⟨k + 1, by omega, by go_num, (hw.trans hW2).trans hw3⟩
            case measure => simp [intOf]; omega
    · go_wp2
      go_ret
      exact ⟨rfl, hw⟩
end Go.Proofs.YtioicmmebmhdgaaGreatDoor.Ref06

namespace Go.Proofs.YtioicmmebmhdgaaGreatDoor.Ref06
open Go.RowKit
set_option linter.unusedVariables false
set_option linter.unusedSimpArgs false
open Go.Proofs.YtioicmmebmhdgaaGreatDoor.Dig Go.Proofs.YtioicmmebmhdgaaGreatDoor.Lx Go.Proofs.YtioicmmebmhdgaaGreatDoor.Tk Go.Proofs.YtioicmmebmhdgaaGreatDoor.Ps Go.Proofs.YtioicmmebmhdgaaGreatDoor.Ti

set_option maxRecDepth 100000 in
set_option maxHeartbeats 4000000 in
theorem same_items (va vb : Value) (xs : List It) (w : World) (ha : Items w va xs) (hb : Items w vb xs) (hn : xs.length ≤ 10000) (hm : ∀ x ∈ xs, x.dom.length ≤ 10000 ∧ x.vals.length ≤ 10000 ∧ ∀ y ∈ x.vals, y.l.length ≤ 10000) :
    Calls Tryz.prog 13 #[va, vb] w fun e w' => e = .returned (.bool true) ∧ Since w w' := by
  have HA := Lib.hid ha
  have HB := Lib.hid hb
  obtain ⟨A, c, rfl⟩ := ha.form
  obtain ⟨B, d, rfl⟩ := hb.form
  clear ha hb
  obtain ⟨n, hnn⟩ : ∃ n, n = xs.length := ⟨_, rfl⟩
  rw [← hnn] at HA HB hn ⊢
  have HN := Lib.hid hnn
  have HM := Lib.hid hm
  clear hnn hm
  go_enter Tryz.func13, Tryz.ntmps13
  go_wp2
  go_loopw [5] (fun i wr => ∃ k : Nat, k ≤ n ∧ i = .int .i64 (k : Int) ∧ Since w wr) (fun i _ => n - (intOf i).toNat)
  case atStart => exact ⟨0, Nat.zero_le _, rfl, Since.refl _⟩
  case round =>
    obtain ⟨k, hk, rfl, hw⟩ := hrel
    by_cases hlt : k < n
    · have hkx : k < xs.length := by have := HN.out; omega
      obtain ⟨b, o, A1, c1, A2, c2, rfl, hs, -, hv, h0, h1, h2, h3, h4, h5, h6, h7⟩ := elI2 HA.out hw hkx
      obtain ⟨b', o', B1, d1, B2, d2, rfl, hs', -, hv', g0, g1, g2, g3, g4, g5, g6, g7⟩ := elI2 HB.out hw hkx
      have hml := HM.out xs[k] (List.getElem_mem hkx)
      generalize xs[k] = x at *
      obtain ⟨ki, nm, bo, dm, sz, ou, vs, ak⟩ := x
      simp only at hs hs' hv hv' h0 h1 h2 h3 h4 h5 h6 h7 g0 g1 g2 g3 g4 g5 g6 g7 hml
      obtain ⟨p, hp⟩ : ∃ p, p = dm.length := ⟨_, rfl⟩
      obtain ⟨m, hm⟩ : ∃ m, m = vs.length := ⟨_, rfl⟩
      rw [← hp] at hs hs' h3 g3
      rw [← hm] at hv hv' h6 g6
      have q1 : b < wr.heap.size := World.block_lt_of_cell? _ _ h0
      have q2 : b' < wr.heap.size := World.block_lt_of_cell? _ _ g0
      have q3 : b < wr.heap.size + 1 := by omega
      have q4 : b' < wr.heap.size + 1 := by omega
      have hp1 : p ≤ 10000 := by have := hml.1; omega
      have HS := Lib.hid hs
      have HS' := Lib.hid hs'
      have EX := Lib.hid (fun W (k : Since wr W) => exprs_same (.slice A2 m c2) (.slice B2 m d2) vs W (hv.since (stX _) (hw.trans k)) (hv'.since (stX _) (hw.trans k)) hml.2.1 hml.2.2)
      have HP := Lib.hid hp
      clear hs hs' hv hv' hm hp hkx hml
      obtain ⟨W, hW⟩ : ∃ W, W = wr := ⟨_, rfl⟩
      subst hW
      go_wp2
      go_cut [6, 7] (fun P Q W2 => ∃ x0 y0 : Nat, P = .pointer (some ⟨x0, 0, none⟩) ∧ Q = .pointer (some ⟨y0, 0, none⟩) ∧ Since W W2 ∧ Hid (Box W2 x0 [.int .i64 ki, .string nm, .bool bo, .slice A1 p c1, .int .i64 sz, .bool ou, .slice A2 m c2, .int .i64 ak]) ∧ Hid (Box W2 y0 [.int .i64 ki, .string nm, .bool bo, .slice B1 p d1, .int .i64 sz, .bool ou, .slice B2 m d2, .int .i64 ak]))
      case first =>
        go_region
        all_goals
          go_wp2_with fail
          go_meet
          first
            | exact ⟨_, _, rfl, rfl, (Box.two W _ _ _ _).1, (Box.two W [.int .i64 ki, .string nm, .bool bo, .slice A1 p c1, .int .i64 sz, .bool ou, .slice A2 m c2, .int .i64 ak] [.int .i64 ki, .string nm, .bool bo, .slice B1 p d1, .int .i64 sz, .bool ou, .slice B2 m d2, .int .i64 ak] _ _).2.1, (Box.two W [.int .i64 ki, .string nm, .bool bo, .slice A1 p c1, .int .i64 sz, .bool ou, .slice A2 m c2, .int .i64 ak] [.int .i64 ki, .string nm, .bool bo, .slice B1 p d1, .int .i64 sz, .bool ou, .slice B2 m d2, .int .i64 ak] _ _).2.2⟩
            | exact ⟨_, _, rfl, rfl, (Box.two W _ _ _ _).1, (Box.two W [.int .i64 ki, .string nm, .bool bo, .slice B1 p d1, .int .i64 sz, .bool ou, .slice B2 m d2, .int .i64 ak] [.int .i64 ki, .string nm, .bool bo, .slice A1 p c1, .int .i64 sz, .bool ou, .slice A2 m c2, .int .i64 ak] _ _).2.2, (Box.two W [.int .i64 ki, .string nm, .bool bo, .slice B1 p d1, .int .i64 sz, .bool ou, .slice B2 m d2, .int .i64 ak] [.int .i64 ki, .string nm, .bool bo, .slice A1 p c1, .int .i64 sz, .bool ou, .slice A2 m c2, .int .i64 ak] _ _).2.1⟩
      case rest =>
        clear h0 h1 h2 h3 h4 h5 h6 h7 g0 g1 g2 g3 g4 g5 g6 g7 q1 q2 q3 q4
        obtain ⟨x0, y0, rfl, rfl, hW2, BX, BY⟩ := hcut
        obtain ⟨k0, k1, k2, k3, k4, k5, k6, k7⟩ := BX.out.eight
        obtain ⟨l0, l1, l2, l3, l4, l5, l6, l7⟩ := BY.out.eight
        go_wp2_with (go_at_call 24; (with_reducible refine (EX.out _ hW2).mono ?_); rintro e w4 ⟨rfl, hW3⟩)
        clear k0 k1 k2 k3 k4 k5 k6 k7 l0 l1 l2 l3 l4 l5 l6 l7
        go_loopw [8] (fun j wr => ∃ q : Nat, q ≤ p ∧ j = .int .i64 (q : Int) ∧ Since w4 wr) (fun j _ => p - (intOf j).toNat)
        case atStart => exact ⟨0, Nat.zero_le _, rfl, Since.refl _⟩
        case round =>
          obtain ⟨q, hq, rfl, hw3⟩ := hrel
          obtain ⟨k0, k1, k2, k3, k4, k5, k6, k7⟩ := (BX.out.since (hW3.trans hw3)).eight
          obtain ⟨l0, l1, l2, l3, l4, l5, l6, l7⟩ := (BY.out.since (hW3.trans hw3)).eight
          have hall := ((hw.trans hW2).trans hW3).trans hw3
          by_cases hlt2 : q < p
          · have hqx : q < dm.length := by have := HP.out; omega
            obtain ⟨b2, o2, rfl, e0, e1⟩ := elR (HS.out.since stR hall) hqx
            obtain ⟨b3, o3, rfl, f0, f1⟩ := elR (HS'.out.since stR hall) hqx
            generalize dm[q] = y at *
            obtain ⟨lo, hi⟩ := y
            simp only at e0 e1 f0 f1
            clear hqx
            go_wp2
            go_region
            all_goals
              go_wp2
              go_roundw
              case rel => exact ⟨q + 1, by omega, by go_num, hw3.drew⟩
              case measure => simp [intOf]; omega
          · obtain rfl : q = p := by omega
            go_wp2
            go_roundw
            case rel => exact ⟨k + 1, by omega, by go_num, hall⟩
            case measure => simp [intOf]; omega
    · go_wp2
      go_ret
      exact ⟨rfl, hw⟩
end Go.Proofs.YtioicmmebmhdgaaGreatDoor.Ref06

namespace Go.Proofs.YtioicmmebmhdgaaGreatDoor.Law06
open Go.RowKit
set_option linter.unusedVariables false
set_option linter.unusedSimpArgs false
open Go.Proofs.YtioicmmebmhdgaaGreatDoor.Dig Go.Proofs.YtioicmmebmhdgaaGreatDoor.Lx Go.Proofs.YtioicmmebmhdgaaGreatDoor.Tk Go.Proofs.YtioicmmebmhdgaaGreatDoor.Ps Go.Proofs.YtioicmmebmhdgaaGreatDoor.Ti

theorem ours_at (A0 : Option Addr) (c0 n : Nat) (xs : List It) (w : World) (G : Nat → Prop) (h : Sl 8 (QI G) w (.slice A0 n c0) xs) (hG : ∀ b, G b → b < w.heap.size) (hn : xs.length = n) (hl : n ≤ 10000) (hm : ∀ x ∈ xs, Bd x) :
    Calls Tryz.prog 14 #[.slice A0 n c0] w fun x w' => ∃ A c cs, x = .returned (.slice A n c) ∧ w'.ownsRow w.heap.size 28 8 (.slice A n c) n cs ∧ Rws 8 (QI (own G (.slice A n c)) w') xs cs ∧ Since w w' := by
  subst hn
  exact ours_any _ xs w G h hG hl (fun x hx => ⟨Nat.le_trans (hm x hx).2.1 (by decide), fun y hy => Nat.le_trans ((hm x hx).2.2 y hy) (by decide)⟩)
theorem same_at (A B : Option Addr) (n c d : Nat) (xs : List It) (w : World) (ha : Items w (.slice A n c) xs) (hb : Items w (.slice B n d) xs) (hl : n ≤ 10000) (hm : ∀ x ∈ xs, Bd x) :
    Calls Tryz.prog 13 #[.slice A n c, .slice B n d] w fun e w' => e = .returned (.bool true) ∧ Since w w' :=
  Ref06.same_items _ _ xs w ha hb (by have := ha.at_.1; omega) (fun x hx => ⟨Nat.le_trans (hm x hx).1 (by decide), Nat.le_trans (hm x hx).2.1 (by decide), fun y hy => Nat.le_trans ((hm x hx).2.2 y hy) (by decide)⟩)
end Go.Proofs.YtioicmmebmhdgaaGreatDoor.Law06
