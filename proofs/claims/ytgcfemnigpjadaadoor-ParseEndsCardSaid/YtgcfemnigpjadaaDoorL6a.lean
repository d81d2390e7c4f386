/- What exprs of layer 6's law gives back: the same expressions. -/
import Derived.Test.YtgcfemnigpjadaaDoorTi
import Derived.Maps.AppendAt
import Derived.Deep.DeepCutAuto
namespace Go.Proofs.YtgcfemnigpjadaaDoor.Law06
open Go.RowKit
set_option linter.unusedVariables false
set_option linter.unusedSimpArgs false
open Go.Proofs.YtgcfemnigpjadaaDoor.Dig Go.Proofs.YtgcfemnigpjadaaDoor.Lx Go.Proofs.YtgcfemnigpjadaaDoor.Tk Go.Proofs.YtgcfemnigpjadaaDoor.Ps Go.Proofs.YtgcfemnigpjadaaDoor.Ti

theorem info_rexpr : (Tryd.prog.info? 76).map (fun i => (i.zero, i.size, i.bytes)) = some (some (.agg #[.int .i64 0, .int .i64 0, .string ⟨#[]⟩, .slice none 0 0]), 4, 56) := by kernel_rfl
/-- ends with a slice that reads as these expressions -/
def RetX (xs : List Xp) (w : World) (x : Ending) (w' : World) : Prop := ∃ A c, x = .returned (.slice A xs.length c) ∧ Sl 4 (QX (fun b => b < w.heap.size)) w' (.slice A xs.length c) xs ∧ FarO (fun b => b < w.heap.size) (.slice A xs.length c) ∧ Since w w'
set_option maxRecDepth 100000 in
set_option maxHeartbeats 4000000 in
theorem exprs_any (v : Value) (xs : List Xp) (w : World) (h : Exprs w v xs) (hn : xs.length ≤ 10000) (hm : ∀ x ∈ xs, x.l.length ≤ 10000) :
    Calls Tryd.prog 18 #[v] w (RetX xs w) := by
  have H := Lib.hid h
  obtain ⟨A0, c0, rfl⟩ := h.form
  clear h
  obtain ⟨i0, hi, hz0, hz1, hz2⟩ := info_parts info_rexpr
  obtain ⟨n, hnn⟩ : ∃ n, n = xs.length := ⟨_, rfl⟩
  rw [← hnn] at H hn
  rw [← hnn]
  have HN := Lib.hid hnn
  have HM := Lib.hid hm
  clear hnn hm
  go_enter Tryd.func18, Tryd.ntmps18
  go_wp2
  go_loopw [3, 12] (fun out i wr => ∃ (k : Nat) (A : Option Addr) (c : Nat) (cs : List Value), k ≤ n ∧ i = .int .i64 (k : Int) ∧ out = .slice A k c ∧ Hid (wr.ownsRow w.heap.size 76 4 (.slice A k c) k cs) ∧ Hid (Rws 4 (QX (own (fun b => b < w.heap.size) (.slice A k c)) wr) (xs.take k) cs) ∧ Since w wr) (fun _ i _ => n - (intOf i).toNat)
  case atStart => exact ⟨0, none, 0, [], Nat.zero_le _, rfl, rfl, World.ownsRow_nil _ _ _ _, .nil, Since.refl _⟩
  case round =>
    obtain ⟨k, A, c, cs, hk, rfl, rfl, HO, HR, hw⟩ := hrel
    by_cases hlt : k < n
    · have hkx : k < xs.length := by have := HN.out; omega
      obtain ⟨b, o, A1, c1, rfl, hs, h1, h2, h3, h4⟩ := elX (H.out.since (stX _) hw) hkx
      have hst := takeR hkx
      have hml := HM.out xs[k] (List.getElem_mem hkx)
      obtain ⟨x, hx⟩ : ∃ x, x = xs[k] := ⟨_, rfl⟩
      rw [← hx] at hs h1 h2 h3 h4 hst hml
      obtain ⟨kx, nx, sx, lx⟩ := x
      simp only at hs h1 h2 h3 h4 hml
      obtain ⟨m, hmm⟩ : ∃ m, m = lx.length := ⟨_, rfl⟩
      rw [← hmm] at hs h4 hml
      have HT := Lib.hid hst
      have HS := Lib.hid hs
      have HMM := Lib.hid hmm
      clear hst hx hs hmm hkx
      obtain ⟨W, hW⟩ : ∃ W, W = wr := ⟨_, rfl⟩
      subst hW
      go_wp2
      go_loopw [6, 19] (fun inn j w2 => ∃ (q : Nat) (B : Option Addr) (d : Nat) (ds : List Value), q ≤ m ∧ j = .int .i64 (q : Int) ∧ inn = .slice B q d ∧ Hid (w2.ownsRow (W.heap.size + 1) 76 4 (.slice B q d) q ds) ∧ Hid (Rws 4 (QP w2) (lx.take q) ds) ∧ Since W w2 ∧ W.heap.size + 1 ≤ w2.heap.size ∧ Hid (Box w2 W.heap.size [.int .i64 kx, .int .i64 nx, .string sx, .slice A1 m c1])) (fun _ j _ => m - (intOf j).toNat)
      case atStart => exact ⟨0, none, 0, [], Nat.zero_le _, rfl, rfl, World.ownsRow_nil _ _ _ _, .nil, (Since.refl _).alloc _, by simp, Box.new _ [.int .i64 kx, .int .i64 nx, .string sx, .slice A1 m c1] _⟩
      case round =>
        obtain ⟨q, B, d, ds, hq, rfl, rfl, HB, HD, hw2, hsz, HX⟩ := hrel
        by_cases hlt2 : q < m
        · have hqx : q < lx.length := by have := HMM.out; omega
          obtain ⟨b2, o2, A3, c3, rfl, g1, g2, g3, g4⟩ := elP (HS.out.since stP hw2) hqx
          have hst2 := takeR hqx
          obtain ⟨y, hy⟩ : ∃ y, y = lx[q] := ⟨_, rfl⟩
          rw [← hy] at g1 g2 g3 hst2
          have HT2 := Lib.hid hst2
          clear hst2 hy hqx
          go_wp2_with (at_builtin; refine wpList_append_own _ rfl _ _ 49 rfl (W.heap.size + 1) 76 i0 (.agg #[.int .i64 0, .int .i64 0, .string ⟨#[]⟩, .slice none 0 0]) 4 56 Tryd.underlying49 hi hz0 hz1 hz2 rfl (by decide) _ _ _ rfl (owns_since HB.out ((((Since.refl wr).alloc _).alloc _).alloc _)) ⟨wr.heap.size + 2, 0, none⟩ 1 1 [.int .i64 y.k, .int .i64 y.n, .string y.s, .slice none 0 0] rfl rfl ?c1 ?c2 ?c3 ?c4 ?c5 ?_)
          case c1 =>
            intro j u hj
            exact cell_new _ _ _ (by simp) (by simpa using hj)
          case c2 => intro u hu; simp at hu; rcases hu with rfl | rfl | rfl | rfl <;> rfl
          case c3 => unfold maxLen; omega
          case c4 => omega
          case c5 => simp; omega
          intro v' w3 hown' hgrow _
          have hb : Below (W.heap.size + 1) wr w3 := Below.grown ((((Below.refl (W.heap.size + 1) wr).alloc hsz _).alloc (by simp; omega) _).alloc (by simp; omega) _) hgrow (by simp; omega) (fun g hg => (HB.out.lt g hg).1)
          have hs3 : Since W w3 := Below.trans hw2 (Below.mono hb (by omega))
          have hsz3 := hb.size
          have ho1 : w3.ownsRow (W.heap.size + 1) 76 4 v' (q + 1) (ds ++ [.int .i64 y.k, .int .i64 y.n, .string y.s, .slice none 0 0]) := hown'
          clear hown' hgrow
          obtain ⟨B', d', rfl⟩ := owns_slice ho1
          have HB1 := Lib.hid ho1
          clear ho1
          go_wp2
          go_roundw
          case rel =>
            refine ⟨q + 1, B', d', _, by omega, by go_num, rfl, HB1.out, ?_, hs3, by omega, HX.out.below hb (by omega)⟩
            rw [HT2.out]
            exact (HD.out.mono fun x u h => h).snoc ⟨none, 0, rfl⟩ rfl
          case measure => simp [intOf]; omega
        · obtain rfl : q = m := by omega
          have e : lx.take q = lx := List.take_of_length_le (by have := HMM.out; omega)
          rw [e] at HD
          clear e
          obtain ⟨x1, x2, x3, x4⟩ := HX.out.four
          have HX' := HX
          clear HX
          go_wp2_with (at_builtin; refine wpList_append_own_at _ rfl _ _ 49 rfl w.heap.size 76 i0 (.agg #[.int .i64 0, .int .i64 0, .string ⟨#[]⟩, .slice none 0 0]) 4 56 Tryd.underlying49 hi hz0 hz1 hz2 rfl (by decide) _ _ _ rfl (owns_since HO.out (hw2.alloc _)) ⟨wr.heap.size, 0, none⟩ 1 1 [.int .i64 kx, .int .i64 nx, .string sx, .slice B q d] rfl rfl ?c1 ?c2 ?c3 ?c4 ?c5 ?_)
          case c1 =>
            intro j u hj
            exact cell_new _ _ _ rfl (by simpa using hj)
          case c2 => intro u hu; simp at hu; rcases hu with rfl | rfl | rfl | rfl <;> rfl
          case c3 => unfold maxLen; omega
          case c4 => omega
          case c5 => have := hw.size; simp; omega
          intro v' w3 hown' hgrow _ hat
          have hxn : QX (own (fun b => b < w.heap.size) (.slice A k c)) wr ⟨kx, nx, sx, lx⟩ [.int .i64 kx, .int .i64 nx, .string sx, .slice B q d] :=
            ⟨_, rfl, Sl.own HB.out HD.out HMM.out, FarO.own HB.out (fun b hb => by have := hw.size; rcases hb with hb | hb; omega; have := (HO.out.lt b hb).2; omega)⟩
          have hr1 : Rws 4 (QX (own (fun b => b < w.heap.size) v') w3) (xs.take (k + 1)) (cs ++ [.int .i64 kx, .int .i64 nx, .string sx, .slice B q d]) := by
            rw [HT.out]
            exact Rws.mono (fun x u h => QX.grow hgrow own.has (own.app (hat.imp id fun e => e.trans (by simp))) h) (((HR.out.since (stX _) hw2).snoc hxn rfl).since (stX _) ((Since.refl wr).alloc _))
          have hs3 : Since w w3 := Below.grown ((hw.trans hw2).alloc _) hgrow (by have := hw.size; simp; omega) (fun g hg => (HO.out.lt g hg).1)
          have ho1 : w3.ownsRow w.heap.size 76 4 v' (k + 1) (cs ++ [.int .i64 kx, .int .i64 nx, .string sx, .slice B q d]) := hown'
          clear hown' hgrow hxn hat
          obtain ⟨A', c', rfl⟩ := owns_slice ho1
          have HO1 := Lib.hid ho1
          have HR1 := Lib.hid hr1
          clear ho1 hr1
          go_wp2
          go_roundw
          case rel => exact ⟨k + 1, A', c', _, by omega, by go_num, rfl, HO1.out, HR1.out, hs3⟩
          case measure => simp [intOf]; omega
    · obtain rfl : k = n := by omega
      have e : xs.take k = xs := List.take_of_length_le (by have := HN.out; omega)
      rw [e] at HR
      clear e
      go_wp2
      go_ret
      have hk2 := HN.out
      subst hk2
      exact ⟨A, c, rfl, (Sl.own HO.out HR.out rfl).mono (fun x u => QX.less (fun b hb => .inl (.inl hb))), FarO.own HO.out (fun b hb => hb), hw⟩
end Go.Proofs.YtgcfemnigpjadaaDoor.Law06
