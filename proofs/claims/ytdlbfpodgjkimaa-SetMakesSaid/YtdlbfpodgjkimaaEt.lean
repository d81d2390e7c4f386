/- Layer 9 (set): slices.SortFunc on ranges, by their least values. -/
import Derived.Test.YtdlbfpodgjkimaaEg
import Derived.Test.YtdlbfpodgjkimaaShelfS
import Derived.Lib.OwnBridge
import Derived.Lib.AppendIntMem
namespace Go.Proofs.Ytdlbfpodgjkimaa.Zs
open Go.RowKit
set_option linter.unusedVariables false
set_option linter.unusedSimpArgs false
open Go.Proofs.Ytdlbfpodgjkimaa.Dig Go.Proofs.Ytdlbfpodgjkimaa.Lx Go.Proofs.Ytdlbfpodgjkimaa.Tk Go.Proofs.Ytdlbfpodgjkimaa.Ti

def encR (x : Rn) : List Value := [.int .i64 x.1, .int .i64 x.2]
abbrev cmpR (x y : Rn) : Int := Lib.compareInt x.1 y.1
theorem ltLo (x y : Rn) : ltOf cmpR x y = decide (x.1 < y.1) := by
  unfold ltOf cmpR Lib.compareInt
  by_cases h1 : x.1 < y.1
  · simp [h1]
  · by_cases h2 : y.1 < x.1 <;> simp [h1, h2]
theorem swoLo : Go.Sort.SWO (ltOf cmpR) where
  irrefl x := by rw [ltLo]; simp
  trans x y z h1 h2 := by rw [ltLo] at *; simp at *; omega
  ntrans x y z h1 h2 := by rw [ltLo] at *; simp at *; omega
set_option maxHeartbeats 1000000 in
theorem lo_any (x y : Rn) (W : World) : Calls Try.prog 33 #[.agg #[.int .i64 x.1, .int .i64 x.2], .agg #[.int .i64 y.1, .int .i64 y.2]] W fun e w' => e = .returned (.int .i64 (Lib.compareInt x.1 y.1)) ∧ ∃ q os', w' = Go.Sort.grow (W.drewN q) os' := by
  have hcon := fun W' => AnyG.cmp_Compare_int Sh.laysCmp x.1 y.1 W'
  change ∀ W', Calls Try.prog 34 _ _ _ at hcon
  generalize Lib.compareInt x.1 y.1 = r at hcon ⊢
  go_enter Try.func33, Try.ntmps33
  go_wp2_with (go_at_call 34; refine (hcon _).mono ?_; rintro e w' ⟨rfl, rfl⟩)
  go_ret
  exact ⟨rfl, 0, _, by rw [Go.Sort.alloc_eq_grow, Go.Sort.alloc_eq_grow, Go.Sort.grow_grow]; rfl⟩
theorem cmpLo (blk off size : Nat) (w : World) : CmpLays Try.prog 33 #[] encR 2 cmpR blk off size w :=
  fun _ _ _ _ x y => lo_any x y _
theorem rcells_at (l : List Rn) {i : Nat} (h : i < l.length) : (rcells l)[i * 2]? = some (.int .i64 l[i].1) ∧ (rcells l)[i * 2 + 1]? = some (.int .i64 l[i].2) := by
  induction l generalizing i with
  | nil => simp at h
  | cons r l ih =>
    have e : rcells (r :: l) = .int .i64 r.1 :: .int .i64 r.2 :: rcells l := rfl
    cases i with
    | zero => rw [e]; exact ⟨rfl, rfl⟩
    | succ i =>
      have := ih (i := i) (by simpa using h)
      rw [e, show (i + 1) * 2 = i * 2 + 2 by omega, show i * 2 + 2 + 1 = i * 2 + 1 + 2 by omega]
      simpa using this
theorem rcells_len (l : List Rn) : (rcells l).length = l.length * 2 := by
  induction l with
  | nil => rfl
  | cons r l ih =>
    have e : rcells (r :: l) = .int .i64 r.1 :: .int .i64 r.2 :: rcells l := rfl
    rw [e, List.length_cons, List.length_cons, List.length_cons, ih]; omega
/-- slices.SortFunc on a row of the call's own -/
theorem sort_any {w0 w : World} {v : Value} {l : List Rn} (H : Rw w0 w v l) (hl : l.length ≤ 1000000) :
    Calls Try.prog 32 #[v, .func (.func 33) #[] #[]] w fun e w' => e = .returned (.tuple #[]) ∧ ∃ s : List Rn, s.Perm l ∧ (s.Pairwise fun x y => x.1 ≤ y.1) ∧ Sl 2 QR w' v s ∧ Since w0 w' := by
  have H1 := H.1
  have H2 : Below w0.heap.size w0 w := H.2
  rcases H1.2 with ⟨rfl, hn⟩ | ⟨g, cap, cur, rfl, hbg, hg, hnc, hcm, hcs, htake⟩
  · have e : l = [] := List.eq_nil_of_length_eq_zero hn
    subst e
    have h := AnyF.slices_SortFunc_none Sh.laysSort none 0 (.func (.func 33) #[] #[]) w
    change Calls Try.prog 32 _ _ _ at h
    refine h.mono ?_
    rintro e w' ⟨rfl, rfl⟩
    exact ⟨rfl, [], List.Perm.refl _, List.Pairwise.nil, Sl.nil _ _ _, H.2⟩
  · have hlt : g < w.heap.size := (H1.lt g rfl).2
    have hH : Go.Sort.HoldsK encR 2 w g 0 l.toArray := by
      intro t ht
      have ht2 : t < l.length * 2 := by simpa using ht
      rw [Go.Sort.get_flatK _ _ _ _ (by simpa using ht2), Nat.zero_add]
      refine ⟨?_, H1.frozenAt t⟩
      rw [H1.cellAt t ht2]
      have hi : t / 2 < l.length := by omega
      obtain ⟨a0, a1⟩ := rcells_at l hi
      have e1 : l.toArray[t / 2]! = l[t / 2] := by simp [getElem!_pos, hi]
      rw [e1]
      have hm : t % 2 = 0 ∨ t % 2 = 1 := by omega
      rcases hm with hm | hm
      · rw [hm]
        have : t = t / 2 * 2 := by omega
        conv => lhs; rw [this]
        rw [a0]; rfl
      · rw [hm]
        have : t = t / 2 * 2 + 1 := by omega
        conv => lhs; rw [this]
        rw [a1]; rfl
    have eg : ∀ args w, (callFunc 33 args).run Try.prog w = .ok (.enter 33 args) w := enters_of Try.func33 (by kernel_rfl) rfl
    have h := AnyQ.slices_SortFunc Sh.laysSort 2 Try.isAgg32 Try.sizeOf32 encR (fun _ => rfl) (fun x v hv => by simp [encR] at hv; rcases hv with rfl | rfl <;> rfl) cmpR swoLo 33 #[] g 0 cap l.toArray w eg (cmpLo g 0 l.toArray.size w) hH hlt (by simp; omega)
    change Calls Try.prog 32 _ _ _ at h
    have hsz : l.toArray.size = l.length := by simp
    rw [hsz] at h
    refine h.mono ?_
    rintro e w' ⟨rfl, d', n, os, hp, hs, rfl⟩
    have hps : d'.size = l.length := by have := hp.1; simpa using this
    have hpe : d'.toList.Perm l := by
      have := hp.2.2
      rw [show d'.extract 0 l.length = d' by rw [← hps]; simp, show l.toArray.extract 0 l.length = l.toArray by simp] at this
      simpa using this
    have hd : Go.Sort.HoldsK encR 2 (sortWorldK encR 2 w g 0 n d' os) g 0 d' := holdsK_sortWorldK encR 2 w g 0 n l.toArray d' os hlt hH (by simpa using hps)
    refine ⟨rfl, d'.toList, hpe, ?_, ?_, ?_⟩
    · rw [List.pairwise_iff_getElem]
      intro i j hi hj hij
      have hj2 : j < l.length := by simpa [hps] using hj
      have := hs i j (Nat.zero_le _) hij hj2
      rw [ltLo, decide_eq_false_iff_not] at this
      rw [getElem!_pos d' j (by omega), getElem!_pos d' i (by omega)] at this
      simp only [Array.getElem_toList]
      omega
    · refine ⟨some ⟨g, 0, none⟩, cap, by simp [hps], by simpa [hps] using hnc, fun _ => ⟨g, 0, rfl, fun i x hx => ?_⟩⟩
      have hi : i < d'.size := by
        apply Decidable.byContradiction; intro hn
        rw [List.getElem?_eq_none (by simpa using hn)] at hx; cases hx
      have hx2 : x = d'[i] := by rw [List.getElem?_eq_getElem (by simpa using hi)] at hx; simpa using hx.symm
      have e1 : d'[i]! = d'[i] := getElem!_pos d' i hi
      obtain ⟨c0, -⟩ := hd.cell (i := i) (c := 0) hi (by decide)
      obtain ⟨c1, -⟩ := hd.cell (i := i) (c := 1) hi (by decide)
      rw [e1] at c0 c1
      refine ⟨[.int .i64 x.1, .int .i64 x.2], rfl, rfl, fun j y hy => ?_⟩
      subst hx2
      match j, hy with
      | 0, hy => cases hy; exact c0
      | 1, hy => cases hy; exact c1
      | j + 2, hy => simp at hy
    · have k1 : Below w0.heap.size w0 (Go.Sort.putRow id (Go.Sort.ahead w n) g 0 (Go.Sort.flatK encR 2 d')) := Lib.below_putRow H2 hbg
      exact Below.trans k1 (Lib.below_grow w0.heap.size _ k1.size 0 os)
end Go.Proofs.Ytdlbfpodgjkimaa.Zs
