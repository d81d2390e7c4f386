/- What Ours and Theirs of layer 5's law give back. -/
import Derived.Test.YtbkkalmdjcpgoaaDoorR5t
import Derived.Test.YtbkkalmdjcpgoaaDoorVe
namespace Go.Proofs.YtbkkalmdjcpgoaaDoor.Law05
open Go.RowKit
set_option linter.unusedVariables false
set_option linter.unusedSimpArgs false
open Go.Proofs.YtbkkalmdjcpgoaaDoor.Dig Go.Proofs.YtbkkalmdjcpgoaaDoor.Lx Go.Proofs.YtbkkalmdjcpgoaaDoor.Tk

/-- ends with a row of tokens of the call's own -/
def RetO (e : TypeId) (ts : List Tv) (w : World) (x : Ending) (w' : World) : Prop := ∃ A c, x = .returned (.slice A ts.length c) ∧ w'.ownsRow w.heap.size e 4 (.slice A ts.length c) ts.length (tcells ts) ∧ Since w w'
theorem RetO.of {e : TypeId} {ts : List Tv} {n : Nat} {A : Option Addr} {c : Nat} {w w' : World} (hn : n = ts.length) (h : w'.ownsRow w.heap.size e 4 (.slice A n c) n (tcells ts)) (k : Since w w') : RetO e ts w (.returned (.slice A n c)) w' := by
  subst hn; exact ⟨A, c, rfl, h, k⟩
set_option maxRecDepth 100000 in
set_option maxHeartbeats 4000000 in
theorem ours_any (v : Value) (ts : List Tv) (w : World) (h : Toks w v ts) (hn : ts.length ≤ 10000) :
    Calls Tryd.prog 12 #[v] w (RetO 34 ts w) := by
  have H := Lib.hid h
  obtain ⟨A0, c0, rfl, -, -⟩ := h
  obtain ⟨i0, hi, hz0, hz1, hz2⟩ := info_parts Ref05.info_tok
  obtain ⟨n, hnn⟩ : ∃ n, n = ts.length := ⟨_, rfl⟩
  rw [← hnn] at H hn
  rw [← hnn]
  have HN := Lib.hid hnn
  clear hnn
  go_enter Tryd.func12, Tryd.ntmps12
  go_wp2
  go_loopw [3, 8] (fun out i wr => ∃ (k : Nat) (A : Option Addr) (c : Nat), k ≤ n ∧ i = .int .i64 (k : Int) ∧ out = .slice A k c ∧ Hid (wr.ownsRow w.heap.size 34 4 (.slice A k c) k (tcells (ts.take k))) ∧ Since w wr) (fun _ i _ => n - (intOf i).toNat)
  case atStart => exact ⟨0, none, 0, Nat.zero_le _, rfl, rfl, World.ownsRow_nil _ _ _ _, Since.refl _⟩
  case round =>
    obtain ⟨k, A, c, hk, rfl, rfl, HO, hw⟩ := hrel
    by_cases hlt : k < n
    · obtain ⟨b, o, rfl, h1, h2, h3, h4⟩ := (H.out.since hw).el (i := k) (by have := HN.out; omega)
      have hst := take_tok (ts := ts) (k := k) (by have := HN.out; omega)
      obtain ⟨x, hx⟩ : ∃ x, x = ts.getD k .nil := ⟨_, rfl⟩
      rw [← hx] at h1 h2 h3 h4 hst
      have HT := Lib.hid hst
      clear hst hx
      go_wp2_with (at_builtin; refine wpList_append_own _ rfl _ _ 27 rfl w.heap.size 34 i0 (.agg #[.int .i64 0, .string ⟨#[]⟩, .int .i64 0, .int .i64 0]) 4 40 Tryd.underlying27 hi hz0 hz1 hz2 rfl (by decide) _ _ _ rfl (owns_since HO.out (((Since.refl wr).alloc _).alloc _)) ⟨wr.heap.size + 1, 0, none⟩ 1 1 [.int .i64 x.k, .string x.s, .int .i64 x.v, .int .i64 x.a] rfl rfl ?c1 ?c2 ?c3 ?c4 ?c5 ?_)
      case c1 =>
        intro j u hj
        match j, hj with
        | 0, hj => simp at hj; subst hj; simp [Addr.add]
        | 1, hj => simp at hj; subst hj; simp [Addr.add]
        | 2, hj => simp at hj; subst hj; simp [Addr.add]
        | 3, hj => simp at hj; subst hj; simp [Addr.add]
      case c2 => intro u hu; simp at hu; rcases hu with rfl | rfl | rfl | rfl <;> rfl
      case c3 => unfold maxLen; omega
      case c4 => omega
      case c5 => have := hw.size; simp; omega
      intro v' w2 hown' hgrow _
      have hs1 : Since w w2 := Below.grown ((hw.alloc _).alloc _) hgrow (by have := hw.size; simp; omega) (fun g hg => (HO.out.lt g hg).1)
      have ho1 : w2.ownsRow w.heap.size 34 4 v' (k + 1) (tcells (ts.take (k + 1))) := by
        rw [HT.out, tcells_append, tcells_one]; exact hown'
      clear hown' hgrow
      obtain ⟨A', c', rfl⟩ := owns_slice ho1
      have HO1 := Lib.hid ho1
      clear ho1
      go_wp2
      go_roundw
      case rel => exact ⟨k + 1, A', c', by omega, by go_num, rfl, HO1.out, hs1⟩
      case measure => simp [intOf]; omega
    · obtain rfl : k = n := by omega
      have e : ts.take k = ts := List.take_of_length_le (by have := HN.out; omega)
      rw [e] at HO
      clear e
      go_wp2
      go_ret
      exact RetO.of HN.out HO.out hw
set_option maxRecDepth 100000 in
set_option maxHeartbeats 4000000 in
theorem theirs_any (v : Value) (ts : List Tv) (w : World) (h : Toks w v ts) (hn : ts.length ≤ 10000) :
    Calls Tryd.prog 14 #[v] w (RetO 39 ts w) := by
  have H := Lib.hid h
  obtain ⟨A0, c0, rfl, -, -⟩ := h
  obtain ⟨i0, hi, hz0, hz1, hz2⟩ := info_parts Lex.info_ltok
  obtain ⟨n, hnn⟩ : ∃ n, n = ts.length := ⟨_, rfl⟩
  rw [← hnn] at H hn
  rw [← hnn]
  have HN := Lib.hid hnn
  clear hnn
  go_enter Tryd.func14, Tryd.ntmps14
  go_wp2
  go_loopw [3, 8] (fun out i wr => ∃ (k : Nat) (A : Option Addr) (c : Nat), k ≤ n ∧ i = .int .i64 (k : Int) ∧ out = .slice A k c ∧ Hid (wr.ownsRow w.heap.size 39 4 (.slice A k c) k (tcells (ts.take k))) ∧ Since w wr) (fun _ i _ => n - (intOf i).toNat)
  case atStart => exact ⟨0, none, 0, Nat.zero_le _, rfl, rfl, World.ownsRow_nil _ _ _ _, Since.refl _⟩
  case round =>
    obtain ⟨k, A, c, hk, rfl, rfl, HO, hw⟩ := hrel
    by_cases hlt : k < n
    · obtain ⟨b, o, rfl, h1, h2, h3, h4⟩ := (H.out.since hw).el (i := k) (by have := HN.out; omega)
      have hst := take_tok (ts := ts) (k := k) (by have := HN.out; omega)
      obtain ⟨x, hx⟩ : ∃ x, x = ts.getD k .nil := ⟨_, rfl⟩
      rw [← hx] at h1 h2 h3 h4 hst
      have HT := Lib.hid hst
      clear hst hx
      go_wp2_with (at_builtin; refine wpList_append_own _ rfl _ _ 23 rfl w.heap.size 39 i0 (.agg #[.int .i64 0, .string ⟨#[]⟩, .int .i64 0, .int .i64 0]) 4 40 Tryd.underlying23 hi hz0 hz1 hz2 rfl (by decide) _ _ _ rfl (owns_since HO.out (((Since.refl wr).alloc _).alloc _)) ⟨wr.heap.size + 1, 0, none⟩ 1 1 [.int .i64 x.k, .string x.s, .int .i64 x.v, .int .i64 x.a] rfl rfl ?c1 ?c2 ?c3 ?c4 ?c5 ?_)
      case c1 =>
        intro j u hj
        match j, hj with
        | 0, hj => simp at hj; subst hj; simp [Addr.add]
        | 1, hj => simp at hj; subst hj; simp [Addr.add]
        | 2, hj => simp at hj; subst hj; simp [Addr.add]
        | 3, hj => simp at hj; subst hj; simp [Addr.add]
      case c2 => intro u hu; simp at hu; rcases hu with rfl | rfl | rfl | rfl <;> rfl
      case c3 => unfold maxLen; omega
      case c4 => omega
      case c5 => have := hw.size; simp; omega
      intro v' w2 hown' hgrow _
      have hs1 : Since w w2 := Below.grown ((hw.alloc _).alloc _) hgrow (by have := hw.size; simp; omega) (fun g hg => (HO.out.lt g hg).1)
      have ho1 : w2.ownsRow w.heap.size 39 4 v' (k + 1) (tcells (ts.take (k + 1))) := by
        rw [HT.out, tcells_append, tcells_one]; exact hown'
      clear hown' hgrow
      obtain ⟨A', c', rfl⟩ := owns_slice ho1
      have HO1 := Lib.hid ho1
      clear ho1
      go_wp2
      go_roundw
      case rel => exact ⟨k + 1, A', c', by omega, by go_num, rfl, HO1.out, hs1⟩
      case measure => simp [intOf]; omega
    · obtain rfl : k = n := by omega
      have e : ts.take k = ts := List.take_of_length_le (by have := HN.out; omega)
      rw [e] at HO
      clear e
      go_wp2
      go_ret
      exact RetO.of HN.out HO.out hw
end Go.Proofs.YtbkkalmdjcpgoaaDoor.Law05
