/- What the document's own Same of layer 5 gives back where the tokens are the same. -/
import Derived.Test.YtbkkalmdjcpgoaaDoorVa
import Derived.RegionTactic
import Derived.ChangeAlike
import Derived.BigRegion
import Derived.Deep.DeepCutAuto
namespace Go.Proofs.YtbkkalmdjcpgoaaDoor.Ref05
open Go.RowKit
set_option linter.unusedVariables false
set_option linter.unusedSimpArgs false
open Go.Proofs.YtbkkalmdjcpgoaaDoor.Dig Go.Proofs.YtbkkalmdjcpgoaaDoor.Lx Go.Proofs.YtbkkalmdjcpgoaaDoor.Tk

/-- but for where it stands -/
def noA (t : Tv) : Tv := { t with a := 0 }
theorem noA_at {ts us : List Tv} (h : ts.map noA = us.map noA) (k : Nat) : (ts.getD k .nil).k = (us.getD k .nil).k ∧ (ts.getD k .nil).s = (us.getD k .nil).s ∧ (ts.getD k .nil).v = (us.getD k .nil).v := by
  have h1 : (ts.map noA)[k]? = (us.map noA)[k]? := by rw [h]
  simp only [List.getElem?_map] at h1
  cases e1 : ts[k]? with
  | none =>
    rw [e1] at h1
    cases e2 : us[k]? with
    | none => simp [List.getD, e1, e2]
    | some y => rw [e2] at h1; simp at h1
  | some x =>
    rw [e1] at h1
    cases e2 : us[k]? with
    | none => rw [e2] at h1; simp at h1
    | some y =>
      rw [e2] at h1
      simp only [Option.map_some, Option.some.injEq, noA, Tv.mk.injEq] at h1
      simp [List.getD, e1, e2, h1.1, h1.2.1, h1.2.2.1]
set_option maxHeartbeats 2000000 in
theorem same_places (va vb : Value) (ts : List Tv) (w : World) (ha : Toks w va ts) (hb : Toks w vb ts) (hn : ts.length ≤ 10000) :
    Calls Tryd.prog 11 #[va, vb, .bool true] w fun e w' => e = .returned (.bool true) ∧ Since w w' := by
  have HA := Lib.hid ha
  have HB := Lib.hid hb
  obtain ⟨A, c, rfl, -, -⟩ := ha
  obtain ⟨B, d, rfl, -, -⟩ := hb
  obtain ⟨n, hnn⟩ : ∃ n, n = ts.length := ⟨_, rfl⟩
  rw [← hnn] at HA HB hn ⊢
  have HN := Lib.hid hnn
  clear hnn
  go_enter Tryd.func11, Tryd.ntmps11
  go_wp2
  go_loopw [7] (fun i wr => ∃ k : Nat, k ≤ n ∧ i = .int .i64 (k : Int) ∧ Since w wr) (fun i _ => n - (intOf i).toNat)
  case atStart => exact ⟨0, Nat.zero_le _, rfl, Since.refl _⟩
  case round =>
    obtain ⟨k, hk, rfl, hw⟩ := hrel
    by_cases hlt : k < n
    · obtain ⟨b, o, rfl, hh⟩ := (HA.out.since hw).el (i := k) (by have := HN.out; omega)
      obtain ⟨b', o', rfl, gg⟩ := (HB.out.since hw).el (i := k) (by have := HN.out; omega)
      generalize ts.getD k .nil = t at *
      obtain ⟨k1, k2, k3, k4⟩ := hh
      obtain ⟨l1, l2, l3, l4⟩ := gg
      have q1 : b < wr.heap.size := World.block_lt_of_cell? _ _ k1
      have q2 : b' < wr.heap.size := World.block_lt_of_cell? _ _ l1
      have q3 : b < wr.heap.size + 1 := by omega
      have q4 : b' < wr.heap.size + 1 := by omega
      go_wp2
      go_region
      all_goals
        go_wp2
        go_roundw
        case rel => exact ⟨k + 1, by omega, by go_num, Since.drew (Since.alloc (Since.alloc hw _) _)⟩
        case measure => simp [intOf]; omega
    · go_wp2
      go_ret
      exact ⟨rfl, hw⟩
set_option maxHeartbeats 2000000 in
theorem same_free (va vb : Value) (ts us : List Tv) (w : World) (ha : Toks w va ts) (hb : Toks w vb us) (hn : ts.length ≤ 10000) (he : ts.map noA = us.map noA) :
    Calls Tryd.prog 11 #[va, vb, .bool false] w fun e w' => e = .returned (.bool true) ∧ Since w w' := by
  have hl : us.length = ts.length := by have := congrArg List.length he; simpa using this.symm
  have HE := Lib.hid he
  clear he
  have HA := Lib.hid ha
  have HB := Lib.hid hb
  obtain ⟨A, c, rfl, -, -⟩ := ha
  obtain ⟨B, d, rfl, -, -⟩ := hb
  obtain ⟨n, hnn⟩ : ∃ n, n = ts.length := ⟨_, rfl⟩
  rw [hl] at HB ⊢
  rw [← hnn] at HA HB hn hl ⊢
  have HL := Lib.hid hl
  clear hl
  have HN := Lib.hid hnn
  clear hnn
  go_enter Tryd.func11, Tryd.ntmps11
  go_wp2
  go_loopw [7] (fun i wr => ∃ k : Nat, k ≤ n ∧ i = .int .i64 (k : Int) ∧ Since w wr) (fun i _ => n - (intOf i).toNat)
  case atStart => exact ⟨0, Nat.zero_le _, rfl, Since.refl _⟩
  case round =>
    obtain ⟨k, hk, rfl, hw⟩ := hrel
    by_cases hlt : k < n
    · obtain ⟨b, o, rfl, hh⟩ := (HA.out.since hw).el (i := k) (by have := HN.out; omega)
      obtain ⟨b', o', rfl, gg0⟩ := (HB.out.since hw).el (i := k) (by have := HL.out; omega)
      obtain ⟨e1, e2, e3⟩ := noA_at HE.out k
      generalize ts.getD k .nil = t at *
      generalize us.getD k .nil = u at *
      have gg : Tok4 wr b' (o' + k * 4) ⟨t.k, t.s, t.v, u.a⟩ := by rw [e1, e2, e3]; exact gg0
      clear gg0
      clear e1 e2 e3
      obtain ⟨k1, k2, k3, k4⟩ := hh
      obtain ⟨l1, l2, l3, l4⟩ := gg
      have q1 : b < wr.heap.size := World.block_lt_of_cell? _ _ k1
      have q2 : b' < wr.heap.size := World.block_lt_of_cell? _ _ l1
      have q3 : b < wr.heap.size + 1 := by omega
      have q4 : b' < wr.heap.size + 1 := by omega
      go_wp2
      go_region
      all_goals
        go_wp2
        go_roundw
        case rel => exact ⟨k + 1, by omega, by go_num, (by repeat (first | exact hw | refine Since.drew ?_ | refine Since.alloc ?_ _ | refine Since.set ?_ (by first | exact Nat.le_refl _ | (have := hw.size; simp; omega)) _))⟩
        case measure => simp [intOf]; omega
    · go_wp2
      go_ret
      exact ⟨rfl, hw⟩
end Go.Proofs.YtbkkalmdjcpgoaaDoor.Ref05
