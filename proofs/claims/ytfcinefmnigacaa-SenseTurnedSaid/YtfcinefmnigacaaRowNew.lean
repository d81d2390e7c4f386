/- New and given slices of 32-bit digits as rows. -/
import Derived.Test.YtfcinefmnigacaaRow
namespace Go.Proofs.Ytfcinefmnigacaa
open Go.RowKit
set_option linter.unusedVariables false
open Go.Proofs.Ytfcinefmnigacaa.Dig

/-- a slice of 32-bit numbers that came in reads as digits -/
theorem row_in {w : World} {a : Option Addr} {len cap : Nat} {zs : List Int}
    (h : (a = none ∧ len = 0 ∧ cap = 0 ∧ zs = []) ∨ ∃ x, a = some x ∧ len ≤ cap ∧ cap ≤ maxLen ∧ zs.length = cap ∧ (∀ i, i < zs.length → w.cell? (x.add i) = some (.int .u32 (zs.getD i 0))) ∧ ∀ n ∈ zs, (Lit.int .u32 n).wf = true) :
    ∃ ds : List Nat, ds.length = len ∧ Row w (.slice a len cap) ds := by
  rcases h with ⟨rfl, rfl, rfl, _⟩ | ⟨x, rfl, hl, _, hz, hc, hw⟩
  · exact ⟨[], rfl, Row.nil _⟩
  · refine ⟨(zs.take len).map Int.toNat, by simp; omega, ?_, ?_⟩
    · intro d hd
      obtain ⟨n, hn, rfl⟩ := List.mem_map.mp hd
      have := bounds_u32 (hw n (List.mem_of_mem_take hn))
      omega
    · have hlen : ((zs.take len).map Int.toNat).length = len := by simp; omega
      refine ⟨some x, cap, by rw [hlen], fun h0 => ?_, by rw [hlen]; exact hl⟩
      obtain ⟨b, o, rfl, hd⟩ := ints_at hc (by omega)
      refine ⟨b, o, rfl, fun i hi => ?_⟩
      rw [hlen] at hi
      have hi2 : i < zs.length := by omega
      rw [hd i hi2]
      have e1 : zs.getD i 0 = zs[i] := by simp [List.getD, hi2]
      have hb := bounds_u32 (hw zs[i] (List.getElem_mem hi2))
      have e2 : ((zs.take len).map Int.toNat).getD i 0 = zs[i].toNat := by
        simp [List.getD, hi, hi2]
      rw [e1, e2]
      congr 2
      omega

theorem row_new (W : World) (e : TypeId) (c : Array Value) (ds : List Nat) (hd : IsDig ds) (hl : c.size = ds.length) (hc : ∀ i, i < ds.length → c[i]? = some (.int .u32 ((ds.getD i 0 : Nat) : Int))) :
    Row (W.alloc (.cells c e)) (.slice (some ⟨W.heap.size, 0, none⟩) ds.length ds.length) ds := by
  refine ⟨hd, _, _, rfl, fun _ => ⟨W.heap.size, 0, rfl, fun i hi => ?_⟩, Nat.le_refl _⟩
  rw [Nat.zero_add, ← hc i hi]
  simp
theorem row_one (W : World) (e : TypeId) (d : Nat) (hd : d < 4294967296) : Row (W.alloc (.cells #[.int .u32 (d : Int)] e)) (.slice (some ⟨W.heap.size, 0, none⟩) 1 1) [d] :=
  row_new W e #[.int .u32 (d : Int)] [d] (isDig_one hd) rfl (fun i hi => by
    have : i = 0 := by simpa using hi
    subst this; rfl)
theorem row_two (W : World) (e : TypeId) (c d : Nat) (hc : c < 4294967296) (hd : d < 4294967296) : Row (W.alloc (.cells #[.int .u32 (c : Int), .int .u32 (d : Int)] e)) (.slice (some ⟨W.heap.size, 0, none⟩) 2 2) [c, d] :=
  row_new W e #[.int .u32 (c : Int), .int .u32 (d : Int)] [c, d] (fun x hx => by simp at hx; omega) rfl (fun i hi => by
    have : i < 2 := by simpa using hi
    rcases (show i = 0 ∨ i = 1 by omega) with rfl | rfl <;> rfl)
theorem since_alloc (W : World) (o : Obj) : Since W (W.alloc o) := (Since.refl W).alloc o

theorem pair_new (W : World) (e : TypeId) (c d : Nat) (hc : c < 4294967296) (hd : d < 4294967296) :
    Row ((W.alloc (.cells #[.int .u32 (c : Int)] e)).alloc (.cells #[.int .u32 (d : Int)] e)) (.slice (some ⟨W.heap.size, 0, none⟩) 1 1) [c] ∧
    Row ((W.alloc (.cells #[.int .u32 (c : Int)] e)).alloc (.cells #[.int .u32 (d : Int)] e)) (.slice (some ⟨W.heap.size + 1, 0, none⟩) 1 1) [d] := by
  refine ⟨(row_one W e c hc).since (since_alloc _ _), ?_⟩
  have h := row_one (W.alloc (.cells #[.int .u32 (c : Int)] e)) e d hd
  have e1 : (W.alloc (.cells #[.int .u32 (c : Int)] e)).heap.size = W.heap.size + 1 := by simp
  rw [e1] at h
  exact h

end Go.Proofs.Ytfcinefmnigacaa
