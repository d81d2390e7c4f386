/- What the document's own tenth gives back: the tenth of a number, and what is left. -/
import Derived.Test.YtkceldnljppflaaDoorRef02l
import Derived.Deep.OwnRows
namespace Go.Proofs.YtkceldnljppflaaDoor.Ref02
open Go.RowKit
set_option linter.unusedVariables false
open Go.Proofs.YtkceldnljppflaaDoor.Dig

/-- a block known whole reads as its digits -/
theorem row_of_is {w : World} {b n : Nat} {t : TypeId} {f : Nat → Value} {ds : List Nat} (h : w.rowIs b t n f) (hd : IsDig ds) (hl : ds.length = n) (hf : ∀ i, i < n → f i = .int .u32 ((ds.getD i 0 : Nat) : Int)) :
    Row w (.slice (some ⟨b, 0, none⟩) n n) ds := by
  subst hl
  refine ⟨hd, _, _, rfl, fun _ => ⟨b, 0, rfl, fun i hi => ?_⟩, Nat.le_refl _⟩
  rw [Nat.zero_add, h.cell hi, hf i hi]
theorem tenth_step {xs os : List Nat} {j L : Nat} (hj : j < xs.length) (hL : L < 10) (hx : xs.getD j 0 < 4294967296) (h : num (xs.drop (j + 1)) = 10 * num os + L) :
    num (xs.drop j) = 10 * num ((L * 4294967296 + xs.getD j 0) / 10 :: os) + (L * 4294967296 + xs.getD j 0) % 10 ∧ (L * 4294967296 + xs.getD j 0) / 10 < 4294967296 := by
  rw [num_drop hj, h, num]
  generalize num os = n at *
  generalize xs.getD j 0 = x at *
  omega

set_option maxRecDepth 100000 in
set_option maxHeartbeats 1000000 in
theorem tenth_any (va : Value) (xs : List Nat) (w : World) (hx : Row w va xs) (lx : xs.length ≤ 10000) :
    Calls Tryd.prog 56 #[va] w fun e w' => ∃ v, e = .returned (.tuple #[v, .int .u64 ((num xs % 10 : Nat) : Int)]) ∧ Row w' v (digs (num xs / 10)) ∧ Since w w' := by
  obtain ⟨i0, hi, hz0, hz1, hz2⟩ := info_parts info_u32
  obtain ⟨dx, A, cA, rfl, hcx, -⟩ := hx
  have HC := Lib.hid hcx
  have HD := Lib.hid dx
  clear hcx dx
  obtain ⟨n, hn⟩ : ∃ n, n = xs.length := ⟨_, rfl⟩
  rw [← hn] at lx ⊢
  have HN := Lib.hid hn
  clear hn
  have hmk : ∀ W : World, (Instr.makeSlice 22 (.int .i64 (n : Int)) (.int .i64 (n : Int))).run Tryd.prog W = .ok (.slice (some ⟨W.heap.size, 0, none⟩) n n) (W.alloc (.cells (madeCells #[.int .u32 0] n) 55)) := fun W => by
    have h := run_make (P := Tryd.prog) W 22 55 i0 (.int .u32 0) Tryd.underlying22 hi hz0 .i64 .i64 n n (by omega) (by omega) (by rw [hz2]; omega) (by omega)
    rw [hz1] at h
    simpa [Value.cells] using h
  go_enter Tryd.func56, Tryd.ntmps56
  go_wp2
  go_loopw [5, 6] (fun l i wr => ∃ (k L : Nat) (os : List Nat), k ≤ n ∧ i = .int .i64 ((k : Int) - 1) ∧ l = .int .u64 L ∧ L < 10 ∧ Hid (IsDig os ∧ os.length = n - k ∧ num (xs.drop k) = 10 * num os + L) ∧ Hid (wr.rowIs w.heap.size 55 n (fun i => .int .u32 (((if i < k then 0 else os.getD (i - k) 0) : Nat) : Int))) ∧ Since w wr) (fun _ i _ => (intOf i + 1).toNat)
  case atStart =>
    refine ⟨n, 0, [], Nat.le_refl _, rfl, rfl, by omega, ⟨isDig_nil, by simp, ?_⟩, ?_, (Since.refl w).alloc _⟩
    · rw [List.drop_of_length_le (by have := HN.out; omega)]; rfl
    · exact (World.rowIs_made w (.int .u32 0) n 55).congr fun i hi => by simp [hi]
  case round =>
    obtain ⟨k, L, os, hk, rfl, rfl, hL, hos, hrow, hw⟩ := hrel
    rcases k with _ | j
    · have hn := HN.out
      obtain ⟨h1, h2, h3⟩ := hos.out
      rw [List.drop_zero] at h3
      have hr : Row wr (.slice (some ⟨w.heap.size, 0, none⟩) n n) os := row_of_is hrow.out h1 (by omega) (fun i _ => by simp)
      have HR := Lib.hid hr
      have e1 : num os = num xs / 10 := by omega
      have e2 : L = num xs % 10 := by omega
      have HE := Lib.hid (And.intro e1 e2)
      have HL := Lib.hid (show os.length ≤ 1000000 by omega)
      clear hr hn h1 h2 h3 e1 e2
      go_wp2_with (go_at_call 39; (with_reducible refine (trim_any _ os _ HR.out HL.out).mono ?_); rintro e w1 ⟨v, rfl, hr, hs⟩)
      go_ret2
      exact ⟨_, by rw [← HE.out.2]; rfl, by rw [← HE.out.1]; exact ‹Row _ v _›, hw.trans ‹_›⟩
    · have e : ((j + 1 : Nat) : Int) - 1 = (j : Int) := by omega
      rw [e]
      clear e
      have hn := HN.out
      obtain ⟨b, o, rfl, hcc⟩ := HC.out (by omega)
      have hcell := (Below.cell hw (World.block_lt_of_cell? _ _ (hcc j (by omega)))).trans (hcc j (by omega))
      have hxb := getD_lt HD.out j
      obtain ⟨h1, h2, h3⟩ := hos.out
      have hst := tenth_step (by omega) hL hxb h3
      obtain ⟨x, hx⟩ : ∃ x, x = xs.getD j 0 := ⟨_, rfl⟩
      rw [← hx] at hcell hst hxb
      obtain ⟨q, hq⟩ : ∃ q, q = (L * 4294967296 + x) / 10 := ⟨_, rfl⟩
      obtain ⟨r, hr⟩ : ∃ r, r = (L * 4294967296 + x) % 10 := ⟨_, rfl⟩
      have iq : ((L : Int) * 4294967296 + (x : Int)) / 10 = (q : Int) := by omega
      have ir : ((L : Int) * 4294967296 + (x : Int)) % 10 = (r : Int) := by omega
      have hr10 : r < 10 := by omega
      rw [← hq, ← hr] at hst
      obtain ⟨hst1, hst2⟩ := hst
      have HS := Lib.hid (And.intro hst1 (And.intro h1 h2))
      have g1 := hrow.out.cell (i := j) (by omega)
      have g2 := hrow.out.frozen j
      rw [if_pos (by omega)] at g1
      have hj : j < n := by omega
      clear hcc hx hn h1 h2 h3 hst1 hq hr
      go_wp2
      go_roundw
      case rel =>
        obtain ⟨k1, k2, k3⟩ := HS.out
        refine ⟨j, r, q :: os, by omega, rfl, (by rw [ir]), hr10, ⟨?_, ?_, k1⟩, ?_, hw.set (Nat.le_refl _) _⟩
        · intro d hd
          rcases List.mem_cons.mp hd with rfl | hd
          · exact hst2
          · exact k2 d hd
        · simp; omega
        · refine (hrow.out.set j (.int .u32 (q : Int))).congr fun i hi => ?_
          by_cases h1 : i = j
          · subst h1
            rw [if_pos rfl, if_neg (by omega), Nat.sub_self]
            simp [List.getD]
          · rw [if_neg h1]
            by_cases h2 : i < j
            · rw [if_pos (by omega), if_pos h2]
            · rw [if_neg (by omega), if_neg h2, show i - j = (i - (j + 1)) + 1 by omega]
              simp [List.getD]
      case measure => simp [intOf] <;> omega
end Go.Proofs.YtkceldnljppflaaDoor.Ref02
