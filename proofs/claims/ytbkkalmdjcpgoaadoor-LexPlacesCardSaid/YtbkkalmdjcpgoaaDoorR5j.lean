/- What the document's own Join of layer 5 gives back. -/
import Derived.Test.YtbkkalmdjcpgoaaDoorVa
namespace Go.Proofs.YtbkkalmdjcpgoaaDoor.Ref05
open Go.RowKit
set_option linter.unusedVariables false
set_option linter.unusedSimpArgs false
open Go.Proofs.YtbkkalmdjcpgoaaDoor.Dig Go.Proofs.YtbkkalmdjcpgoaaDoor.Lx Go.Proofs.YtbkkalmdjcpgoaaDoor.Tk

theorem ret_str {a b : ByteArray} (h : a = b) : Ending.returned (.string a) = .returned (.string b) := by rw [h]
theorem joinB_size (m : Nat) : ∀ ts : List Tv, (∀ t ∈ ts, t.s.size ≤ m) → (joinB ts).size ≤ ts.length * (m + 1)
  | [], _ => Nat.le_of_eq (Nat.zero_mul _).symm
  | [t], h => by have := h t (by simp); simp only [joinB, List.length_cons, List.length_nil]; omega
  | t :: u :: r, h => by
    have h1 := h t (by simp)
    have h2 := joinB_size m (u :: r) (fun x hx => h x (by simp at hx ⊢; exact .inr hx))
    simp only [joinB, List.length_cons, ByteArray.size_append] at h2 ⊢
    have e : ByteArray.size ⟨#[32]⟩ = 1 := rfl
    rw [e]
    have e2 : (r.length + 1 + 1) * (m + 1) = (r.length + 1) * (m + 1) + (m + 1) := by rw [Nat.succ_mul]
    omega
set_option maxHeartbeats 1000000 in
theorem join_any (v : Value) (ts : List Tv) (w : World) (h : Toks w v ts) (hn : ts.length ≤ 10000) (hs : ∀ t ∈ ts, t.s.size ≤ 10000) :
    Calls Tryd.prog 15 #[v] w fun e w' => e = .returned (.string (joinB ts)) ∧ w = w' := by
  have H := Lib.hid h
  have HS := Lib.hid hs
  obtain ⟨A, c, rfl, -, -⟩ := h
  clear hs
  obtain ⟨n, hnn⟩ : ∃ n, n = ts.length := ⟨_, rfl⟩
  rw [← hnn] at H hn ⊢
  have HN := Lib.hid hnn
  clear hnn
  go_enter Tryd.func15, Tryd.ntmps15
  go_wp2
  go_loop [3, 4] (fun s i => ∃ k : Nat, k ≤ n ∧ i = .int .i64 (k : Int) ∧ s = .string (joinB (ts.take k))) (fun _ i => n - (intOf i).toNat)
  case atStart => exact ⟨0, Nat.zero_le _, rfl, rfl⟩
  case round =>
    obtain ⟨k, hk, rfl, rfl⟩ := hrel
    by_cases hlt : k < n
    · have hb := joinB_size 10000 (ts.take k) (fun t ht => HS.out t (List.mem_of_mem_take ht))
      rw [List.length_take] at hb
      have hb2 : (joinB (ts.take k)).size ≤ 100010000 := by
        have : min k ts.length * (10000 + 1) ≤ 10000 * (10000 + 1) := Nat.mul_le_mul_right _ (by omega)
        omega
      obtain ⟨b, o, rfl, h1, h2, h3, h4⟩ := H.out.el (i := k) (by have := HN.out; omega)
      have hst := take_tok (ts := ts) (k := k) (by have := HN.out; omega)
      have hsz := HS.out (ts.getD k .nil) (getD_mem (by have := HN.out; omega))
      obtain ⟨t, ht⟩ : ∃ t, t = ts.getD k .nil := ⟨_, rfl⟩
      rw [← ht] at h1 h2 h3 h4 hst hsz
      have HJ := Lib.hid (joinB_snoc (ts.take k) t)
      rw [← hst] at HJ
      clear hst hb ht
      by_cases h0 : 0 < k
      · have e0 : ts.take k ≠ [] := by
          intro e; have h9 := congrArg List.length e; rw [List.length_take] at h9; have h8 := HN.out; simp only [List.length_nil] at h9; omega
        rw [if_neg e0] at HJ
        clear e0
        generalize joinB (ts.take k) = J at *
        go_wp2
        go_round
        case rel => exact ⟨k + 1, by omega, by go_num, by rw [HJ.out]⟩
        case measure => simp [intOf]; omega
      · obtain rfl : k = 0 := by omega
        rw [if_pos List.take_zero] at HJ
        have hJ0 : joinB (ts.take 0) = ⟨#[]⟩ := rfl
        rw [hJ0]
        clear hJ0 hb2
        go_wp2
        go_round
        case rel => exact ⟨0 + 1, by omega, by go_num, by rw [HJ.out]; first | rfl | simp⟩
        case measure => simp [intOf]; omega
    · obtain rfl : k = n := by omega
      have e : ts.take k = ts := List.take_of_length_le (by have := HN.out; omega)
      rw [e]
      clear e
      go_wp2
      go_ret
      exact ⟨rfl, rfl⟩
end Go.Proofs.YtbkkalmdjcpgoaaDoor.Ref05
