/- What Join of the landed lex gives back. -/
import Derived.Test.YtgcfemnigpjadaaDoorLxw
namespace Go.Proofs.YtgcfemnigpjadaaDoor.Lex
open Go.RowKit
set_option linter.unusedVariables false
set_option linter.unusedSimpArgs false
open Go.Proofs.YtgcfemnigpjadaaDoor.Dig Go.Proofs.YtgcfemnigpjadaaDoor.Lx Go.Proofs.YtgcfemnigpjadaaDoor.Tk

theorem isB_lt {B b : Nat} {bs : List Value} {w : World} (h : IsB B b bs w) : b < w.heap.size := by
  rcases h with h | h <;> exact h.lt
set_option maxHeartbeats 2000000 in
theorem join_any (v : Value) (ts : List Tv) (w : World) (h : Toks w v ts) (hn : ts.length ≤ 10000) (hs : ∀ t ∈ ts, t.s.size ≤ 10000) :
    Calls Tryd.prog 12 #[v] w fun e w' => e = .returned (.string (joinB ts)) ∧ Since w w' := by
  have H := Lib.hid h
  have HS := Lib.hid hs
  obtain ⟨A, c, rfl, -, -⟩ := h
  clear hs
  obtain ⟨n, hnn⟩ : ∃ n, n = ts.length := ⟨_, rfl⟩
  rw [← hnn] at H hn ⊢
  have HN := Lib.hid hnn
  clear hnn
  go_enter Tryd.func12, Tryd.ntmps12
  go_wp2
  go_loopw [8] (fun i wr => ∃ k : Nat, k ≤ n ∧ i = .int .i64 (k : Int) ∧ Hid (IsB w.heap.size w.heap.size (bcs (joinB (ts.take k))) wr) ∧ Since w wr) (fun i _ => n - (intOf i).toNat)
  case atStart => exact ⟨0, Nat.zero_le _, rfl, Lib.fresh_isBuilder _ _ w, since_alloc _ _⟩
  case round =>
    obtain ⟨k, hk, rfl, HB, hw⟩ := hrel
    by_cases hlt : k < n
    · have hb := Ref05.joinB_size 10000 (ts.take k) (fun t ht => HS.out t (List.mem_of_mem_take ht))
      rw [List.length_take] at hb
      have hb2 : (joinB (ts.take k)).size ≤ 100010000 := by
        have : min k ts.length * (10000 + 1) ≤ 10000 * (10000 + 1) := Nat.mul_le_mul_right _ (by omega)
        omega
      obtain ⟨b, o, rfl, h1, h2, h3, h4⟩ := (H.out.since hw).el (i := k) (by have := HN.out; omega)
      have hst := take_tok (ts := ts) (k := k) (by have := HN.out; omega)
      have hsz := HS.out (ts.getD k .nil) (getD_mem (by have := HN.out; omega))
      obtain ⟨t, ht⟩ : ∃ t, t = ts.getD k .nil := ⟨_, rfl⟩
      rw [← ht] at h1 h2 h3 h4 hst hsz
      have HJ := Lib.hid (joinB_snoc (ts.take k) t)
      rw [← hst] at HJ
      clear hst hb ht
      have hbl := isB_lt HB.out
      have gb : Bx (wr.alloc (.cells #[.int .i64 t.k, .string t.s, .int .i64 t.v, .int .i64 t.a] 37)) wr.heap.size #[.int .i64 t.k, .string t.s, .int .i64 t.v, .int .i64 t.a] 37 := Bx.fresh _ _ _
      have GB := Lib.hid gb
      clear gb
      by_cases h0 : 0 < k
      · have e0 : ts.take k ≠ [] := by
          intro e; have h9 := congrArg List.length e; rw [List.length_take] at h9; have h8 := HN.out; simp only [List.length_nil] at h9; omega
        rw [if_neg e0] at HJ
        clear e0
        generalize joinB (ts.take k) = J at *
        have WB := Lib.hid (fun W (h : IsB w.heap.size w.heap.size (bcs J) W) (h2 : w.heap.size ≤ W.heap.size) => writeByte_any w.heap.size w.heap.size (bcs J) 32 W h (by rw [bcs_len]; omega) h2)
        have WS := Lib.hid (fun W (h : IsB w.heap.size w.heap.size (bcs (J ++ ⟨#[32]⟩)) W) (h2 : w.heap.size ≤ W.heap.size) => writeString_any w.heap.size w.heap.size (bcs (J ++ ⟨#[32]⟩)) t.s W h (by rw [bcs_len, ByteArray.size_append]; have : ByteArray.size ⟨#[32]⟩ = 1 := rfl; omega) h2)
        go_wp2_with (first
          | (go_at_call 19; (with_reducible refine (WB.out _ (isB_since HB.out (since_alloc _ _)) (by simp; omega)).mono ?_); rintro e w1 ⟨rfl, hu1, hb1, hk1⟩; have hw1 := Below.trans (hw.alloc _) hb1; have hi1 := isB_space hu1; have gb1 := hk1.bx (by decide) (by omega) GB.out; obtain ⟨q0, q1, q2, q3⟩ := gb1.four)
          | (go_at_call 20; (with_reducible refine (WS.out _ hi1 (hw1.size)).mono ?_); rintro e w2 ⟨rfl, hu2, hb2, hk2⟩))
        go_roundw
        case rel => exact ⟨k + 1, by omega, by go_num, by rw [HJ.out]; exact isB_text hu2, Below.trans hw1 hb2⟩
        case measure => simp [intOf]; omega
      · obtain rfl : k = 0 := by omega
        rw [if_pos List.take_zero] at HJ
        have hJ0 : joinB (ts.take 0) = ⟨#[]⟩ := rfl
        rw [hJ0] at HB
        clear hJ0 hb2
        simp only [Nat.zero_mul, Nat.add_zero] at h1 h2 h3 h4
        have WS := Lib.hid (fun W (h : IsB w.heap.size w.heap.size (bcs ⟨#[]⟩) W) (h2 : w.heap.size ≤ W.heap.size) => writeString_any w.heap.size w.heap.size (bcs ⟨#[]⟩) t.s W h (by rw [bcs_len]; have : ByteArray.size ⟨#[]⟩ = 0 := rfl; omega) h2)
        go_wp2_with (first
          | (go_at_call 20; (with_reducible refine (WS.out _ (isB_since HB.out (since_alloc _ _)) (by simp; omega)).mono ?_); rintro e w2 ⟨rfl, hu2, hb2, hk2⟩))
        go_roundw
        case rel => exact ⟨0 + 1, by omega, by go_num, by rw [HJ.out]; exact isB_text hu2, Below.trans (hw.alloc _) hb2⟩
        case measure => simp [intOf]; omega
    · obtain rfl : k = n := by omega
      have e : ts.take k = ts := List.take_of_length_le (by have := HN.out; omega)
      rw [e] at HB
      clear e
      have WT := Lib.hid (fun W (h : IsB w.heap.size w.heap.size (bcs (joinB ts)) W) (h2 : w.heap.size ≤ W.heap.size) => string_any w.heap.size w.heap.size (joinB ts) W h h2)
      have hz := hw.size
      go_wp2_with (go_at_call 21; (with_reducible refine (WT.out _ HB.out hz).mono ?_); rintro e w2 ⟨rfl, hb2⟩)
      go_ret
      exact ⟨rfl, Below.trans hw hb2⟩
end Go.Proofs.YtgcfemnigpjadaaDoor.Lex
