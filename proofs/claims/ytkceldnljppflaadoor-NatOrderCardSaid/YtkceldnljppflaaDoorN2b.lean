/- What clone, cut and Of of package nat give back. -/
import Derived.Test.YtkceldnljppflaaDoorN2a
import Derived.Test.YtkceldnljppflaaDoorN2D
namespace Go.Proofs.YtkceldnljppflaaDoor.Nat02
open Go.RowKit
set_option linter.unusedVariables false
open Go.Proofs.YtkceldnljppflaaDoor.Dig

/-- a new block with just these digits -/
def RetNew (ds : List Nat) (w : World) (e : Ending) (w' : World) : Prop := ∃ g, e = .returned (.slice (some ⟨g, 0, none⟩) ds.length ds.length) ∧ w.heap.size ≤ g ∧ Blk w' g ds ∧ Since w w'
theorem RetNew.row {ds : List Nat} {w : World} {e : Ending} {w' : World} (h : RetNew ds w e w') : RetRow ds w e w' := by
  obtain ⟨g, he, _, hb, hs⟩ := h
  exact ⟨_, he, hb.row_all rfl (Nat.le_refl _), hs⟩

theorem splice_zero_end {n : Nat} {ds : List Nat} (h : ds.length = n) : splice (List.replicate n 0) 0 ds = ds := by
  subst h; simp [splice]
set_option maxRecDepth 100000 in
set_option maxHeartbeats 800000 in
theorem clone_any (v : Value) (ds : List Nat) (n : Nat) (w : World) (h : Row w v ds) (hn : n ≤ ds.length) (hl : ds.length ≤ 100000) :
    Calls Tryd.prog 49 #[v, .int .i64 (n : Int)] w (RetNew (ds.take n) w) := by
  have H := Lib.hid h
  obtain ⟨hd, A, c, rfl, hc, -⟩ := h
  have HC := Lib.hid hc
  have HD := Lib.hid hd
  have hm := make_digits n (by omega)
  obtain ⟨m, hm2⟩ : ∃ n, n = ds.length := ⟨_, rfl⟩
  have hnm : n ≤ m := by omega
  rw [← hm2] at hl ⊢
  have HN := Lib.hid (And.intro hm2 hn)
  clear hc hd hm2 hn
  go_enter Tryd.func49, Tryd.ntmps49
  go_wp2
  go_loopw [10] (fun i wr => ∃ k : Nat, k ≤ n ∧ i = .int .i64 k ∧ Hid (Blk wr w.heap.size (splice (List.replicate n 0) 0 (ds.take k))) ∧ Since w wr) (fun i _ => n - (intOf i).toNat)
  case atStart => exact ⟨0, by omega, rfl, by rw [List.take_zero, splice_nil]; exact Blk.made w n, since_made w _ _⟩
  case round =>
    obtain ⟨k, hk, rfl, hb, hw⟩ := hrel
    by_cases hlt : k < n
    · have hj : k < ds.length := by have := HN.out; omega
      obtain ⟨b, o, rfl, hcc⟩ := HC.out (by omega)
      have hcell := (Below.cell hw (World.block_lt_of_cell? _ _ (hcc k hj))).trans (hcc k hj)
      have hlen : (splice (List.replicate n 0) 0 (ds.take k)).length = n := by rw [splice_len (by simp; omega)]; simp
      have g1 := hb.out.cell (i := k) (by omega)
      have g2 := hb.out.frozen k
      have hset := hb.out.set (i := k) (d := ds.getD k 0) (by omega) (getD_lt HD.out k)
      have e1 := splice_set (ds := List.replicate n 0) (o := 0) (d := ds.getD k 0) (outs := ds.take k) (by simp; omega)
      rw [List.length_take, Nat.min_eq_left (by omega), Nat.zero_add, ← take_more hj] at e1
      rw [e1] at hset
      obtain ⟨x, hx⟩ : ∃ d, d = ds.getD k 0 := ⟨_, rfl⟩
      obtain ⟨z, hz⟩ : ∃ d, d = (splice (List.replicate n 0) 0 (ds.take k)).getD k 0 := ⟨_, rfl⟩
      rw [← hx] at hcell hset
      rw [← hz] at g1
      have HS := Lib.hid hset
      clear hcc hx hz hset e1 hlen hj
      go_wp2
      go_roundw
      case rel => exact ⟨k + 1, by omega, by go_num, HS.out, hw.set (Nat.le_refl _) _⟩
      case measure => simp [intOf]; omega
    · obtain rfl : k = n := by omega
      have e : splice (List.replicate k 0) 0 (ds.take k) = ds.take k := splice_zero_end (by have := HN.out; simp; omega)
      rw [e] at hb
      have e2 : (ds.take k).length = k := by have := HN.out; simp; omega
      have E2 := Lib.hid e2
      clear e e2
      go_wp2
      go_ret
      exact ⟨w.heap.size, by rw [E2.out]; rfl, Nat.le_refl _, hb.out, hw⟩

/-- the digits without noughts at the end: the very same slice, or a new one -/
theorem cut_any (g : Nat) (ds : List Nat) (w : World) (h : Blk w g ds) (hl : ds.length ≤ 100000) :
    Calls Tryd.prog 45 #[.slice (some ⟨g, 0, none⟩) ds.length ds.length] w (fun e w' => ∃ g', e = .returned (.slice (some ⟨g', 0, none⟩) (digs (num ds)).length (digs (num ds)).length) ∧ Row w' (.slice (some ⟨g', 0, none⟩) (digs (num ds)).length (digs (num ds)).length) (digs (num ds)) ∧ Since w w') := by
  have H := Lib.hid h
  have hr := h.row_all (n := ds.length) (c := ds.length) rfl (Nat.le_refl _)
  have HR := Lib.hid hr
  have ht := take_sig h.dig
  have hs := sig_le h.dig
  have e : (digs (num ds)).length = sig ds := rfl
  rw [e]
  clear e hr h
  by_cases h1 : sig ds = ds.length
  · have e : digs (num ds) = ds := by rw [ht, h1, List.take_length]
    rw [e]
    have h2 : ((sig ds : Int) == (ds.length : Int)) = true := by rw [beq_iff_eq]; omega
    have HS := Lib.hid h1
    clear h1 ht e
    go_enter Tryd.func45, Tryd.ntmps45
    go_wp2_with (go_at_call 37; (with_reducible refine (significant_any _ ds _ HR.out (by omega)).mono ?_); rintro e w1 ⟨rfl, rfl⟩)
    go_ret
    exact ⟨g, by rw [HS.out]; rfl, by rw [HS.out]; exact HR.out, Since.refl _⟩
  · have h2 : ((sig ds : Int) == (ds.length : Int)) = false := by rw [beq_eq_false_iff_ne]; omega
    have HT := Lib.hid ht
    have HL := Lib.hid (show (ds.take (sig ds)).length = sig ds by simp; omega)
    clear h1 ht
    go_enter Tryd.func45, Tryd.ntmps45
    go_wp2_with (first
      | (go_at_call 37; (with_reducible refine (significant_any _ ds _ HR.out (by omega)).mono ?_); rintro e w1 ⟨rfl, rfl⟩)
      | (go_at_call 49; (with_reducible refine (clone_any _ ds (sig ds) _ HR.out hs hl).mono ?_); rintro e w1 ⟨g2, rfl, hg2, hb2, hs2⟩))
    go_ret
    exact ⟨g2, by rw [← HL.out]; rfl, by rw [HT.out]; exact ‹Blk _ g2 _›.row_all HL.out (Nat.le_refl _), ‹_›⟩
end Go.Proofs.YtkceldnljppflaaDoor.Nat02
