/- What the document's own trim gives back: the digits of the number. -/
import Derived.Test.YtbkkalmdjcpgoaaDoorRef02a
namespace Go.Proofs.YtbkkalmdjcpgoaaDoor.Ref02
open Go.RowKit
set_option linter.unusedVariables false
open Go.Proofs.YtbkkalmdjcpgoaaDoor.Dig

theorem info_u32 : (Tryd.prog.info? 81).map (fun i => (i.zero, i.size, i.bytes)) = some (some (.int .u32 0), 1, 4) := by kernel_rfl

/-- a step of the loop that takes the digits over -/
theorem own_more {w' : World} {base k : Nat} {e : TypeId} {v : Value} {ds : List Nat} (hk : k < ds.length) (h : w'.ownsRow base e 1 v (k + 1) (u32s (ds.take k) ++ [.int .u32 ((ds.getD k 0 : Nat) : Int)])) :
    w'.ownsRow base e 1 v (k + 1) (u32s (ds.take (k + 1))) := by
  rw [take_more hk, u32s_append]; exact h

set_option maxRecDepth 100000 in
set_option maxHeartbeats 800000 in
theorem trim_any (v : Value) (ds : List Nat) (w : World) (h : Row w v ds) (hl : ds.length ≤ 1000000) :
    Calls Tryd.prog 68 #[v] w (RetRow (digs (num ds)) w) := by
  obtain ⟨hd, A, c, rfl, hc, -⟩ := h
  obtain ⟨i0, hi, hz0, hz1, hz2⟩ := info_parts info_u32
  have HC := Lib.hid hc
  have HD := Lib.hid hd
  clear hc hd
  go_enter Tryd.func68, Tryd.ntmps68
  go_wp2
  go_loop [3] (fun i => ∃ k : Nat, k ≤ ds.length ∧ i = .int .i64 k ∧ Hid (∀ i, k ≤ i → i < ds.length → ds.getD i 0 = 0)) (fun i => (intOf i).toNat)
  case atStart => exact ⟨ds.length, Nat.le_refl _, rfl, fun i h1 h2 => by omega⟩
  case round =>
    obtain ⟨k, hk, rfl, hz⟩ := hrel
    have hfin : ∀ (A : Option Addr), (k = 0 ∨ ds.getD (k - 1) 0 ≠ 0) → (∀ k, k < ds.length → ∃ b o, A = some ⟨b, o, none⟩ ∧ w.cell? ⟨b, o + k, none⟩ = some (.int .u32 ((ds.getD k 0 : Nat) : Int))) → True := fun _ _ _ => trivial
    clear hfin
    by_cases h0 : k = 0
    · subst h0
      have hfin := Lib.hid (digs_trim HD.out (k := 0) (by omega) hz.out (.inl rfl))
      go_wp2
      go_loopw [4, 5] (fun s i wr => s = .slice none 0 0 ∧ i = .int .i64 0 ∧ wr = w) (fun _ _ _ => 0)
      case atStart => exact ⟨rfl, rfl, rfl⟩
      case round =>
        obtain ⟨rfl, rfl, rfl⟩ := hrel
        go_wp2
        go_ret
        exact ⟨_, rfl, by rw [hfin.out]; simp; exact Row.nil _, Since.refl _⟩
    · obtain ⟨j, rfl⟩ : ∃ j, k = j + 1 := ⟨k - 1, by omega⟩
      have hj : j < ds.length := by omega
      obtain ⟨b, o, rfl, hcc⟩ := HC.out (by omega)
      have hcell := hcc j hj
      obtain ⟨d, hdd⟩ : ∃ d, d = ds.getD j 0 := ⟨_, rfl⟩
      rw [← hdd] at hcell
      by_cases hdz : d = 0
      · subst hdz
        have HDD := Lib.hid hdd
        clear hcc hdd h0
        go_wp2
        go_round
        case rel => exact ⟨j, by omega, rfl, fun i h1 h2 => by
          by_cases e : i = j
          · subst e; exact HDD.out.symm
          · exact hz.out i (by omega) h2⟩
        case measure => simp [intOf]
      · have hdb : ((d : Int) == 0) = false := by simp; omega
        have hfin := Lib.hid (digs_trim HD.out (k := j + 1) (by omega) hz.out (.inr (by rw [Nat.add_sub_cancel, ← hdd]; exact hdz)))
        have HCC := Lib.hid hcc
        clear hcc hdd h0 hdz
        go_wp2
        clear hcell
        go_loopw [4, 5] (fun s i wr => ∃ k : Nat, k ≤ j + 1 ∧ i = .int .i64 k ∧ wr.ownsRow w.heap.size 81 1 s k (u32s (ds.take k)) ∧ Since w wr) (fun _ i _ => j + 1 - (intOf i).toNat)
        case atStart => exact ⟨0, by omega, rfl, World.ownsRow_nil _ _ _ _, Since.refl _⟩
        case round =>
          obtain ⟨k, hk2, rfl, hown, hw⟩ := hrel
          by_cases hlt : k < j + 1
          · have hkd : k < ds.length := by omega
            have hcell := (Below.cell hw (World.block_lt_of_cell? _ _ (HCC.out k hkd))).trans (HCC.out k hkd)
            obtain ⟨x, hx⟩ : ∃ x, x = ds.getD k 0 := ⟨_, rfl⟩
            rw [← hx] at hcell
            have HX := Lib.hid hx
            clear hx
            go_wp2_with (first
              | (at_builtin; refine wpList_append_own _ rfl _ _ 63 rfl w.heap.size 81 i0 (.int .u32 0) 1 4 Tryd.underlying63 hi hz0 hz1 hz2 rfl (by decide) _ _ _ rfl (hown.alloc _) ⟨wr.heap.size, 0, none⟩ 1 1 [.int .u32 (x : Int)] rfl rfl ?c1 ?c2 ?c3 ?c4 ?c5 ?_))
            case c1 =>
              intro j u hj
              match j, hj with
              | 0, hj => simp at hj; subst hj; simp [Addr.add]
            case c2 => intro u hu; simp at hu; subst hu; rfl
            case c3 => unfold maxLen; omega
            case c4 => omega
            case c5 => have := hw.size; simp; omega
            intro v' w1 hown' hgrow _
            have hs1 : Since w w1 := Below.grown (hw.alloc _) hgrow (by have := hw.size; simp; omega) (fun g hg => (hown.lt g hg).1)
            have ho1 := own_more hkd (HX.out ▸ hown')
            clear hown' hgrow hown hcell
            go_wp2
            go_roundw
            case rel => exact ⟨k + 1, by omega, by go_num, ho1, hs1⟩
            case measure => simp [intOf]; omega
          · obtain rfl : k = j + 1 := by omega
            go_wp2
            go_ret
            exact ⟨_, rfl, by rw [hfin.out]; exact Row.own (isDig_take HD.out _) hown, hw⟩
end Go.Proofs.YtbkkalmdjcpgoaaDoor.Ref02
