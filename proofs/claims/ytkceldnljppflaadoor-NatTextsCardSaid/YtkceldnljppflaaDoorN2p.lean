/- What writeGroup and strings.TrimLeft give back. -/
import Derived.Test.YtkceldnljppflaaDoorN2o
import Derived.Test.YtkceldnljppflaaDoorN2h
namespace Go.Proofs.YtkceldnljppflaaDoor.Nat02
open Go.RowKit
set_option linter.unusedVariables false
open Go.Proofs.YtkceldnljppflaaDoor.Dig

/-- block b holds just these bytes, and may be written -/
def BB (w : World) (b : Nat) (ds : List Nat) : Prop := w.rowIs b 5 ds.length (fun i => .int .u8 ((ds.getD i 0 : Nat) : Int))
theorem BB.lt {w : World} {b : Nat} {ds : List Nat} (h : BB w b ds) : b < w.heap.size := World.rowIs.lt h
theorem BB.cell {w : World} {b i : Nat} {ds : List Nat} (h : BB w b ds) (hi : i < ds.length) : w.cell? ⟨b, i, none⟩ = some (.int .u8 ((ds.getD i 0 : Nat) : Int)) := World.rowIs.cell h hi
theorem BB.frozen {w : World} {b : Nat} {ds : List Nat} (h : BB w b ds) (i : Nat) : w.frozen? ⟨b, i, none⟩ = false := World.rowIs.frozen h i
theorem BB.set {w : World} {b i d : Nat} {ds : List Nat} (h : BB w b ds) (hi : i < ds.length) : BB (w.setCell ⟨b, i, none⟩ (.int .u8 (d : Int))) b (ds.set i d) := by
  unfold BB
  rw [List.length_set]
  refine (World.rowIs.set h i _).congr fun j hj => ?_
  by_cases e : j = i
  · subst e; rw [if_pos rfl, getD_set_self hi]
  · rw [if_neg e, getD_set_other (Ne.symm e)]
theorem BB.grown {w w' : World} {b : Nat} {ds : List Nat} {row : Option Nat} (h : BB w b ds) (k : w.grownBy w' row) (hb : some b ≠ row) : BB w' b ds := World.rowIs.of_block h (k.block b h.lt hb)
theorem BB.made (w : World) (n : Nat) : BB (w.alloc (.cells (madeCells #[.int .u8 0] n) 5)) w.heap.size (List.replicate n 0) := by
  unfold BB
  rw [List.length_replicate]
  refine (World.rowIs_made w (.int .u8 0) n 5).congr fun i hi => ?_
  simp [List.getD, hi]

set_option maxRecDepth 100000 in
set_option maxHeartbeats 1000000 in
theorem writeGroup_any (h o c N : Nat) (ds : List Nat) (w : World) (hb : BB w h ds) (ho : o + 9 ≤ ds.length) (hN : N < 4294967296) (hl : ds.length ≤ 100000) :
    Calls Tryd.prog 54 #[.slice (some ⟨h, o, none⟩) 9 c, .int .u32 (N : Int)] w fun e w' => e = .returned (.tuple #[]) ∧ BB w' h (splice ds o (decsN 9 N)) ∧ w.grownBy w' (some h) := by
  have HB := Lib.hid hb
  have HO := Lib.hid (And.intro ho hl)
  clear hb
  go_enter Tryd.func54, Tryd.ntmps54
  go_wp2
  go_loopw [1, 4] (fun g i wr => ∃ (k u M : Nat), k + u = 9 ∧ i = .int .i64 ((k : Int) - 1) ∧ g = .int .u32 (M : Int) ∧ M ≤ N ∧ Hid (M = N / 10 ^ u) ∧ Hid (BB wr h (splice ds (o + k) (decsN u N)) ∧ w.grownBy wr (some h))) (fun _ i _ => (intOf i + 1).toNat)
  case atStart => exact ⟨9, 0, N, rfl, by go_num, rfl, Nat.le_refl _, by simp [Hid], by rw [decsN, splice_nil]; exact HB.out, only_refl _ _⟩
  case round =>
    obtain ⟨k, u, M, hku, rfl, rfl, hM, hv, hb⟩ := hrel
    have hu : u = 9 - k := by omega
    subst hu
    rcases k with _ | j
    · have hb2 := hb.out
      rw [Nat.add_zero] at hb2
      have HB2 := Lib.hid hb2
      clear hb2 hku
      go_wp2
      go_end0
      exact ⟨rfl, HB2.out.1, HB2.out.2⟩
    · have e : ((j + 1 : Nat) : Int) - 1 = (j : Int) := by omega
      rw [e]
      clear e
      have hj : j < 9 := by omega
      have hlen : (splice ds (o + (j + 1)) (decsN (9 - (j + 1)) N)).length = ds.length := by rw [splice_len (by rw [decsN_len]; omega)]
      have g1 := hb.out.1.cell (i := o + j) (by omega)
      have g2 := hb.out.1.frozen (o + j)
      obtain ⟨d, hd⟩ : ∃ d, d = M % 10 := ⟨_, rfl⟩
      have hdi : (M : Int) % 10 = (d : Int) := by omega
      have hd9 : d < 10 := by omega
      have hset := hb.out.1.set (i := o + j) (d := 48 + d) (by omega)
      have e1 := splice_set_down (ds := ds) (j := o + j) (d := 48 + d) (outs := decsN (9 - (j + 1)) N) (by omega)
      rw [← Nat.add_assoc] at hset
      rw [e1, hd, hv.out, ← decsN_cons, show 9 - (j + 1) + 1 = 9 - j by omega, ← hv.out, ← hd] at hset
      obtain ⟨M2, hM2⟩ : ∃ d, d = M / 10 := ⟨_, rfl⟩
      have hMi : (M : Int) / 10 = (M2 : Int) := by omega
      have hM3 : M2 = N / 10 ^ (9 - j) := by rw [hM2, hv.out, Nat.div_div_eq_div_mul, ← Nat.pow_succ, show (9 - (j + 1)).succ = 9 - j by omega]
      have hM4 : M2 ≤ N := by omega
      obtain ⟨z, hz⟩ : ∃ z, z = (splice ds (o + (j + 1)) (decsN (9 - (j + 1)) N)).getD (o + j) 0 := ⟨_, rfl⟩
      rw [← hz] at g1
      have HS := Lib.hid (And.intro hM3 (And.intro hset (only_set (i := o + j) hb.out.2 (.int .u8 ((48 + d : Nat) : Int)))))
      clear hlen hset e1 hz hM2 hM3 hd hku
      go_wp2
      go_roundw
      case rel => exact ⟨j, 9 - j, M2, by omega, rfl, by first | rfl | rw [hMi], hM4, HS.out.1, by first | exact ⟨HS.out.2.1, HS.out.2.2⟩ | (have hh := HS.out.2; simpa using hh)⟩
      case measure => simp [intOf] <;> omega

def strLen2 : Value → Nat
  | .string s => s.size
  | _ => 0
theorem size_list (b : ByteArray) : b.data.toList.length = b.size := Array.length_toList
theorem drop_one_bytes (b : ByteArray) : (b.extract 1 b.size).data.toList = b.data.toList.drop 1 := by
  rw [ByteArray.data_extract, Array.toList_extract]
  simp [List.extract]
  rw [List.take_of_length_le (by simp)]
theorem head_bytes (b : ByteArray) (h : 0 < b.size) : b.data.toList = b[0] :: b.data.toList.drop 1 := by
  have hl : 0 < b.data.toList.length := by rw [size_list]; exact h
  have := List.drop_eq_getElem_cons hl
  rw [List.drop_zero] at this
  rw [this]; rfl

set_option maxRecDepth 100000 in
set_option maxHeartbeats 1000000 in
theorem trimLeftByte_any (s : ByteArray) (w : World) (hs : s.size ≤ 1000000) :
    Calls Tryd.prog 68 #[.string s, .int .u8 48] w fun e w' => ∃ b : ByteArray, e = .returned (.string b) ∧ b.data.toList = s.data.toList.dropWhile (· == 48) ∧ w = w' := by
  go_enter Tryd.func68, Tryd.ntmps68
  go_wp2
  go_loop [0] (fun v => ∃ b : ByteArray, v = .string b ∧ b.size ≤ 1000000 ∧ Hid (b.data.toList.dropWhile (· == 48) = s.data.toList.dropWhile (· == 48))) (fun v => strLen2 v)
  case atStart => exact ⟨s, rfl, hs, rfl⟩
  case round =>
    obtain ⟨b, rfl, hb, hv⟩ := hrel
    by_cases h0 : 0 < b.size
    · have hh := head_bytes b h0
      have hsz : (b.extract 1 b.size).size = b.size - 1 := by simp [ByteArray.size_extract]
      by_cases h48 : b[0].toNat = 48
      · have e : b[0] = 48 := by apply UInt8.toNat_inj.1; exact h48
        have hd : (b.extract 1 b.size).data.toList.dropWhile (· == 48) = s.data.toList.dropWhile (· == 48) := by
          rw [← hv.out, hh, drop_one_bytes, List.dropWhile_cons, e, if_pos (by decide)]
        have HD := Lib.hid hd
        have HZ := Lib.hid hsz
        have h48' : ((b[0].toNat : Int) == 48) = true := by rw [beq_iff_eq]; omega
        clear hd hsz hh e h48
        go_wp2
        go_round
        case rel => exact ⟨b.extract 1 b.size, rfl, by rw [HZ.out]; omega, HD.out⟩
        case measure => show (b.extract 1 b.size).size < b.size; rw [HZ.out]; omega
      · have h48' : ((b[0].toNat : Int) == 48) = false := by rw [beq_eq_false_iff_ne]; omega
        have hd : b.data.toList = s.data.toList.dropWhile (· == 48) := by
          rw [← hv.out, hh, List.dropWhile_cons, if_neg]
          intro h
          rw [beq_iff_eq] at h
          rw [h] at h48; exact h48 rfl
        have HD := Lib.hid hd
        clear hd hsz hh h48
        go_wp2
        go_ret
        exact ⟨b, rfl, HD.out, rfl⟩
    · have hz : b.data.toList = [] := List.eq_nil_of_length_eq_zero (by rw [size_list]; omega)
      have hd : b.data.toList = s.data.toList.dropWhile (· == 48) := by rw [← hv.out, hz]; rfl
      have HD := Lib.hid hd
      clear hz hd
      go_wp2
      go_ret
      exact ⟨b, rfl, HD.out, rfl⟩

set_option maxRecDepth 100000 in
theorem trimLeft_any (s : ByteArray) (w : World) (hs : s.size ≤ 1000000) :
    Calls Tryd.prog 55 #[.string s, .string ⟨#[48]⟩] w fun e w' => ∃ b : ByteArray, e = .returned (.string b) ∧ b.data.toList = s.data.toList.dropWhile (· == 48) ∧ w = w' := by
  by_cases h0 : s.size = 0
  · have hz : s.data.toList = [] := List.eq_nil_of_length_eq_zero (by rw [size_list]; omega)
    have HD := Lib.hid (show s.data.toList = s.data.toList.dropWhile (· == 48) by rw [hz]; rfl)
    have he : s.toList = [] := by rw [ByteArray.toList_eq]; exact hz
    clear hz h0
    go_enter Tryd.func55, Tryd.ntmps55
    go_wp2_with fail
    go_ret
    exact ⟨s, rfl, HD.out, rfl⟩
  · have hne : s.toList.isEmpty = false := by
      rw [ByteArray.toList_eq, List.isEmpty_eq_false_iff]
      intro h; have := size_list s; rw [h] at this; simp at this; omega
    have hne2 : ¬ s.toList = [] := by
      rw [ByteArray.toList_eq]
      intro h; have := size_list s; rw [h] at this; simp at this; omega
    clear h0
    go_enter Tryd.func55, Tryd.ntmps55
    go_wp2_with fail
    refine (trimLeftByte_any s w hs).mono ?_
    rintro e w1 ⟨b, rfl, hb, rfl⟩
    have HB := Lib.hid hb
    clear hb
    go_wp2_with fail
    go_ret
    exact ⟨b, rfl, HB.out, rfl⟩
end Go.Proofs.YtkceldnljppflaaDoor.Nat02
