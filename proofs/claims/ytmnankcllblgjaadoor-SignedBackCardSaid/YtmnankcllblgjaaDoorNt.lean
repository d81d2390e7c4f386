/- Decimal digits in groups. No Go in sight. What writeGroup and strings.TrimLeft give back. What the document's own tenth gives back: the tenth of a number, and what is left. What the document's own Text gives back. What Text of package nat gives back. What the document's own fit gives back. What the document's own Parse gives back. What isDecimal, readGroup and timesDigit of package nat give back. What Parse of package nat gives back. What a text is as a number of layer 3, in the document's words. -/
import Derived.Test.YtmnankcllblgjaaDoorNb
import Derived.Test.YtmnankcllblgjaaDoorNd
import Derived.Deep.OwnRows
import Derived.Test.YtmnankcllblgjaaDoorWd
import Derived.Test.YtmnankcllblgjaaDoorNe
import Derived.Laws.BytesArg
import Derived.Test.YtmnankcllblgjaaDoorRb
import Derived.Deep.RegionWith
import Derived.WalkSpells
namespace Go.Proofs.YtmnankcllblgjaaDoor.Dig
set_option linter.unusedVariables false

/-- the m lowest decimal digits of a number, as bytes -/
def decsN : Nat → Nat → List Nat
  | 0, _ => []
  | m + 1, n => decsN m (n / 10) ++ [48 + n % 10]
theorem decsN_len (m n : Nat) : (decsN m n).length = m := by
  induction m generalizing n with
  | zero => rfl
  | succ m ih => simp [decsN, ih]
theorem decsN_cons (m n : Nat) : decsN (m + 1) n = (48 + n / 10 ^ m % 10) :: decsN m n := by
  induction m generalizing n with
  | zero => simp [decsN]
  | succ m ih =>
    rw [decsN, ih, decsN, List.cons_append, Nat.div_div_eq_div_mul, ← Nat.pow_succ']
theorem decsN_add (m k n : Nat) : decsN (m + k) n = decsN m (n / 10 ^ k) ++ decsN k n := by
  induction k generalizing n with
  | zero => simp [decsN]
  | succ k ih =>
    rw [← Nat.add_assoc, decsN, ih, decsN, ← List.append_assoc, Nat.div_div_eq_div_mul, ← Nat.pow_succ']
theorem decsN_lt (m n : Nat) : ∀ d ∈ decsN m n, d < 256 := by
  induction m generalizing n with
  | zero => intro d hd; simp [decsN] at hd
  | succ m ih =>
    intro d hd
    rw [decsN] at hd
    rcases List.mem_append.mp hd with hd | hd
    · exact ih _ d hd
    · simp at hd; omega
theorem decsN_mod (m n : Nat) : decsN m (n % 10 ^ m) = decsN m n := by
  induction m generalizing n with
  | zero => rfl
  | succ m ih =>
    rw [decsN, decsN]
    have e1 : n % 10 ^ (m + 1) / 10 = n / 10 % 10 ^ m := by
      rw [Nat.pow_succ', Nat.mod_mul_right_div_self]
    have e2 : n % 10 ^ (m + 1) % 10 = n % 10 := by
      rw [Nat.pow_succ', Nat.mod_mul_right_mod]
    rw [e1, e2, ih]
def bytesOf (ds : List Nat) : List UInt8 := ds.map UInt8.ofNat
theorem dropw_append (xs ys : List UInt8) : (xs ++ ys).dropWhile (· == 48) = if xs.dropWhile (· == 48) = [] then ys.dropWhile (· == 48) else xs.dropWhile (· == 48) ++ ys := by
  induction xs with
  | nil => simp
  | cons x r ih =>
    simp only [List.cons_append, List.dropWhile_cons]
    split
    · exact ih
    · simp
theorem dropw_zero (m : Nat) : (bytesOf (decsN m 0)).dropWhile (· == 48) = [] := by
  induction m with
  | zero => rfl
  | succ m ih =>
    rw [decsN, bytesOf, List.map_append, dropw_append]
    rw [show (List.map UInt8.ofNat (decsN m (0 / 10))).dropWhile (· == 48) = [] from ih, if_pos rfl]
    rfl
/-- without the noughts ahead they are the number's -/
theorem dropw_decs (m n : Nat) (h : n < 10 ^ m) : (bytesOf (decsN m n)).dropWhile (· == 48) = decs n := by
  induction m generalizing n with
  | zero =>
    have : n = 0 := by simpa using h
    subst this; rfl
  | succ m ih =>
    by_cases h0 : n = 0
    · subst h0; rw [dropw_zero]; rfl
    · rw [decsN, bytesOf, List.map_append, dropw_append]
      have h1 := ih (n / 10) (by rw [Nat.div_lt_iff_lt_mul (by omega)]; rw [Nat.pow_succ] at h; exact h)
      rw [show (List.map UInt8.ofNat (decsN m (n / 10))).dropWhile (· == 48) = decs (n / 10) from h1]
      rw [decs_pos h0]
      by_cases h2 : n / 10 = 0
      · rw [h2, decs_zero, if_pos rfl]
        have hne : (UInt8.ofNat (48 + n % 10) == 48) = false := by
          rw [beq_eq_false_iff_ne]
          intro e
          have := congrArg UInt8.toNat e
          rw [UInt8.toNat_ofNat'] at this
          simp at this
          omega
        show List.dropWhile _ [UInt8.ofNat (48 + n % 10)] = _
        rw [List.dropWhile_cons, hne]; rfl
      · rw [if_neg (by have := decs_ne h2; intro e; rw [e] at this; simp at this)]
        rfl
theorem ten_pow (c : Nat) : 4294967296 ^ c ≤ 10 ^ (10 * c) := by
  rw [Nat.pow_mul]
  exact Nat.pow_le_pow_left (by decide) _
theorem pow_lt_of {a b : Nat} (h : 10 ^ a < 10 ^ b) : a < b := by
  rcases Nat.lt_or_ge a b with h1 | h1
  · exact h1
  · have := Nat.pow_le_pow_right (n := 10) (by omega) h1; omega
/-- groups of nine -/
theorem group_next (M T : Nat) : M / 10 ^ (9 * T) / 1000000000 = M / 10 ^ (9 * (T + 1)) := by
  rw [Nat.div_div_eq_div_mul, show 9 * (T + 1) = 9 * T + 9 by omega, Nat.pow_add]
theorem group_text (M T : Nat) : decsN (9 * (T + 1)) M = decsN 9 (M / 10 ^ (9 * T) % 1000000000) ++ decsN (9 * T) M := by
  rw [show 9 * (T + 1) = 9 + 9 * T by omega, decsN_add]
  congr 1
  exact (decsN_mod 9 _).symm
end Go.Proofs.YtmnankcllblgjaaDoor.Dig

namespace Go.Proofs.YtmnankcllblgjaaDoor.Nat02
open Go.RowKit
set_option linter.unusedVariables false
open Go.Proofs.YtmnankcllblgjaaDoor.Dig

/-- block b holds just these bytes, and may be written -/
def BB (w : World) (b : Nat) (ds : List Nat) : Prop := w.rowIs b 5 ds.length (fun i => .int .u8 ((ds.getD i 0 : Nat) : Int))
theorem BB.lt {w : World} {b : Nat} {ds : List Nat} (h : BB w b ds) : b < w.heap.size := World.rowIs.lt h
theorem BB.cell {w : World} {b i : Nat} {ds : List Nat} (h : BB w b ds) (hi : i < ds.length) : w.cell? ⟨b, i, none⟩ = some (.int .u8 ((ds.getD i 0 : Nat) : Int)) := World.rowIs.cell h hi
theorem BB.frozen {w : World} {b : Nat} {ds : List Nat} (h : BB w b ds) (i : Nat) : w.frozen? ⟨b, i, none⟩ = false := World.rowIs.frozen h i
theorem BB.set {w : World} {b i d : Nat} {ds : List Nat} (h : BB w b ds) (hi : i < ds.length) : BB (w.setCell ⟨b, i, none⟩ (.int .u8 (d : Int))) b (ds.set i d) := by
  unfold BB
  rw [List.length_set]
  refine (World.rowIs.set h i _).congr fun j hj => ?_
  by_cases e : j = i
  · subst e; rw [if_pos rfl, getD_set_self hi]
  · rw [if_neg e, getD_set_other (Ne.symm e)]
theorem BB.grown {w w' : World} {b : Nat} {ds : List Nat} {row : Option Nat} (h : BB w b ds) (k : w.grownBy w' row) (hb : some b ≠ row) : BB w' b ds := World.rowIs.of_block h (k.block b h.lt hb)
theorem BB.made (w : World) (n : Nat) : BB (w.alloc (.cells (madeCells #[.int .u8 0] n) 5)) w.heap.size (List.replicate n 0) := by
  unfold BB
  rw [List.length_replicate]
  refine (World.rowIs_made w (.int .u8 0) n 5).congr fun i hi => ?_
  simp [List.getD, hi]

set_option maxRecDepth 100000 in
set_option maxHeartbeats 1000000 in
theorem writeGroup_any (h o c N : Nat) (ds : List Nat) (w : World) (hb : BB w h ds) (ho : o + 9 ≤ ds.length) (hN : N < 4294967296) (hl : ds.length ≤ 100000) :
    Calls Tryd.prog 48 #[.slice (some ⟨h, o, none⟩) 9 c, .int .u32 (N : Int)] w fun e w' => e = .returned (.tuple #[]) ∧ BB w' h (splice ds o (decsN 9 N)) ∧ w.grownBy w' (some h) := by
  have HB := Lib.hid hb
  have HO := Lib.hid (And.intro ho hl)
  clear hb
  go_enter Tryd.func48, Tryd.ntmps48
  go_wp2
  go_loopw [1, 4] (fun g i wr => ∃ (k u M : Nat), k + u = 9 ∧ i = .int .i64 ((k : Int) - 1) ∧ g = .int .u32 (M : Int) ∧ M ≤ N ∧ Hid (M = N / 10 ^ u) ∧ Hid (BB wr h (splice ds (o + k) (decsN u N)) ∧ w.grownBy wr (some h))) (fun _ i _ => (intOf i + 1).toNat)
  case atStart => exact ⟨9, 0, N, rfl, by go_num, rfl, Nat.le_refl _, by simp [Hid], by rw [decsN, splice_nil]; exact HB.out, only_refl _ _⟩
  case round =>
    obtain ⟨k, u, M, hku, rfl, rfl, hM, hv, hb⟩ := hrel
    have hu : u = 9 - k := by omega
    subst hu
    rcases k with _ | j
    · have hb2 := hb.out
      rw [Nat.add_zero] at hb2
      have HB2 := Lib.hid hb2
      clear hb2 hku
      go_wp2
      go_end0
      exact ⟨rfl, HB2.out.1, HB2.out.2⟩
    · have e : ((j + 1 : Nat) : Int) - 1 = (j : Int) := by omega
      rw [e]
      clear e
      have hj : j < 9 := by omega
      have hlen : (splice ds (o + (j + 1)) (decsN (9 - (j + 1)) N)).length = ds.length := by rw [splice_len (by rw [decsN_len]; omega)]
      have g1 := hb.out.1.cell (i := o + j) (by omega)
      have g2 := hb.out.1.frozen (o + j)
      obtain ⟨d, hd⟩ : ∃ d, d = M % 10 := ⟨_, rfl⟩
      have hdi : (M : Int) % 10 = (d : Int) := by omega
      have hd9 : d < 10 := by omega
      have hset := hb.out.1.set (i := o + j) (d := 48 + d) (by omega)
      have e1 := splice_set_down (ds := ds) (j := o + j) (d := 48 + d) (outs := decsN (9 - (j + 1)) N) (by omega)
      rw [← Nat.add_assoc] at hset
      rw [e1, hd, hv.out, ← decsN_cons, show 9 - (j + 1) + 1 = 9 - j by omega, ← hv.out, ← hd] at hset
      obtain ⟨M2, hM2⟩ : ∃ d, d = M / 10 := ⟨_, rfl⟩
      have hMi : (M : Int) / 10 = (M2 : Int) := by omega
      have hM3 : M2 = N / 10 ^ (9 - j) := by rw [hM2, hv.out, Nat.div_div_eq_div_mul, ← Nat.pow_succ, show (9 - (j + 1)).succ = 9 - j by omega]
      have hM4 : M2 ≤ N := by omega
      obtain ⟨z, hz⟩ : ∃ z, z = (splice ds (o + (j + 1)) (decsN (9 - (j + 1)) N)).getD (o + j) 0 := ⟨_, rfl⟩
      rw [← hz] at g1
      have HS := Lib.hid (And.intro hM3 (And.intro hset (only_set (i := o + j) hb.out.2 (.int .u8 ((48 + d : Nat) : Int)))))
      clear hlen hset e1 hz hM2 hM3 hd hku
      go_wp2
      go_roundw
      case rel => exact ⟨j, 9 - j, M2, by omega, rfl, by first | rfl | rw [hMi], hM4, HS.out.1, by first | exact ⟨HS.out.2.1, HS.out.2.2⟩ | (have hh := HS.out.2; simpa using hh)⟩
      case measure => simp [intOf] <;> omega

def strLen2 : Value → Nat
  | .string s => s.size
  | _ => 0
theorem size_list (b : ByteArray) : b.data.toList.length = b.size := Array.length_toList
theorem drop_one_bytes (b : ByteArray) : (b.extract 1 b.size).data.toList = b.data.toList.drop 1 := by
  rw [ByteArray.data_extract, Array.toList_extract]
  simp [List.extract]
  rw [List.take_of_length_le (by simp)]
theorem head_bytes (b : ByteArray) (h : 0 < b.size) : b.data.toList = b[0] :: b.data.toList.drop 1 := by
  have hl : 0 < b.data.toList.length := by rw [size_list]; exact h
  have := List.drop_eq_getElem_cons hl
  rw [List.drop_zero] at this
  rw [this]; rfl

set_option maxRecDepth 100000 in
set_option maxHeartbeats 1000000 in
theorem trimLeftByte_any (s : ByteArray) (w : World) (hs : s.size ≤ 1000000) :
    Calls Tryd.prog 73 #[.string s, .int .u8 48] w fun e w' => ∃ b : ByteArray, e = .returned (.string b) ∧ b.data.toList = s.data.toList.dropWhile (· == 48) ∧ w = w' := by
  go_enter Tryd.func73, Tryd.ntmps73
  go_wp2
  go_loop [0] (fun v => ∃ b : ByteArray, v = .string b ∧ b.size ≤ 1000000 ∧ Hid (b.data.toList.dropWhile (· == 48) = s.data.toList.dropWhile (· == 48))) (fun v => strLen2 v)
  case atStart => exact ⟨s, rfl, hs, rfl⟩
  case round =>
    obtain ⟨b, rfl, hb, hv⟩ := hrel
    by_cases h0 : 0 < b.size
    · have hh := head_bytes b h0
      have hsz : (b.extract 1 b.size).size = b.size - 1 := by simp [ByteArray.size_extract]
      by_cases h48 : b[0].toNat = 48
      · have e : b[0] = 48 := by apply UInt8.toNat_inj.1; exact h48
        have hd : (b.extract 1 b.size).data.toList.dropWhile (· == 48) = s.data.toList.dropWhile (· == 48) := by
          rw [← hv.out, hh, drop_one_bytes, List.dropWhile_cons, e, if_pos (by decide)]
        have HD := Lib.hid hd
        have HZ := Lib.hid hsz
        have h48' : ((b[0].toNat : Int) == 48) = true := by rw [beq_iff_eq]; omega
        clear hd hsz hh e h48
        go_wp2
        go_round
        case rel => exact ⟨b.extract 1 b.size, rfl, by rw [HZ.out]; omega, HD.out⟩
        case measure => show (b.extract 1 b.size).size < b.size; rw [HZ.out]; omega
      · have h48' : ((b[0].toNat : Int) == 48) = false := by rw [beq_eq_false_iff_ne]; omega
        have hd : b.data.toList = s.data.toList.dropWhile (· == 48) := by
          rw [← hv.out, hh, List.dropWhile_cons, if_neg]
          intro h
          rw [beq_iff_eq] at h
          rw [h] at h48; exact h48 rfl
        have HD := Lib.hid hd
        clear hd hsz hh h48
        go_wp2
        go_ret
        exact ⟨b, rfl, HD.out, rfl⟩
    · have hz : b.data.toList = [] := List.eq_nil_of_length_eq_zero (by rw [size_list]; omega)
      have hd : b.data.toList = s.data.toList.dropWhile (· == 48) := by rw [← hv.out, hz]; rfl
      have HD := Lib.hid hd
      clear hz hd
      go_wp2
      go_ret
      exact ⟨b, rfl, HD.out, rfl⟩

set_option maxRecDepth 100000 in
theorem trimLeft_any (s : ByteArray) (w : World) (hs : s.size ≤ 1000000) :
    Calls Tryd.prog 49 #[.string s, .string ⟨#[48]⟩] w fun e w' => ∃ b : ByteArray, e = .returned (.string b) ∧ b.data.toList = s.data.toList.dropWhile (· == 48) ∧ w = w' := by
  by_cases h0 : s.size = 0
  · have hz : s.data.toList = [] := List.eq_nil_of_length_eq_zero (by rw [size_list]; omega)
    have HD := Lib.hid (show s.data.toList = s.data.toList.dropWhile (· == 48) by rw [hz]; rfl)
    have he : s.toList = [] := by rw [ByteArray.toList_eq]; exact hz
    clear hz h0
    go_enter Tryd.func49, Tryd.ntmps49
    go_wp2_with fail
    go_ret
    exact ⟨s, rfl, HD.out, rfl⟩
  · have hne : s.toList.isEmpty = false := by
      rw [ByteArray.toList_eq, List.isEmpty_eq_false_iff]
      intro h; have := size_list s; rw [h] at this; simp at this; omega
    have hne2 : ¬ s.toList = [] := by
      rw [ByteArray.toList_eq]
      intro h; have := size_list s; rw [h] at this; simp at this; omega
    clear h0
    go_enter Tryd.func49, Tryd.ntmps49
    go_wp2_with fail
    refine (trimLeftByte_any s w hs).mono ?_
    rintro e w1 ⟨b, rfl, hb, rfl⟩
    have HB := Lib.hid hb
    clear hb
    go_wp2_with fail
    go_ret
    exact ⟨b, rfl, HB.out, rfl⟩
end Go.Proofs.YtmnankcllblgjaaDoor.Nat02

namespace Go.Proofs.YtmnankcllblgjaaDoor.Ref02
open Go.RowKit
set_option linter.unusedVariables false
open Go.Proofs.YtmnankcllblgjaaDoor.Dig

/-- a block known whole reads as its digits -/
theorem row_of_is {w : World} {b n : Nat} {t : TypeId} {f : Nat → Value} {ds : List Nat} (h : w.rowIs b t n f) (hd : IsDig ds) (hl : ds.length = n) (hf : ∀ i, i < n → f i = .int .u32 ((ds.getD i 0 : Nat) : Int)) :
    Row w (.slice (some ⟨b, 0, none⟩) n n) ds := by
  subst hl
  refine ⟨hd, _, _, rfl, fun _ => ⟨b, 0, rfl, fun i hi => ?_⟩, Nat.le_refl _⟩
  rw [Nat.zero_add, h.cell hi, hf i hi]
theorem tenth_step {xs os : List Nat} {j L : Nat} (hj : j < xs.length) (hL : L < 10) (hx : xs.getD j 0 < 4294967296) (h : num (xs.drop (j + 1)) = 10 * num os + L) :
    num (xs.drop j) = 10 * num ((L * 4294967296 + xs.getD j 0) / 10 :: os) + (L * 4294967296 + xs.getD j 0) % 10 ∧ (L * 4294967296 + xs.getD j 0) / 10 < 4294967296 := by
  rw [num_drop hj, h, num]
  generalize num os = n at *
  generalize xs.getD j 0 = x at *
  omega

set_option maxRecDepth 100000 in
set_option maxHeartbeats 1000000 in
theorem tenth_any (va : Value) (xs : List Nat) (w : World) (hx : Row w va xs) (lx : xs.length ≤ 10000) :
    Calls Tryd.prog 51 #[va] w fun e w' => ∃ v, e = .returned (.tuple #[v, .int .u64 ((num xs % 10 : Nat) : Int)]) ∧ Row w' v (digs (num xs / 10)) ∧ Since w w' := by
  obtain ⟨i0, hi, hz0, hz1, hz2⟩ := info_parts info_u32
  obtain ⟨dx, A, cA, rfl, hcx, -⟩ := hx
  have HC := Lib.hid hcx
  have HD := Lib.hid dx
  clear hcx dx
  obtain ⟨n, hn⟩ : ∃ n, n = xs.length := ⟨_, rfl⟩
  rw [← hn] at lx ⊢
  have HN := Lib.hid hn
  clear hn
  have hmk : ∀ W : World, (Instr.makeSlice 22 (.int .i64 (n : Int)) (.int .i64 (n : Int))).run Tryd.prog W = .ok (.slice (some ⟨W.heap.size, 0, none⟩) n n) (W.alloc (.cells (madeCells #[.int .u32 0] n) 51)) := fun W => by
    have h := run_make (P := Tryd.prog) W 22 51 i0 (.int .u32 0) Tryd.underlying22 hi hz0 .i64 .i64 n n (by omega) (by omega) (by rw [hz2]; omega) (by omega)
    rw [hz1] at h
    simpa [Value.cells] using h
  go_enter Tryd.func51, Tryd.ntmps51
  go_wp2
  go_loopw [5, 6] (fun l i wr => ∃ (k L : Nat) (os : List Nat), k ≤ n ∧ i = .int .i64 ((k : Int) - 1) ∧ l = .int .u64 L ∧ L < 10 ∧ Hid (IsDig os ∧ os.length = n - k ∧ num (xs.drop k) = 10 * num os + L) ∧ Hid (wr.rowIs w.heap.size 51 n (fun i => .int .u32 (((if i < k then 0 else os.getD (i - k) 0) : Nat) : Int))) ∧ Since w wr) (fun _ i _ => (intOf i + 1).toNat)
  case atStart =>
    refine ⟨n, 0, [], Nat.le_refl _, rfl, rfl, by omega, ⟨isDig_nil, by simp, ?_⟩, ?_, (Since.refl w).alloc _⟩
    · rw [List.drop_of_length_le (by have := HN.out; omega)]; rfl
    · exact (World.rowIs_made w (.int .u32 0) n 51).congr fun i hi => by simp [hi]
  case round =>
    obtain ⟨k, L, os, hk, rfl, rfl, hL, hos, hrow, hw⟩ := hrel
    rcases k with _ | j
    · have hn := HN.out
      obtain ⟨h1, h2, h3⟩ := hos.out
      rw [List.drop_zero] at h3
      have hr : Row wr (.slice (some ⟨w.heap.size, 0, none⟩) n n) os := row_of_is hrow.out h1 (by omega) (fun i _ => by simp)
      have HR := Lib.hid hr
      have e1 : num os = num xs / 10 := by omega
      have e2 : L = num xs % 10 := by omega
      have HE := Lib.hid (And.intro e1 e2)
      have HL := Lib.hid (show os.length ≤ 1000000 by omega)
      clear hr hn h1 h2 h3 e1 e2
      go_wp2_with (go_at_call 71; (with_reducible refine (trim_any _ os _ HR.out HL.out).mono ?_); rintro e w1 ⟨v, rfl, hr, hs⟩)
      go_ret2
      exact ⟨_, by rw [← HE.out.2]; rfl, by rw [← HE.out.1]; exact ‹Row _ v _›, hw.trans ‹_›⟩
    · have e : ((j + 1 : Nat) : Int) - 1 = (j : Int) := by omega
      rw [e]
      clear e
      have hn := HN.out
      obtain ⟨b, o, rfl, hcc⟩ := HC.out (by omega)
      have hcell := (Below.cell hw (World.block_lt_of_cell? _ _ (hcc j (by omega)))).trans (hcc j (by omega))
      have hxb := getD_lt HD.out j
      obtain ⟨h1, h2, h3⟩ := hos.out
      have hst := tenth_step (by omega) hL hxb h3
      obtain ⟨x, hx⟩ : ∃ x, x = xs.getD j 0 := ⟨_, rfl⟩
      rw [← hx] at hcell hst hxb
      obtain ⟨q, hq⟩ : ∃ q, q = (L * 4294967296 + x) / 10 := ⟨_, rfl⟩
      obtain ⟨r, hr⟩ : ∃ r, r = (L * 4294967296 + x) % 10 := ⟨_, rfl⟩
      have iq : ((L : Int) * 4294967296 + (x : Int)) / 10 = (q : Int) := by omega
      have ir : ((L : Int) * 4294967296 + (x : Int)) % 10 = (r : Int) := by omega
      have hr10 : r < 10 := by omega
      rw [← hq, ← hr] at hst
      obtain ⟨hst1, hst2⟩ := hst
      have HS := Lib.hid (And.intro hst1 (And.intro h1 h2))
      have g1 := hrow.out.cell (i := j) (by omega)
      have g2 := hrow.out.frozen j
      rw [if_pos (by omega)] at g1
      have hj : j < n := by omega
      clear hcc hx hn h1 h2 h3 hst1 hq hr
      go_wp2
      go_roundw
      case rel =>
        obtain ⟨k1, k2, k3⟩ := HS.out
        refine ⟨j, r, q :: os, by omega, rfl, (by rw [ir]), hr10, ⟨?_, ?_, k1⟩, ?_, hw.set (Nat.le_refl _) _⟩
        · intro d hd
          rcases List.mem_cons.mp hd with rfl | hd
          · exact hst2
          · exact k2 d hd
        · simp; omega
        · refine (hrow.out.set j (.int .u32 (q : Int))).congr fun i hi => ?_
          by_cases h1 : i = j
          · subst h1
            rw [if_pos rfl, if_neg (by omega), Nat.sub_self]
            simp [List.getD]
          · rw [if_neg h1]
            by_cases h2 : i < j
            · rw [if_pos (by omega), if_pos h2]
            · rw [if_neg (by omega), if_neg h2, show i - j = (i - (j + 1)) + 1 by omega]
              simp [List.getD]
      case measure => simp [intOf] <;> omega
end Go.Proofs.YtmnankcllblgjaaDoor.Ref02

namespace Go.Proofs.YtmnankcllblgjaaDoor.Ref02
open Go.RowKit
set_option linter.unusedVariables false
open Go.Proofs.YtmnankcllblgjaaDoor.Dig

def strLen : Value → Nat
  | .string s => s.size
  | _ => 0

theorem enc_digit {r : Nat} (h : r < 10) : Utf8.encode (48 + (r : Int)) = ⟨#[UInt8.ofNat (48 + r)]⟩ := by
  rcases (show r = 0 ∨ r = 1 ∨ r = 2 ∨ r = 3 ∨ r = 4 ∨ r = 5 ∨ r = 6 ∨ r = 7 ∨ r = 8 ∨ r = 9 by omega) with rfl | rfl | rfl | rfl | rfl | rfl | rfl | rfl | rfl | rfl <;> rfl

set_option maxRecDepth 100000 in
set_option maxHeartbeats 1000000 in
theorem text_any (va : Value) (xs : List Nat) (w : World) (hx : Row w va xs) (lx : xs.length ≤ 10000) (r1 : rightB xs = true) (h0 : xs.length ≠ 0) :
    Calls Tryd.prog 26 #[va] w fun e w' => e = .returned (.tuple #[.string ⟨(text (num xs)).toArray⟩, .int .i64 0]) ∧ Since w w' := by
  have HX := Lib.hid hx
  have HN := Lib.hid (And.intro (right_norm r1).2 (num_pos (right_norm r1).2 h0))
  obtain ⟨dx, A, cA, rfl, hcx, -⟩ := hx
  have HD := Lib.hid dx
  clear hcx dx
  have hz : ((xs.length : Int) == 0) = false := by rw [beq_eq_false_iff_ne]; omega
  go_enter Tryd.func26, Tryd.ntmps26
  go_wp2_with (first
    | (go_at_call 50; (with_reducible refine (right_any (.slice A xs.length cA) xs _ HX.out (by omega)).mono ?_); rintro e w1 ⟨rfl, rfl⟩))
  go_loopw [0, 4] (fun a s wr => ∃ (N : Nat) (t : List UInt8), Row wr a (digs N) ∧ (digs N).length ≤ xs.length ∧ s = .string ⟨t.toArray⟩ ∧ decs N ++ t = decs (num xs) ∧ Since w wr) (fun _ s _ => (decs (num xs)).length - strLen s)
  case atStart => exact ⟨num xs, [], by rw [digs_num HD.out HN.out.1]; exact HX.out, by rw [digs_num HD.out HN.out.1]; exact Nat.le_refl _, rfl, by simp, Since.refl _⟩
  case round =>
    obtain ⟨N, t, hr, hl, rfl, ht, hw⟩ := hrel
    have HT := Lib.hid ht
    by_cases hN : N = 0
    · subst hN
      have hdz : digs 0 = [] := rfl
      rw [hdz] at hr
      obtain ⟨d1, B, cB, rfl, _, -⟩ := hr
      have e : text (num xs) = t := by
        have h1 := HN.out.2
        rw [text, if_neg (by omega), ← ht, decs_zero, List.nil_append]
      have HE := Lib.hid e
      clear ht e hdz
      go_wp2
      go_ret2
      exact ⟨congrArg (fun l : List UInt8 => Ending.returned (.tuple #[.string ⟨l.toArray⟩, .int .i64 0])) HE.out.symm, hw⟩
    · have hl0 : 0 < (digs N).length := by rw [digs_pos hN]; simp
      have hp := decs_part hN ht
      have HP := Lib.hid hp.1
      have hM := decs_num_len HD.out
      have htl := hp.2
      have HL := Lib.hid htl
      have htl2 : t.length ≤ 100000 := by omega
      obtain ⟨r, hr10⟩ : ∃ r, r = N % 10 := ⟨_, rfl⟩
      have hrb : r < 10 := by omega
      have hre : (N : Int) % 10 = (r : Int) := by omega
      have henc := enc_digit hrb
      obtain ⟨c, hc⟩ : ∃ c, c = UInt8.ofNat (48 + r) := ⟨_, rfl⟩
      rw [← hc] at henc
      have HCC := Lib.hid hc
      clear hc
      have HRR := Lib.hid hr10
      obtain ⟨n, hn⟩ : ∃ n, n = (digs N).length := ⟨_, rfl⟩
      have HR := Lib.hid hr
      have hrN := hr
      obtain ⟨d1, B, cB, rfl, _, -⟩ := hr
      rw [← hn] at hl hl0 HR ⊢
      have HNN := Lib.hid hn
      have hlen := Nat.le_trans (digs_len_mono (Nat.div_le_self N 10)) (by omega : (digs N).length ≤ xs.length)
      have HLE := Lib.hid hlen
      clear hrN hp hM htl ht d1 hr10 hN hn hlen
      go_wp2_with (first
        | (go_at_call 51; (with_reducible refine (tenth_any _ (digs N) _ HR.out (by rw [← HNN.out]; omega)).mono ?_); rw [num_digs, ← HRR.out]; rintro e w1 ⟨v, rfl, hv, hs⟩))
      go_roundw
      case rel =>
        refine ⟨N / 10, c :: t, ‹Row _ v _›, HLE.out, by rw [bytes_cons], ?_, hw.trans ‹_›⟩
        rw [HCC.out, HRR.out]; exact HP.out
      case measure =>
        have := HL.out
        rw [bytes_cons]
        simp [strLen, ByteArray.size]
        omega

/-- what the document says of Text -/
def textD (xs : List Nat) : List UInt8 × Int := if rightB xs = true then (text (num xs), 0) else ([], 2)
theorem text_full (va : Value) (xs : List Nat) (w : World) (hx : Row w va xs) (lx : xs.length ≤ 10000) :
    Calls Tryd.prog 26 #[va] w fun e w' => e = .returned (.tuple #[.string ⟨(textD xs).1.toArray⟩, .int .i64 (textD xs).2]) ∧ Since w w' := by
  by_cases r1 : rightB xs = true
  · by_cases h0 : xs.length = 0
    · have e : textD xs = ([48], 0) := by
        have : xs = [] := List.eq_nil_of_length_eq_zero h0
        rw [textD, if_pos r1, this]; rfl
      rw [e]
      have HX := Lib.hid hx
      obtain ⟨dx, A, cA, rfl, _, -⟩ := hx
      have hz : ((xs.length : Int) == 0) = true := by rw [beq_iff_eq]; omega
      clear e h0 dx
      go_enter Tryd.func26, Tryd.ntmps26
      go_wp2_with (first
        | (go_at_call 50; (with_reducible refine (right_any (.slice A xs.length cA) xs _ HX.out (by omega)).mono ?_); rintro e w1 ⟨rfl, rfl⟩))
      go_ret2
      exact ⟨rfl, Since.refl _⟩
    · have e : textD xs = (text (num xs), 0) := by rw [textD, if_pos r1]
      rw [e]
      exact text_any va xs w hx lx r1 h0
  · have r1' : rightB xs = false := by simpa using r1
    have e : textD xs = ([], 2) := by rw [textD, if_neg r1]
    rw [e]
    have HX := Lib.hid hx
    clear e r1 hx
    go_enter Tryd.func26, Tryd.ntmps26
    go_wp2_with (first
      | (go_at_call 50; (with_reducible refine (right_any va xs _ HX.out (by omega)).mono ?_); rintro e w1 ⟨rfl, rfl⟩))
    go_ret2
    exact ⟨rfl, Since.refl _⟩
end Go.Proofs.YtmnankcllblgjaaDoor.Ref02

namespace Go.Proofs.YtmnankcllblgjaaDoor.Nat02
open Go.RowKit
set_option linter.unusedVariables false
open Go.Proofs.YtmnankcllblgjaaDoor.Dig
open Go.Proofs.YtmnankcllblgjaaDoor.Ref02 (textD)

theorem info_u8 : (Tryd.prog.info? 5).map (fun i => (i.zero, i.size, i.bytes)) = some (some (.int .u8 0), 1, 1) := by kernel_rfl
theorem make_bytes (n : Nat) (hn : n ≤ 1000000) (W : World) : (Instr.makeSlice 79 (.int .i64 (n : Int)) (.int .i64 (n : Int))).run Tryd.prog W = .ok (.slice (some ⟨W.heap.size, 0, none⟩) n n) (W.alloc (.cells (madeCells #[.int .u8 0] n) 5)) := by
  obtain ⟨i0, hi, hz0, hz1, hz2⟩ := info_parts info_u8
  have h := run_make (P := Tryd.prog) W 79 5 i0 (.int .u8 0) Tryd.underlying79 hi hz0 .i64 .i64 n n (by omega) (by omega) (by rw [hz2]; omega) (by omega)
  rw [hz1] at h
  simpa [Value.cells] using h
theorem bytes_back {w : World} {h F L T : Nat} {ds outs : List Nat} (hb : BB w h (splice ds F outs)) (hF : F + outs.length = ds.length) (ho : outs.length = T) :
    (convert 79 9 (.slice (some ⟨h, F, none⟩) T L)).run Tryd.prog w = .ok (.string (strOfNums (outs.map fun (n : Nat) => (n : Int)))) w := by
  refine run_convert_bytes_arg w 79 5 Tryd.underlying79 Tryd.underlying5 h F T L _ (by simp [ho]) (fun i hi => ?_) _ Tryd.underlying9
  have := hb.cell (i := F + i) (by rw [splice_len (by omega)]; omega)
  rw [splice_getD_mid (by omega) (by omega)] at this
  rw [this]
  simp [List.getD, show i < outs.length by omega]
theorem strOf_bytes (ds : List Nat) : (strOfNums (ds.map fun (n : Nat) => (n : Int))).data.toList = bytesOf ds := by
  rw [strOfNums_data, bytesOf, List.map_map]
  rfl

theorem splice_join {ds a b : List Nat} {F F2 : Nat} (h : F2 + a.length = F) (hl : F + b.length ≤ ds.length) : splice (splice ds F b) F2 a = splice ds F2 (a ++ b) := by
  subst h
  unfold splice
  have e1 : (ds.take (F2 + a.length) ++ b ++ ds.drop (F2 + a.length + b.length)).take F2 = ds.take F2 := by
    rw [List.append_assoc, List.take_append_of_le_length (by simp; omega), List.take_take, Nat.min_eq_left (by omega)]
  have e2 : (ds.take (F2 + a.length) ++ b ++ ds.drop (F2 + a.length + b.length)).drop (F2 + a.length) = b ++ ds.drop (F2 + a.length + b.length) := by
    rw [List.append_assoc, List.drop_append_of_le_length (by simp; omega), List.drop_of_length_le (by simp; omega), List.nil_append]
  rw [e1, e2]
  simp [Nat.add_assoc]
set_option maxRecDepth 100000 in
set_option maxHeartbeats 4000000 in
theorem text_good (va : Value) (xs : List Nat) (w : World) (hx : Row w va xs) (r1 : rightB xs = true) (h0 : xs.length ≠ 0) :
    Calls Tryd.prog 24 #[va] w fun e w' => e = .returned (.tuple #[.string ⟨(text (num xs)).toArray⟩, .int .i64 0]) ∧ Since w w' := by
  have HX := Lib.hid hx
  have nx := right_norm r1
  have hp := num_pos nx.2 h0
  have dx := hx.dig
  obtain ⟨_, A, cA, rfl, -, -⟩ := hx
  obtain ⟨n, hn⟩ : ∃ n, n = xs.length := ⟨_, rfl⟩
  have hn1 : n ≤ 256 := by omega
  have hcl := fun (W : World) (h1 : Row W (.slice A n cA) xs) => clone_any (.slice A n cA) xs n W h1 (by omega) (by omega)
  rw [show xs.take n = xs by rw [List.take_of_length_le (by omega)]] at hcl
  have hcl2 : ∀ (W : World), Row W (.slice A n cA) xs → Calls Tryd.prog 45 #[.slice A n cA, .int .i64 (n : Int)] W fun e w' => ∃ g, e = .returned (.slice (some ⟨g, 0, none⟩) n n) ∧ W.heap.size ≤ g ∧ Blk w' g xs ∧ Since W w' := fun W h1 => (hcl W h1).mono fun e w' ⟨g, he, hg, hb, hs⟩ => ⟨g, by rw [he, hn], hg, hb, hs⟩
  have HCL := Lib.hid hcl2
  rw [← hn] at HX ⊢
  have hz : ((n : Int) == 0) = false := by rw [beq_eq_false_iff_ne]; omega
  obtain ⟨DL, hDL⟩ : ∃ l : Nat, l = 10 * n + 9 := ⟨_, rfl⟩
  have hDi : 10 * (n : Int) + 9 = (DL : Int) := by omega
  have hDL1 : DL ≤ 2569 := by omega
  have hmk := make_bytes DL (by omega)
  have hlt : num xs < 10 ^ (10 * n) := by rw [hn]; exact Nat.lt_of_lt_of_le (num_lt dx) (ten_pow _)
  obtain ⟨M, hM⟩ : ∃ m, m = num xs := ⟨_, rfl⟩
  have hdg : digs (num xs) = xs := digs_num dx nx.2
  rw [← hM] at hp hlt hdg ⊢
  have HN := Lib.hid (And.intro hn (And.intro hDL (And.intro hlt (And.intro hp (And.intro hdg r1)))))
  clear nx hp dx hn hcl hcl2 hDL hlt hdg hM r1 h0
  go_enter Tryd.func24, Tryd.ntmps24
  go_wp2_with (first
    | (go_at_call 33; (with_reducible refine (right_yes (.slice A n cA) xs _ HX.out (by have := HN.out; omega)).mono ?_); rw [HN.out.2.2.2.2.2]; rintro e w1 ⟨rfl, rfl⟩)
    | (go_at_call 45; (with_reducible refine (HCL.out _ HX.out).mono ?_); rintro e w1 ⟨g, rfl, hg1, hb1, hs1⟩; have H1 := Lib.hid (And.intro hg1 (And.intro hb1 hs1)); clear hg1 hb1 hs1))
  have hgh := H1.out.2.1.lt
  obtain ⟨hh, hhh⟩ : ∃ h, h = w1.heap.size := ⟨_, rfl⟩
  have H0 := Lib.hid (And.intro (show g ≠ hh by omega) (show w.heap.size ≤ hh by have := H1.out.2.2.size; omega))
  have HHH := Lib.hid hhh
  rw [← hhh]
  clear hgh hhh
  go_loopw [4, 6] (fun r f wr => ∃ (T N k F : Nat) (ds : List Nat), r = .slice (some ⟨g, 0, none⟩) k n ∧ f = .int .i64 (F : Int) ∧ F ≤ DL ∧ k ≤ n ∧ Hid (F + 9 * T = DL ∧ N = M / 10 ^ (9 * T)) ∧ Hid (k = (digs N).length ∧ ds.length = n ∧ ds.take k = digs N) ∧ Hid (Blk wr g ds ∧ BB wr hh (splice (List.replicate DL 0) F (decsN (9 * T) M)) ∧ Since w wr)) (fun _ f _ => (intOf f).toNat)
  case atStart =>
    have hNN := HN.out
    refine ⟨0, M, n, DL, xs, rfl, rfl, Nat.le_refl _, Nat.le_refl _, ⟨by omega, by simp⟩, ⟨by rw [hNN.2.2.2.2.1]; exact hNN.1, hNN.1.symm, by rw [hNN.2.2.2.2.1, List.take_of_length_le (by omega)]⟩, H1.out.2.1.alloc _, ?_, H1.out.2.2.alloc _⟩
    rw [decsN, splice_nil, HHH.out]
    exact BB.made w1 DL
  case round =>
    obtain ⟨T, N, k, F, ds, rfl, rfl, hF, hkn, hv, hd, hb⟩ := hrel
    have hNN := HN.out
    by_cases hk : k = 0
    · have hN0 : N = 0 := by
        rcases Nat.eq_zero_or_pos N with h | h
        · exact h
        · have := hd.out.1
          rw [digs_pos (by omega)] at this
          simp at this; omega
      have hlt : M < 10 ^ (9 * T) := by
        have h1 := hv.out.2
        rw [hN0] at h1
        have hp := Nat.pow_pos (n := 9 * T) (show 0 < 10 by omega)
        have h2 := Nat.div_add_mod M (10 ^ (9 * T))
        rw [← h1, Nat.mul_zero, Nat.zero_add] at h2
        rw [← h2]
        exact Nat.mod_lt _ hp
      have hT : 0 < T := by
        rcases Nat.eq_zero_or_pos T with h | h
        · subst h; simp at hlt; omega
        · exact h
      have hFL : F < DL := by have := hv.out.1; omega
      have hcv := bytes_back (w := wr) (L := DL - F) hb.out.2.1 (by rw [decsN_len, List.length_replicate]; exact hv.out.1) (decsN_len _ _)
      have h9 : DL - F = 9 * T := by have := hv.out.1; omega
      obtain ⟨bs, hbs⟩ : ∃ b, b = strOfNums ((decsN (9 * T) M).map fun (n : Nat) => (n : Int)) := ⟨_, rfl⟩
      have hbz : bs.size = 9 * T := by rw [hbs, strOfNums_size]; simp [decsN_len]
      have hbl : bs.data.toList = bytesOf (decsN (9 * T) M) := by rw [hbs]; exact strOf_bytes _
      have htx : bs.data.toList.dropWhile (· == 48) = text M := by
        rw [hbl, dropw_decs _ _ hlt, text, if_neg (by omega)]
      rw [← hbs, ← h9] at hcv
      have i1 : (0 : Int) ≤ (F : Int) := by omega
      have i2 : (F : Int) ≤ (DL : Int) := by omega
      have i3 : DL ≠ F := by omega
      have HTX := Lib.hid (And.intro htx (show bs.size ≤ 1000000 by have := hv.out.1; omega))
      have hk2 : ((k : Int) > 0) = False := by simp; omega
      clear hN0 hlt hT hbs hbz hbl htx hNN h9
      subst hk
      go_wp2_with fail
      refine (trimLeft_any bs wr HTX.out.2).mono ?_
      rintro e w4 ⟨b, rfl, hbb, rfl⟩
      have hbe : b = ⟨(text M).toArray⟩ := by
        apply ByteArray.ext
        rw [← HTX.out.1, ← hbb]
      subst hbe
      clear hbb
      go_wp2_with fail
      go_ret2
      exact ⟨rfl, hb.out.2.2⟩
    · have hN1 : 0 < N := by
        rcases Nat.eq_zero_or_pos N with h | h
        · rw [h, digs_zero] at hd
          have := hd.out.1
          simp at this; omega
        · exact h
      have hF9 : 9 ≤ F := by
        have h1 := hv.out.2
        have hp := Nat.pow_pos (n := 9 * T) (show 0 < 10 by omega)
        have h2 := Nat.div_add_mod M (10 ^ (9 * T))
        rw [← h1] at h2
        have h3 : 10 ^ (9 * T) * 1 ≤ 10 ^ (9 * T) * N := Nat.mul_le_mul_left _ hN1
        have h4 := pow_lt_of (a := 9 * T) (b := 10 * n) (by have := hNN.2.2.1; omega)
        have := hv.out.1
        omega
      have hgl : ∀ i, i < k → ds.getD i 0 = (digs N).getD i 0 := fun i hi => by
        rw [← hd.out.2.2]
        simp only [List.getD]
        rw [List.getElem?_take, if_pos hi]
      have hrow : Row wr (.slice (some ⟨g, 0, none⟩) k n) (digs N) := by
        have := hb.out.1.row (o := 0) (n := k) (c := n) (by have := hd.out; omega) hkn
        rw [List.drop_zero, hd.out.2.2] at this
        exact this
      have hBY := byDigit_any g 0 k n (some ⟨g, 0, none⟩) n ds (digs N) 1000000000 wr hb.out.1 (by have := hd.out; omega) (by have := hd.out; omega) (by have := hd.out.1; omega) (by rw [← hd.out.1]; exact hrow) (.inl hd.out.1) (by omega) (by omega) (fun wr' k' outs e1 e2 e3 i hi => ⟨g, 0, rfl, by
        have hc := e2.cell (i := 0 + i) (by rw [splice_len (by have := hd.out; omega)]; have := hd.out; omega)
        rw [splice_getD_lt (by omega) (by have := hd.out; omega)] at hc
        rw [hc, Nat.zero_add, hgl i (by omega)]⟩)
      rw [← hd.out.1] at hBY
      have HBY := Lib.hid hBY
      obtain ⟨F2, hF2⟩ : ∃ f, f = F - 9 := ⟨_, rfl⟩
      have hFi : (F : Int) - 9 = (F2 : Int) := by omega
      have i1 : (0 : Int) ≤ (F2 : Int) := by omega
      have i2 : (F2 : Int) + 9 ≤ (DL : Int) := by omega
      have i3 : DL ≠ F2 := by omega
      have i4 : F2 + 9 - F2 = 9 := by omega
      have i5 : ((F2 : Int) + 9).toNat = F2 + 9 := by omega
      have i6 : (F2 : Int) ≤ (F2 : Int) + 9 := by omega
      have i7 : ¬ n = 0 := by omega
      have HF2 := Lib.hid (And.intro hF2 hF9)
      have hk0 : 0 < k := by omega
      clear hF2 hF9 hgl hrow hBY hNN hN1 hk
      go_wp2_with fail
      refine HBY.out.mono ?_
      rintro e w4 ⟨outs, rfl, ho1, ho2, ho3, ho4, ho5⟩
      rw [num_digs] at ho3 ⊢
      obtain ⟨G, hG⟩ : ∃ g, g = N % 1000000000 := ⟨_, rfl⟩
      rw [← hG]
      have hG1 : G < 4294967296 := by omega
      have hds := hd.out
      have hrow2 : Row w4 (.slice (some ⟨g, 0, none⟩) k n) outs := by
        have := ho4.row (o := 0) (n := k) (c := n) (by rw [splice_len (by omega)]; omega) hkn
        rw [window_splice (by omega) ho1] at this
        exact this
      have hsig := sig_le ho2
      have htk := take_sig ho2
      have hse : sig outs = (digs (N / 1000000000)).length := by unfold sig; rw [ho3]
      obtain ⟨k2, hk2⟩ : ∃ k2, k2 = sig outs := ⟨_, rfl⟩
      rw [← hk2] at hsig htk hse
      rw [ho3] at htk
      have hk2n : k2 ≤ n := by omega
      have hk2i : (k2 : Int) ≤ (n : Int) := by omega
      have hbb4 := hb.out.2.1.grown ho5 (by intro h; injection h with h; exact H0.out.1 h.symm)
      have htk2 : (splice ds 0 outs).take k2 = digs (N / 1000000000) := by
        rw [htk]
        unfold splice
        rw [List.take_zero, List.nil_append, List.take_append_of_le_length (by omega)]
      have hs4 := only_since hb.out.2.2 ho5 (by have := H1.out.1; exact this)
      have hspl : (splice ds 0 outs).length = n := by rw [splice_len (by omega)]; omega
      have H4 := Lib.hid (And.intro hrow2 (And.intro hse (And.intro htk2 (And.intro hbb4 (And.intro ho4 (And.intro hs4 (And.intro hspl (And.intro hk2 hG))))))))
      clear ho1 ho2 ho3 ho4 ho5 hds hrow2 hsig htk hse htk2 hbb4 hs4 hspl hk2 hG
      go_wp2_with fail
      refine (significant_any (.slice (some ⟨g, 0, none⟩) k n) outs w4 H4.out.1 (by have := H4.out.1.2; obtain ⟨A', c', e, -⟩ := this; injection e with e1 e2 e3; omega)).mono ?_
      rw [← H4.out.2.2.2.2.2.2.2.1]
      rintro e w5 ⟨rfl, rfl⟩
      go_wp2_with fail
      refine (writeGroup_any hh F2 (DL - F2) G (splice (List.replicate DL 0) F (decsN (9 * T) M)) _ H4.out.2.2.2.1 (by rw [splice_len (by rw [decsN_len, List.length_replicate]; have := hv.out.1; omega)]; simp; omega) hG1 (by rw [splice_len (by rw [decsN_len, List.length_replicate]; have := hv.out.1; omega)]; simp; omega)).mono ?_
      rintro e w6 ⟨rfl, hbb6, hon6⟩
      have hspl6 : splice (splice (List.replicate DL 0) F (decsN (9 * T) M)) F2 (decsN 9 G) = splice (List.replicate DL 0) F2 (decsN (9 * (T + 1)) M) := by
        rw [group_text, ← hv.out.2, ← H4.out.2.2.2.2.2.2.2.2]
        exact splice_join (by rw [decsN_len]; have := HF2.out; omega) (by rw [decsN_len, List.length_replicate]; have := hv.out.1; omega)
      rw [hspl6] at hbb6
      have H6 := Lib.hid (And.intro hbb6 (And.intro (H4.out.2.2.2.2.1.grown hon6 (by intro h; injection h with h; exact H0.out.1 h)) (only_since H4.out.2.2.2.2.2.1 hon6 H0.out.2)))
      clear hbb6 hon6 hspl6
      go_wp2_with fail
      go_roundw
      case rel => exact ⟨T + 1, N / 1000000000, k2, F2, splice ds 0 outs, rfl, rfl, by omega, hk2n, ⟨by have := hv.out.1; have := HF2.out; omega, by rw [hv.out.2]; exact group_next M T⟩, ⟨H4.out.2.1, H4.out.2.2.2.2.2.2.1, H4.out.2.2.1⟩, H6.out.2.1, H6.out.1, H6.out.2.2⟩
      case measure => simp [intOf]; have := HF2.out; omega
theorem text_any (va : Value) (xs : List Nat) (w : World) (hx : Row w va xs) (lx : xs.length ≤ 10000) :
    Calls Tryd.prog 24 #[va] w fun e w' => e = .returned (.tuple #[.string ⟨(textD xs).1.toArray⟩, .int .i64 (textD xs).2]) ∧ Since w w' := by
  by_cases r1 : rightB xs = true
  · by_cases h0 : xs.length = 0
    · have e : textD xs = ([48], 0) := by
        have : xs = [] := List.eq_nil_of_length_eq_zero h0
        rw [textD, if_pos r1, this]; rfl
      rw [e]
      have H := Lib.hid hx
      obtain ⟨_, A, c, rfl, -, -⟩ := hx
      have hz : ((xs.length : Int) == 0) = true := by rw [beq_iff_eq]; omega
      clear e h0
      go_enter Tryd.func24, Tryd.ntmps24
      go_wp2_with (go_at_call 33; (with_reducible refine (right_yes (.slice A xs.length c) xs _ H.out lx).mono ?_); rintro e w1 ⟨rfl, rfl⟩)
      go_ret2
      exact ⟨rfl, Since.refl _⟩
    · have e : textD xs = (text (num xs), 0) := by rw [textD, if_pos r1]
      rw [e]
      exact text_good va xs w hx r1 h0
  · have e : textD xs = ([], 2) := by rw [textD, if_neg r1]
    rw [e]
    have r1' : rightB xs = false := by simpa using r1
    have H := Lib.hid hx
    clear r1 e hx
    go_enter Tryd.func24, Tryd.ntmps24
    go_wp2_with (go_at_call 33; (with_reducible refine (right_yes va xs _ H.out lx).mono ?_); rintro e w1 ⟨rfl, rfl⟩)
    go_ret2
    exact ⟨rfl, Since.refl _⟩
end Go.Proofs.YtmnankcllblgjaaDoor.Nat02

namespace Go.Proofs.YtmnankcllblgjaaDoor.Ref02
open Go.RowKit
set_option linter.unusedVariables false
open Go.Proofs.YtmnankcllblgjaaDoor.Dig

theorem fit_any (v : Value) (ds : List Nat) (w : World) (h : Row w v ds) (hl : ds.length ≤ 1000000) :
    Calls Tryd.prog 58 #[v] w (if ds.length ≤ 256 then RetRowErr ds 0 w else RetRowErr [] 3 w) := by
  have H := Lib.hid h
  obtain ⟨_, A, c, rfl, _, -⟩ := h
  by_cases hb : ds.length ≤ 256
  · rw [if_pos hb]
    go_enter Tryd.func58, Tryd.ntmps58
    go_wp2
    go_ret2
    exact ⟨_, rfl, H.out, Since.refl _⟩
  · rw [if_neg hb]
    go_enter Tryd.func58, Tryd.ntmps58
    go_wp2
    go_ret2
    exact ⟨_, rfl, Row.nil _, Since.refl _⟩
end Go.Proofs.YtmnankcllblgjaaDoor.Ref02

namespace Go.Proofs.YtmnankcllblgjaaDoor.Ref02
open Go.RowKit
set_option linter.unusedVariables false
open Go.Proofs.YtmnankcllblgjaaDoor.Dig

theorem take_byte (s : ByteArray) (k : Nat) (h : k < s.size) : s.data.toList.take (k + 1) = s.data.toList.take k ++ [s[k]] := by
  rw [List.take_succ_eq_append_getElem (by simpa using h)]; rfl

/-- the last part: all are digits, and not too many -/
def parseD (bs : List UInt8) : List Nat × Int :=
  if bs.length = 0 ∨ (1 < bs.length ∧ (bs.getD 0 0).toNat = 48) then ([], 5) else if allDec bs = false then ([], 5) else if 2000 < bs.length then ([], 3) else fitD (undec bs)

theorem getD_byte (s : ByteArray) (k : Nat) (h : k < s.size) : s.data.toList.getD k 0 = s[k] := by
  have : k < s.data.toList.length := Nat.lt_of_lt_of_eq h (Array.length_toList (xs := s.data)).symm
  simp only [List.getD, List.getElem?_eq_getElem this]; rfl
theorem allDec_take_false {bs : List UInt8} {k : Nat} (h : allDec (bs.take k) = false) : allDec bs = false := by
  have e : bs = bs.take k ++ bs.drop k := (List.take_append_drop k bs).symm
  rw [e]
  simp only [allDec, List.all_append] at h ⊢
  rw [h]; rfl
theorem undec_len {bs : List UInt8} (h : allDec bs = true) : undec bs < 10 ^ bs.length := by
  obtain ⟨n, hn⟩ : ∃ n, n = bs.length := ⟨_, rfl⟩
  induction n generalizing bs with
  | zero =>
    have : bs = [] := List.eq_nil_of_length_eq_zero hn.symm
    subst this; simp [undec]
  | succ n ih =>
    obtain ⟨b, hb⟩ : ∃ b, bs = bs.take n ++ [b] := ⟨bs[n]'(by omega), by
      rw [← List.take_succ_eq_append_getElem (by omega), List.take_of_length_le (by omega)]⟩
    have hl : (bs.take n).length = n := by rw [List.length_take]; omega
    have h2 : allDec (bs.take n) = true ∧ b.toNat ≤ 57 := by
      rw [hb, allDec_snoc] at h
      simp at h
      exact ⟨h.1, h.2.2⟩
    have h3 := ih h2.1 hl.symm
    rw [hl] at h3
    rw [← hn, hb, undec_snoc, Nat.pow_succ]
    omega
theorem undec_digs_len {bs : List UInt8} (h : allDec bs = true) : (digs (undec bs)).length ≤ bs.length := by
  apply digs_len_le
  exact Nat.lt_of_lt_of_le (undec_len h) (Nat.pow_le_pow_left (by decide) _)

theorem scaled_ten (va : Value) (xs : List Nat) (w : World) (hx : Row w va xs) (lx : xs.length ≤ 100000) :
    Calls Tryd.prog 57 #[va, .int .u64 10, .int .i64 0] w (RetRow (digs (num xs * 10)) w) := by
  have h := scaled_any va xs 10 0 w hx lx (by omega) (by omega)
  rw [Nat.pow_zero, Nat.one_mul] at h
  exact h
set_option maxRecDepth 100000 in
set_option maxHeartbeats 2000000 in
theorem parse_any (s : ByteArray) (w : World) (hs : s.size ≤ 100000) :
    Calls Tryd.prog 30 #[.string s] w (RetRowErr (parseD s.data.toList).1 (parseD s.data.toList).2 w) := by
  have hz : s.data.toList.length = s.size := Array.length_toList
  by_cases h0 : s.size = 0
  · have e : parseD s.data.toList = ([], 5) := by rw [parseD, if_pos (.inl (by omega))]
    rw [e]
    have he : s.toList = [] := by rw [ByteArray.toList_eq]; exact List.eq_nil_of_length_eq_zero (by omega)
    clear e hz h0
    go_enter Tryd.func30, Tryd.ntmps30
    go_wp2
    go_ret2
    exact ⟨_, rfl, Row.nil _, Since.refl _⟩
  have hne : s.toList.isEmpty = false := by
    rw [ByteArray.toList_eq, List.isEmpty_eq_false_iff]
    intro h; rw [h] at hz; simp at hz; omega
  have hne2 : ¬ s.toList = [] := by
    rw [ByteArray.toList_eq]
    intro h; rw [h] at hz; simp at hz; omega
  have hp : 0 < s.size := by omega
  by_cases h1 : 1 < s.size ∧ (s[0].toNat = 48)
  · have e : parseD s.data.toList = ([], 5) := by
      rw [parseD, if_pos (.inr ⟨by omega, by rw [getD_byte s 0 hp]; exact h1.2⟩)]
    rw [e]
    obtain ⟨h2, h3⟩ := h1
    have h4 : ((s[0].toNat : Int) == 48) = true := by rw [beq_iff_eq]; omega
    clear e hz h0 h3
    go_enter Tryd.func30, Tryd.ntmps30
    go_wp2
    go_ret2
    exact ⟨_, rfl, Row.nil _, Since.refl _⟩
  have h2 : s.size ≤ 1 ∨ (1 < s.size ∧ ((s[0].toNat : Int) == 48) = false) := by
    rcases Nat.lt_or_ge 1 s.size with h | h
    · right
      refine ⟨h, ?_⟩
      rw [beq_eq_false_iff_ne]
      intro h3
      exact h1 ⟨h, by omega⟩
    · left; exact h
  obtain ⟨R, hR⟩ : ∃ R, R = (if allDec s.data.toList = false then (([], 5) : List Nat × Int) else if 2000 < s.data.toList.length then ([], 3) else fitD (undec s.data.toList)) := ⟨_, rfl⟩
  have e : parseD s.data.toList = R := by
    rw [hR, parseD, if_neg]
    rintro (h | h)
    · omega
    · rw [getD_byte s 0 hp] at h
      exact h1 ⟨by omega, h.2⟩
  rw [e]
  have HR := Lib.hid hR
  have HZ := Lib.hid hz
  clear e h1 hR hz h0
  rcases h2 with h2 | ⟨h2, h3⟩
  all_goals
    go_enter Tryd.func30, Tryd.ntmps30
    go_wp2
    go_loop [4] (fun i => ∃ k : Nat, k ≤ s.size ∧ i = .int .i64 k ∧ Hid (allDec (s.data.toList.take k) = true)) (fun i => s.size - (intOf i).toNat)
    case atStart => exact ⟨0, Nat.zero_le _, rfl, rfl⟩
    case round =>
      obtain ⟨k, hk, rfl, had⟩ := hrel
      by_cases hlt : k < s.size
      · have ht := take_byte s k hlt
        by_cases hb : 48 ≤ s[k].toNat ∧ s[k].toNat ≤ 57
        · obtain ⟨hb1, hb2⟩ := hb
          have h3 : allDec (s.data.toList.take (k + 1)) = true := by
            rw [ht, allDec_snoc, had.out]; simp; omega
          have H3 := Lib.hid h3
          clear ht h3
          go_wp2
          go_round
          case rel => exact ⟨k + 1, by omega, by go_num, H3⟩
          case measure => simp [intOf]; omega
        · have h3 : allDec (s.data.toList.take (k + 1)) = false := by
            rw [ht, allDec_snoc, had.out]; simp; omega
          have e : R = ([], 5) := by rw [HR.out, if_pos (allDec_take_false h3)]
          rw [e]
          clear ht h3 e
          rcases (show s[k].toNat < 48 ∨ (48 ≤ s[k].toNat ∧ 57 < s[k].toNat) by omega) with hb1 | ⟨hb1, hb2⟩
          · clear hb
            go_wp2
            go_ret2
            exact ⟨_, rfl, Row.nil _, Since.refl _⟩
          · clear hb
            go_wp2
            go_ret2
            exact ⟨_, rfl, Row.nil _, Since.refl _⟩
      · have had2 : allDec s.data.toList = true := by
          have := had.out
          rwa [List.take_of_length_le (by have := HZ.out; omega)] at this
        have HA := Lib.hid had2
        clear had2 had
        obtain rfl : k = s.size := by omega
        by_cases hbig : 2000 < s.size
        · have e : R = ([], 3) := by rw [HR.out, if_neg (by rw [HA.out]; simp), if_pos (by rw [HZ.out]; exact hbig)]
          have HE := Lib.hid e
          clear e
          go_wp2
          all_goals
            go_ret2
            refine ⟨Value.slice none 0 0, ?_, ?_, Since.refl _⟩
            · rw [HE.out]; rfl
            · rw [HE.out]; exact Row.nil _
        · have e : R = fitD (undec s.data.toList) := by rw [HR.out, if_neg (by rw [HA.out]; simp), if_neg (by rw [HZ.out]; exact hbig)]
          have HE := Lib.hid e
          clear e
          have hsm : s.size ≤ 2000 := by omega
          go_wp2
          go_loopw [5, 6] (fun a i wr => ∃ k : Nat, k ≤ s.size ∧ i = .int .i64 k ∧ Row wr a (digs (undec (s.data.toList.take k))) ∧ Since w wr) (fun _ i _ => s.size - (intOf i).toNat)
          case atStart => exact ⟨0, Nat.zero_le _, rfl, Row.nil _, Since.refl _⟩
          case round =>
            obtain ⟨k, hk, rfl, hrow, hw⟩ := hrel
            by_cases hlt : k < s.size
            · have hal : allDec (s.data.toList.take k) = true := by
                have h := HA.out
                have e : s.data.toList = s.data.toList.take k ++ s.data.toList.drop k := (List.take_append_drop k _).symm
                rw [e] at h
                simp only [allDec, List.all_append, Bool.and_eq_true] at h
                exact h.1
              have hlen := Nat.le_trans (undec_digs_len hal) (List.length_take_le _ _)
              have HLEN := Lib.hid (show (digs (undec (s.data.toList.take k))).length ≤ 2000 by omega)
              have ht := take_byte s k hlt
              have hun := undec_snoc (s.data.toList.take k) s[k]
              rw [← ht] at hun
              have hal2 : allDec (s.data.toList.take (k + 1)) = true := by
                have h := HA.out
                have e : s.data.toList = s.data.toList.take (k + 1) ++ s.data.toList.drop (k + 1) := (List.take_append_drop (k + 1) _).symm
                rw [e] at h
                simp only [allDec, List.all_append, Bool.and_eq_true] at h
                exact h.1
              have hbd : 48 ≤ s[k].toNat ∧ s[k].toNat ≤ 57 := by
                rw [ht, allDec_snoc, Bool.and_eq_true] at hal2
                simpa using hal2.2
              obtain ⟨hb1, hb2⟩ := hbd
              have HUN := Lib.hid hun
              have HROW := Lib.hid hrow
              clear hal hlen ht hun hal2 hrow
              obtain ⟨d, hd⟩ : ∃ d, d = s[k].toNat - 48 := ⟨_, rfl⟩
              have hdi : (s[k].toNat : Int) - 48 = (d : Int) := by omega
              have hd9 : d ≤ 9 := by omega
              have HDD := Lib.hid hd
              have L2 := Lib.hid (show (digs (num (digs (undec (s.data.toList.take k))) * 10)).length ≤ 100000 by
                rw [num_digs]
                have h9 : undec (s.data.toList.take k) < 4294967296 ^ (digs (undec (s.data.toList.take k))).length := by
                  have := num_lt (isDig_digs (undec (s.data.toList.take k)))
                  rwa [num_digs] at this
                refine Nat.le_trans (digs_len_le (k := (digs (undec (s.data.toList.take k))).length + 1) ?_) (by have := HLEN.out; omega)
                rw [Nat.pow_succ]; omega)
              have L3 := Lib.hid (show (digs d).length ≤ 100000 from Nat.le_trans (digs_len_le (k := 1) (by omega)) (by omega))
              have hw8 : IntKind.u8.wrap (d : Int) = (d : Int) := IntWalk.u8_in _ (by omega)
              have hw64 : IntKind.u64.wrap (d : Int) = (d : Int) := IntWalk.u64_in _ (by omega)
              clear hd
              go_wp2
              go_region_with (first
                | (go_at_call 57; (with_reducible refine (scaled_ten _ (digs (undec (s.data.toList.take k))) _ (HROW.out.since (Since.refl wr).drew) (by have := HLEN.out; omega)).mono ?_); rintro e w1 ⟨v1, rfl, hr1, hs1⟩)
                | (go_at_call 44; (with_reducible refine (of_any d _ (by omega)).mono ?_); rintro e w2 ⟨v2, rfl, hr2, hs2⟩)
                | (go_at_call 43; (with_reducible refine (plus_any v1 v2 _ (digs d) _ (hr1.since hs2) hr2 L2.out L3.out).mono ?_); rw [num_digs, num_digs, num_digs]; rintro e w3 ⟨v3, rfl, hr3, hs3⟩))
              all_goals
                go_wp2
                go_roundw
                case rel =>
                  refine ⟨k + 1, by omega, by go_num, ?_, (((hw.trans (Since.refl wr).drew).trans ‹Since wr.drew w1›).trans ‹Since w1 w2›).trans ‹Since w2 w3›⟩
                  rw [HUN.out, ← HDD.out, Nat.mul_comm 10]
                  exact ‹Row w3 v3 _›
                case measure => simp [intOf]; omega
            · have HR3 := Lib.hid hrow
              have hz := HZ.out
              obtain rfl : k = s.size := by omega
              rw [List.take_of_length_le (by omega)] at hrow
              have HRW := Lib.hid hrow
              have L4 := Lib.hid (Nat.le_trans (undec_digs_len HA.out) (by omega : s.data.toList.length ≤ 1000000))
              clear hrow HR3 hz
              by_cases hf : (digs (undec s.data.toList)).length ≤ 256
              · have ef : R = (digs (undec s.data.toList), 0) := by rw [HE.out, fitD, if_pos hf]
                have HF := Lib.hid hf
                have EF := Lib.hid ef
                clear ef hf
                go_wp2_with (go_at_call 58; (with_reducible refine (fit_any _ (digs (undec s.data.toList)) _ HRW.out L4.out).mono ?_); rw [if_pos HF.out]; rintro e w3 ⟨v3, rfl, hr3, hs3⟩)
                go_ret2
                refine ⟨v3, ?_, ?_, hw.trans ‹_›⟩
                · rw [EF.out]; rfl
                · rw [EF.out]; exact ‹Row _ v3 _›
              · have ef : R = ([], 3) := by rw [HE.out, fitD, if_neg hf]
                have HF := Lib.hid hf
                have EF := Lib.hid ef
                clear ef hf
                go_wp2_with (go_at_call 58; (with_reducible refine (fit_any _ (digs (undec s.data.toList)) _ HRW.out L4.out).mono ?_); rw [if_neg HF.out]; rintro e w3 ⟨v3, rfl, hr3, hs3⟩)
                go_ret2
                refine ⟨v3, ?_, ?_, hw.trans ‹_›⟩
                · rw [EF.out]; rfl
                · rw [EF.out]; exact ‹Row _ v3 _›
end Go.Proofs.YtmnankcllblgjaaDoor.Ref02

namespace Go.Proofs.YtmnankcllblgjaaDoor.Nat02
open Go.RowKit
set_option linter.unusedVariables false
open Go.Proofs.YtmnankcllblgjaaDoor.Dig
open Go.Proofs.YtmnankcllblgjaaDoor.Ref02 (parseD getD_byte take_byte allDec_take_false undec_len)

/-- is it a decimal number without noughts ahead -/
def decB (bs : List UInt8) : Bool := !(decide (bs.length = 0 ∨ (1 < bs.length ∧ (bs.getD 0 0).toNat = 48))) && allDec bs
theorem len_list (b : ByteArray) : b.data.toList.length = b.size := Array.length_toList

set_option maxRecDepth 100000 in
set_option maxHeartbeats 1000000 in
theorem isDecimal_any (s : ByteArray) (w : World) (hs : s.size ≤ 1000000) :
    Calls Tryd.prog 53 #[.string s] w fun e w' => e = .returned (.bool (decB s.data.toList)) ∧ w = w' := by
  have hz := len_list s
  by_cases h0 : s.size = 0
  · have e : decB s.data.toList = false := by
      unfold decB; rw [decide_eq_true (.inl (by omega))]; rfl
    rw [e]
    have he : s.toList = [] := by rw [ByteArray.toList_eq]; exact List.eq_nil_of_length_eq_zero (by omega)
    have h0' : ((s.size : Int) == 0) = true := by rw [beq_iff_eq]; omega
    clear e hz h0
    go_enter Tryd.func53, Tryd.ntmps53
    go_wp2
    go_ret
    exact ⟨rfl, rfl⟩
  · have hp : 0 < s.size := by omega
    have h0' : ((s.size : Int) == 0) = false := by rw [beq_eq_false_iff_ne]; omega
    by_cases h1 : 1 < s.size ∧ s[0].toNat = 48
    · have e : decB s.data.toList = false := by
        unfold decB
        rw [decide_eq_true (.inr ⟨by omega, by rw [getD_byte s 0 hp]; exact h1.2⟩)]; rfl
      rw [e]
      obtain ⟨h2, h3⟩ := h1
      have h4 : ((s[0].toNat : Int) == 48) = true := by rw [beq_iff_eq]; omega
      clear e hz h0 h3
      go_enter Tryd.func53, Tryd.ntmps53
      go_wp2
      go_ret
      exact ⟨rfl, rfl⟩
    · have e : decB s.data.toList = allDec s.data.toList := by
        unfold decB
        rw [decide_eq_false, Bool.not_false, Bool.true_and]
        rintro (h | h)
        · omega
        · rw [getD_byte s 0 hp] at h
          exact h1 ⟨by omega, h.2⟩
      obtain ⟨R, hR⟩ : ∃ r, r = allDec s.data.toList := ⟨_, rfl⟩
      rw [e, ← hR]
      have HR := Lib.hid hR
      have HZ := Lib.hid hz
      have h2 : s.size ≤ 1 ∨ (1 < s.size ∧ ((s[0].toNat : Int) == 48) = false) := by
        rcases Nat.lt_or_ge 1 s.size with h | h
        · right
          refine ⟨h, ?_⟩
          rw [beq_eq_false_iff_ne]
          intro h3
          exact h1 ⟨h, by omega⟩
        · left; exact h
      clear e hR hz h0 h1
      rcases h2 with h2 | ⟨h2, h3⟩
      all_goals
        go_enter Tryd.func53, Tryd.ntmps53
        go_wp2
        go_loop [19] (fun i => ∃ k : Nat, k ≤ s.size ∧ i = .int .i64 k ∧ Hid (allDec (s.data.toList.take k) = true)) (fun i => s.size - (intOf i).toNat)
        case atStart => exact ⟨0, Nat.zero_le _, rfl, rfl⟩
        case round =>
          obtain ⟨k, hk, rfl, had⟩ := hrel
          by_cases hlt : k < s.size
          · have ht := take_byte s k hlt
            by_cases hb : 48 ≤ s[k].toNat ∧ s[k].toNat ≤ 57
            · obtain ⟨hb1, hb2⟩ := hb
              have h3 : allDec (s.data.toList.take (k + 1)) = true := by
                rw [ht, allDec_snoc, had.out]; simp; omega
              have H3 := Lib.hid h3
              clear ht h3
              go_wp2
              go_round
              case rel => exact ⟨k + 1, by omega, by go_num, H3⟩
              case measure => simp [intOf]; omega
            · have h3 : allDec (s.data.toList.take (k + 1)) = false := by
                rw [ht, allDec_snoc, had.out]; simp; omega
              have e : R = false := by rw [HR.out]; exact allDec_take_false h3
              subst e
              clear ht h3
              rcases (show s[k].toNat < 48 ∨ (48 ≤ s[k].toNat ∧ 57 < s[k].toNat) by omega) with hb1 | ⟨hb1, hb2⟩
              · clear hb
                go_wp2
                go_ret
                exact ⟨rfl, rfl⟩
              · clear hb
                go_wp2
                go_ret
                exact ⟨rfl, rfl⟩
          · have had2 : R = true := by
              have := had.out
              rw [List.take_of_length_le (by have := HZ.out; omega)] at this
              rw [HR.out]; exact this
            subst had2
            go_wp2
            go_ret
            exact ⟨rfl, rfl⟩

set_option maxRecDepth 100000 in
set_option maxHeartbeats 1000000 in
theorem readGroup_any (s : ByteArray) (w : World) (hs : s.size ≤ 9) (ha : allDec s.data.toList = true) :
    Calls Tryd.prog 54 #[.string s] w fun e w' => e = .returned (.int .u32 ((undec s.data.toList : Nat) : Int)) ∧ w = w' := by
  have HA := Lib.hid ha
  have HZ := Lib.hid (len_list s)
  clear ha
  go_enter Tryd.func54, Tryd.ntmps54
  go_wp2
  go_loop [3, 7] (fun g i => ∃ k u : Nat, k ≤ s.size ∧ i = .int .i64 k ∧ g = .int .u32 (u : Int) ∧ Hid (u = undec (s.data.toList.take k))) (fun _ i => s.size - (intOf i).toNat)
  case atStart => exact ⟨0, 0, Nat.zero_le _, rfl, rfl, rfl⟩
  case round =>
    obtain ⟨k, u, hk, rfl, rfl, hv⟩ := hrel
    have hall : ∀ j, allDec (s.data.toList.take j) = true := fun j => by
      have h := HA.out
      have e : s.data.toList = s.data.toList.take j ++ s.data.toList.drop j := (List.take_append_drop j _).symm
      rw [e] at h
      simp only [allDec, List.all_append, Bool.and_eq_true] at h
      exact h.1
    by_cases hlt : k < s.size
    · have ht := take_byte s k hlt
      have hb : 48 ≤ s[k].toNat ∧ s[k].toNat ≤ 57 := by
        have := hall (k + 1)
        rw [ht, allDec_snoc, Bool.and_eq_true] at this
        simpa using this.2
      obtain ⟨hb1, hb2⟩ := hb
      have hlen := undec_len (hall k)
      rw [List.length_take, ← hv.out] at hlen
      have hp := Nat.pow_le_pow_right (n := 10) (by omega) (show min k s.data.toList.length ≤ 8 by omega)
      have hu : u < 100000000 := Nat.lt_of_lt_of_le hlen hp
      have hun := undec_snoc (s.data.toList.take k) s[k]
      rw [← ht, ← hv.out] at hun
      obtain ⟨u2, hu2⟩ : ∃ u2, u2 = 10 * u + (s[k].toNat - 48) := ⟨_, rfl⟩
      have hui : 10 * (u : Int) + ((s[k].toNat : Int) - 48) = (u2 : Int) := by omega
      rw [← hu2] at hun
      have HU := Lib.hid hun
      clear ht hlen hp hun hu2 hall
      go_wp2
      go_round
      case rel => exact ⟨k + 1, u2, by omega, by go_num, by first | rfl | rw [hui], HU.out.symm⟩
      case measure => simp [intOf]; omega
    · obtain rfl : k = s.size := by omega
      have e := hv.out
      rw [List.take_of_length_le (by have := HZ.out; omega)] at e
      subst e
      clear hall
      go_wp2
      go_ret
      exact ⟨rfl, rfl⟩

theorem timesD_step {W outs : List Nat} {k c c0 d : Nat} (hl : outs.length = k) (h : num outs + 4294967296 ^ k * c = num (W.take k) * d + c0) :
    num (outs ++ [(W.getD k 0 * d + c) % 4294967296]) + 4294967296 ^ (k + 1) * ((W.getD k 0 * d + c) / 4294967296) = num (W.take (k + 1)) * d + c0 := by
  rw [num_snoc, hl, num_take_succ]
  generalize hn : W.getD k 0 * d + c = n
  have e : 4294967296 ^ k * (n % 4294967296) + 4294967296 ^ (k + 1) * (n / 4294967296) = 4294967296 ^ k * n := by
    rw [Nat.pow_succ, Nat.mul_assoc, ← Nat.mul_add, Nat.mod_add_div]
  have e2 : 4294967296 ^ k * n = 4294967296 ^ k * (W.getD k 0 * d) + 4294967296 ^ k * c := by
    rw [← hn, Nat.mul_add]
  have e3 : (num (W.take k) + 4294967296 ^ k * W.getD k 0) * d = num (W.take k) * d + 4294967296 ^ k * (W.getD k 0 * d) := by grind
  omega
theorem times_plus0 (x y a h l : Nat) (w : World) (hx : x < 4294967296) (hy : y < 4294967296) (ha : a < 4294967296) (hh : h = (x * y + a) / 4294967296) (hl : l = (x * y + a) % 4294967296) :
    Calls Tryd.prog 78 #[.int .u32 (x : Int), .int .u32 (y : Int), .int .u32 (a : Int), .int .u32 0] w (Bits.Two h l w) := Bits.times_plus x y a 0 h l w hx hy ha (by omega) hh hl

set_option maxRecDepth 100000 in
set_option maxHeartbeats 4000000 in
theorem timesDigit_any (g n c d c0 : Nat) (ds : List Nat) (w : World) (hg : Blk w g ds) (ho : n ≤ ds.length) (hl : ds.length ≤ 10000) (hd : d < 4294967296) (hc0 : c0 < 4294967296) (hfit : num (ds.take n) * d + c0 < 4294967296 ^ n) :
    Calls Tryd.prog 55 #[.slice (some ⟨g, 0, none⟩) n c, .int .u32 (d : Int), .int .u32 (c0 : Int)] w fun e w' => e = .returned (.tuple #[]) ∧ ∃ outs, outs.length = n ∧ IsDig outs ∧ num outs = num (ds.take n) * d + c0 ∧ Blk w' g (splice ds 0 outs) ∧ w.grownBy w' (some g) := by
  have HG := Lib.hid hg
  have HN := Lib.hid (And.intro ho (And.intro hl hfit))
  have hn1 : n ≤ 10000 := by omega
  clear hg ho hl hfit
  go_enter Tryd.func55, Tryd.ntmps55
  go_wp2
  go_loopw [2, 9] (fun cv i wr => ∃ (k t : Nat) (outs : List Nat), k ≤ n ∧ i = .int .i64 k ∧ cv = .int .u32 t ∧ t < 4294967296 ∧ Hid (outs.length = k ∧ IsDig outs ∧ num outs + 4294967296 ^ k * t = num (ds.take k) * d + c0) ∧ Hid (Blk wr g (splice ds 0 outs) ∧ w.grownBy wr (some g))) (fun _ i _ => n - (intOf i).toNat)
  case atStart => exact ⟨0, c0, [], by omega, rfl, rfl, hc0, ⟨rfl, isDig_nil, by simp [num]⟩, by rw [splice_nil]; exact ⟨HG.out, only_refl _ _⟩⟩
  case round =>
    obtain ⟨k, t, outs, hk, rfl, rfl, ht, hv, hb⟩ := hrel
    by_cases hlt : k < n
    · have hN := HN.out
      have hlen : (splice ds 0 outs).length = ds.length := by rw [splice_len (by have := hv.out.1; omega)]
      have g1 := hb.out.1.cell (i := k) (by omega)
      have g2 := hb.out.1.frozen k
      rw [splice_getD_ge (by have := hv.out.1; omega) (by omega)] at g1
      have hx1 := getD_lt HG.out.dig k
      have hstep := timesD_step (d := d) hv.out.1 hv.out.2.2
      obtain ⟨x, hx⟩ : ∃ d, d = ds.getD k 0 := ⟨_, rfl⟩
      rw [← hx] at hstep g1 hx1
      have hfit := timesPlus_fit hx1 hd ht (show 0 < 4294967296 by omega)
      obtain ⟨s, hs⟩ : ∃ s, s = (x * d + t) % 4294967296 := ⟨_, rfl⟩
      obtain ⟨t2, ht2⟩ : ∃ s, s = (x * d + t) / 4294967296 := ⟨_, rfl⟩
      have HA := Lib.hid fun W => times_plus0 x d t t2 s W hx1 hd ht ht2 hs
      rw [← hs, ← ht2] at hstep
      have hs1 : s < 4294967296 := by omega
      have ht21 : t2 < 4294967296 := by omega
      have hset := hb.out.1.set (i := k) (d := s) (by omega) hs1
      have e1 := splice_set (ds := ds) (o := 0) (d := s) (outs := outs) (by have := hv.out.1; omega)
      rw [hv.out.1, Nat.zero_add] at e1
      rw [e1] at hset
      have HS := Lib.hid (And.intro hstep (And.intro hset (only_set (i := k) hb.out.2 (.int .u32 (s : Int)))))
      clear hx hs ht2 hstep hlen hset e1 hN hfit
      go_wp2_with (go_at_call 78; (with_reducible refine (HA.out _).mono ?_); rintro e w1 ⟨rfl, rfl⟩)
      go_roundw
      case rel => exact ⟨k + 1, t2, outs ++ [s], by omega, by go_num, rfl, ht21, ⟨by rw [List.length_append, hv.out.1]; rfl, isDig_snoc hv.out.2.1 hs1, HS.out.1⟩, ⟨HS.out.2.1, HS.out.2.2⟩⟩
      case measure => simp [intOf]; omega
    · obtain rfl : k = n := by omega
      have h3 := hv.out.2.2
      have h4 : num outs = num (ds.take k) * d + c0 := by
        have hf := HN.out.2.2
        rcases Nat.eq_zero_or_pos t with h | h
        · rw [h, Nat.mul_zero] at h3; omega
        · have : 4294967296 ^ k * 1 ≤ 4294967296 ^ k * t := Nat.mul_le_mul_left _ h
          omega
      have HS := Lib.hid (And.intro hv.out.1 (And.intro hv.out.2.1 (And.intro h4 hb.out)))
      clear h3 h4 hv hb
      go_wp2
      go_end0
      exact ⟨rfl, outs, HS.out.1, HS.out.2.1, HS.out.2.2.1, HS.out.2.2.2.1, HS.out.2.2.2.2⟩
end Go.Proofs.YtmnankcllblgjaaDoor.Nat02

namespace Go.Proofs.YtmnankcllblgjaaDoor.Nat02
open Go.RowKit
set_option linter.unusedVariables false
open Go.Proofs.YtmnankcllblgjaaDoor.Dig
open Go.Proofs.YtmnankcllblgjaaDoor.Ref02 (parseD getD_byte take_byte allDec_take_false undec_len)

theorem undec_foldl (bs : List UInt8) (a : Nat) : bs.foldl (fun n b => 10 * n + (b.toNat - 48)) a = a * 10 ^ bs.length + undec bs := by
  induction bs generalizing a with
  | nil => simp [undec]
  | cons b r ih =>
    rw [List.foldl_cons, ih]
    have : undec (b :: r) = (b.toNat - 48) * 10 ^ r.length + undec r := by
      show (b :: r).foldl (fun n b => 10 * n + (b.toNat - 48)) 0 = _
      rw [List.foldl_cons, ih]; simp
    rw [this, List.length_cons, Nat.pow_succ]
    grind
theorem undec_append (xs ys : List UInt8) : undec (xs ++ ys) = undec xs * 10 ^ ys.length + undec ys := by
  show (xs ++ ys).foldl (fun n b => 10 * n + (b.toNat - 48)) 0 = _
  rw [List.foldl_append, undec_foldl]; rfl
theorem take_more_bytes (bs : List UInt8) {a b : Nat} (h : a ≤ b) : bs.take b = bs.take a ++ (bs.take b).drop a := by
  have := List.take_append_drop a (bs.take b)
  rw [List.take_take, Nat.min_eq_left h] at this
  exact this.symm
/-- a group more -/
theorem parse_step {bs : List UInt8} {E S : Nat} (hE : E ≤ bs.length) (hS : S = E - 9) : undec (bs.take E) = undec (bs.take S) * 1000000000 + undec ((bs.take E).drop S) := by
  rw [take_more_bytes bs (show S ≤ E by omega), undec_append]
  have hl : ((bs.take E).drop S).length = E - S := by simp; omega
  have h2 : (bs.take S ++ (bs.take E).drop S).drop S = (bs.take E).drop S := by
    rw [← take_more_bytes bs (show S ≤ E by omega)]
  rw [hl]
  by_cases h9 : 9 ≤ E
  · rw [show E - S = 9 by omega]
    congr 1
    rw [← take_more_bytes bs (show S ≤ E by omega)]
  · have : S = 0 := by omega
    subst this
    simp [undec_nil]
theorem allDec_part {bs : List UInt8} (h : allDec bs = true) (a b : Nat) : allDec ((bs.take b).drop a) = true := by
  unfold allDec at h ⊢
  rw [List.all_eq_true] at h ⊢
  intro x hx
  exact h x (List.mem_of_mem_take (List.mem_of_mem_drop hx))
theorem parse_bound {bs : List UInt8} (h : allDec bs = true) {E k : Nat} (hE : E ≤ 9 * k) : undec (bs.take E) < 4294967296 ^ k := by
  have ha : allDec (bs.take E) = true := by have := allDec_part h 0 E; simpa using this
  refine Nat.lt_of_lt_of_le (undec_len ha) ?_
  refine Nat.le_trans (Nat.pow_le_pow_right (by omega) (show (bs.take E).length ≤ 9 * k by simp; omega)) ?_
  rw [Nat.pow_mul]
  exact Nat.pow_le_pow_left (by decide) _
theorem extract_list (s : ByteArray) (a b : Nat) : (s.extract a b).data.toList = (s.data.toList.take b).drop a := by
  rw [ByteArray.data_extract, Array.toList_extract]
  simp [List.extract]
  rw [List.drop_take]

theorem timesDigit_bill (g n c c0 : Nat) (ds : List Nat) (w : World) (hg : Blk w g ds) (ho : n ≤ ds.length) (hl : ds.length ≤ 10000) (hc0 : c0 < 4294967296) (hfit : num (ds.take n) * 1000000000 + c0 < 4294967296 ^ n) :
    Calls Tryd.prog 55 #[.slice (some ⟨g, 0, none⟩) n c, .int .u32 1000000000, .int .u32 (c0 : Int)] w fun e w' => e = .returned (.tuple #[]) ∧ ∃ outs, outs.length = n ∧ IsDig outs ∧ num outs = num (ds.take n) * 1000000000 + c0 ∧ Blk w' g (splice ds 0 outs) ∧ w.grownBy w' (some g) :=
  timesDigit_any g n c 1000000000 c0 ds w hg ho hl (by omega) hc0 hfit
set_option maxRecDepth 100000 in
set_option maxHeartbeats 4000000 in
theorem parse_good (s : ByteArray) (w : World) (hs : s.size ≤ 2000) (h0 : 0 < s.size) (hd : decB s.data.toList = true) (ha : allDec s.data.toList = true) :
    Calls Tryd.prog 28 #[.string s] w (RetRowErr (digs (undec s.data.toList)) 0 w) := by
  have HDB := Lib.hid (fun W => isDecimal_any s W (by omega))
  rw [hd] at HDB
  have HA := Lib.hid (And.intro ha (len_list s))
  obtain ⟨n, hn⟩ : ∃ n, n = s.size := ⟨_, rfl⟩
  obtain ⟨G, hG⟩ : ∃ g : Nat, g = (n + 8) / 9 := ⟨_, rfl⟩
  have hGi : ((s.size : Int) + 9 - 1) / 9 = (G : Int) := by omega
  have hG1 : G ≤ 223 := by omega
  have hG2 : 1 ≤ G := by omega
  have hGn : n ≤ 9 * G := by omega
  have hmk := make_digits G (by omega)
  have HN := Lib.hid (And.intro hn hGn)
  clear hd ha hn hG hGn
  go_enter Tryd.func28, Tryd.ntmps28
  go_wp2_with (first
    | (go_at_call 53; (with_reducible refine (HDB.out _).mono ?_); rintro e w1 ⟨rfl, rfl⟩))
  obtain ⟨g, hg⟩ : ∃ g, g = w.heap.size := ⟨_, rfl⟩
  have HGG := Lib.hid hg
  rw [← hg]
  clear hg
  try simp only [hGi]
  go_loopw [23] (fun i wr => ∃ (k : Nat) (ds : List Nat), k ≤ G ∧ i = .int .i64 (k : Int) ∧ Hid (ds.length = G ∧ num ds = undec (s.data.toList.take (n - 9 * (G - k))) ∧ num (ds.drop k) = 0) ∧ Hid (Blk wr g ds ∧ Since w wr)) (fun i _ => G - (intOf i).toNat)
  case atStart => exact ⟨0, List.replicate G 0, Nat.zero_le _, rfl, ⟨by simp, by rw [num_noughts, show n - 9 * (G - 0) = 0 by have := HN.out; omega]; rfl, by rw [List.drop_zero, num_noughts]⟩, by rw [HGG.out]; exact Blk.made w G, since_made w _ _⟩
  case round =>
    obtain ⟨k, ds, hk, rfl, hv, hb⟩ := hrel
    by_cases hlt : k < G
    · have hNN := HN.out
      obtain ⟨E, hE⟩ : ∃ e, e = n - 9 * (G - (k + 1)) := ⟨_, rfl⟩
      obtain ⟨S, hS⟩ : ∃ e, e = n - 9 * (G - k) := ⟨_, rfl⟩
      have hSE : S = E - 9 := by omega
      have hE9 : 9 * (G - (k + 1)) ≤ n := by omega
      have hEn : E ≤ n := by omega
      have hex := extract_list s S E
      have hexs : (s.extract S E).size = E - S := by rw [ByteArray.size_extract, Nat.min_eq_left (by omega)]
      have hrg := fun W => readGroup_any (s.extract S E) W (by omega) (by rw [hex]; exact allDec_part HA.out.1 S E)
      rw [hex] at hrg
      have hst := parse_step (bs := s.data.toList) (E := E) (S := S) (by rw [HA.out.2]; omega) hSE
      obtain ⟨c0, hc0⟩ : ∃ c, c = undec ((s.data.toList.take E).drop S) := ⟨_, rfl⟩
      rw [← hc0] at hrg hst
      have hc01 : c0 < 4294967296 := by
        rw [hc0]
        have h1 := undec_len (allDec_part HA.out.1 S E)
        have h2 : ((s.data.toList.take E).drop S).length ≤ 9 := by simp; omega
        have h3 := Nat.pow_le_pow_right (n := 10) (by omega) h2
        omega
      have hdz : num (ds.drop (k + 1)) = 0 := by have := num_drop ds k; rw [hv.out.2.2] at this; omega
      have htk : num (ds.take (k + 1)) = undec (s.data.toList.take S) := by
        have := num_split ds (j := k + 1) (by have := hv.out.1; omega)
        rw [hdz, Nat.mul_zero, Nat.add_zero, hv.out.2.1, ← hS] at this
        exact this.symm
      have hbd := parse_bound HA.out.1 (E := E) (k := k + 1) (by omega)
      have HTD := Lib.hid fun (W : World) (h : Blk W g ds) => timesDigit_bill g (k + 1) G c0 ds W h (by have := hv.out.1; omega) (by have := hv.out.1; omega) hc01 (by rw [htk, ← hst]; exact hbd)
      have HRG := Lib.hid hrg
      have HST := Lib.hid (And.intro hst (And.intro htk (And.intro hdz (show E = n - 9 * (G - (k + 1)) from hE))))
      have hEi : (s.size : Int) - 9 * ((G : Int) - 1 - (k : Int)) = (E : Int) := by omega
      have hSi : max 0 ((E : Int) - 9) = (S : Int) := by omega
      have j1 : S ≤ E := by omega
      have j2 : E ≤ s.size := by omega
      have j3 : (0 : Int) ≤ (S : Int) := by omega
      have j4 : (k : Int) + 1 ≤ (G : Int) := by omega
      clear hex hexs hrg hst hc0 hdz htk hbd hE hS hSE hE9 hNN hEn
      go_wp2_with fail
      with_reducible refine (HRG.out _).mono ?_
      rintro e w4 ⟨rfl, rfl⟩
      go_wp2_with fail
      with_reducible refine (HTD.out _ hb.out.1).mono ?_
      rintro e w5 ⟨rfl, outs, ho1, ho2, ho3, ho4, ho5⟩
      have hlen : (splice ds 0 outs).length = G := by rw [splice_len (by have := hv.out.1; omega)]; exact hv.out.1
      have hdr : (splice ds 0 outs).drop (k + 1) = ds.drop (k + 1) := by
        unfold splice
        rw [List.take_zero, List.nil_append, Nat.zero_add, ho1, List.drop_append_of_le_length (by omega), List.drop_of_length_le (by omega), List.nil_append]
      have hnum : num (splice ds 0 outs) = undec (s.data.toList.take E) := by
        have h1 := num_splice (ds := ds) (o := 0) (outs := outs) (by have := hv.out.1; omega)
        rw [Nat.zero_add, ho1, HST.out.2.2.1, Nat.mul_zero, Nat.add_zero, ho3, HST.out.2.1, ← HST.out.1, Nat.pow_zero, Nat.one_mul, List.take_zero, num, Nat.zero_add] at h1
        exact h1
      have H5 := Lib.hid (And.intro hlen (And.intro hnum (And.intro (show num ((splice ds 0 outs).drop (k + 1)) = 0 by rw [hdr]; exact HST.out.2.2.1) (And.intro ho4 (only_since hb.out.2 ho5 (by rw [HGG.out]; exact Nat.le_refl _))))))
      clear ho1 ho2 ho3 ho4 ho5 hlen hdr hnum
      go_wp2_with fail
      go_roundw
      case rel => exact ⟨k + 1, splice ds 0 outs, by omega, by go_num, ⟨H5.out.1, by rw [H5.out.2.1, HST.out.2.2.2], H5.out.2.2.1⟩, H5.out.2.2.2.1, H5.out.2.2.2.2⟩
      case measure => simp [intOf]; omega
    · obtain rfl : k = G := by omega
      have hnum := hv.out.2.1
      rw [Nat.sub_self, Nat.mul_zero, Nat.sub_zero, List.take_of_length_le (by rw [HA.out.2, HN.out.1]; exact Nat.le_refl _)] at hnum
      have HCUT := Lib.hid fun W (h : Blk W g ds) => cut_any g ds W h (by have := hv.out.1; omega)
      rw [hnum] at HCUT
      simp only [hv.out.1] at HCUT
      clear hnum
      go_wp2_with (go_at_call 56; (with_reducible refine (HCUT.out _ hb.out.1).mono ?_); rintro e w1 ⟨g2, rfl, hr2, hs2⟩)
      go_ret2
      exact ⟨_, rfl, hr2, hb.out.2.trans hs2⟩
theorem parse_any (s : ByteArray) (w : World) (hs : s.size ≤ 100000) :
    Calls Tryd.prog 28 #[.string s] w (RetRowErr (parseD s.data.toList).1 (parseD s.data.toList).2 w) := by
  have hz := len_list s
  by_cases hd : decB s.data.toList = true
  · have hd2 := hd
    unfold decB at hd2
    rw [Bool.and_eq_true, Bool.not_eq_true'] at hd2
    have hcond := of_decide_eq_false hd2.1
    have e1 : parseD s.data.toList = if 2000 < s.data.toList.length then ([], 3) else fitD (undec s.data.toList) := by
      unfold parseD; rw [if_neg hcond, if_neg (by rw [hd2.2]; simp)]
    have hp : 0 < s.size := by
      rcases Nat.eq_zero_or_pos s.size with h | h
      · exact absurd (.inl (by omega)) hcond
      · exact h
    by_cases hb : 2000 < s.size
    · rw [e1, if_pos (by omega)]
      have HDB := Lib.hid (fun W => isDecimal_any s W (by omega))
      rw [hd] at HDB
      clear hd hd2 hcond e1 hz
      go_enter Tryd.func28, Tryd.ntmps28
      go_wp2_with (go_at_call 53; (with_reducible refine (HDB.out _).mono ?_); rintro e w1 ⟨rfl, rfl⟩)
      go_ret2
      exact ⟨_, rfl, Row.nil _, Since.refl _⟩
    · have hlen : (digs (undec s.data.toList)).length ≤ 256 := by
        have h1 := parse_bound hd2.2 (E := s.size) (k := (s.size + 8) / 9) (by omega)
        rw [List.take_of_length_le (by omega)] at h1
        have := digs_len_le h1
        omega
      rw [e1, if_neg (by omega), fitD, if_pos hlen]
      exact parse_good s w (by omega) hp hd hd2.2
  · have hd' : decB s.data.toList = false := by simpa using hd
    have e1 : parseD s.data.toList = ([], 5) := by
      unfold parseD
      by_cases hc : s.data.toList.length = 0 ∨ (1 < s.data.toList.length ∧ (s.data.toList.getD 0 0).toNat = 48)
      · rw [if_pos hc]
      · rw [if_neg hc, if_pos]
        unfold decB at hd'
        rw [decide_eq_false hc] at hd'
        simpa using hd'
    rw [e1]
    have HDB := Lib.hid (fun W => isDecimal_any s W (by omega))
    rw [hd'] at HDB
    clear hd hd' e1 hz
    go_enter Tryd.func28, Tryd.ntmps28
    go_wp2_with (go_at_call 53; (with_reducible refine (HDB.out _).mono ?_); rintro e w1 ⟨rfl, rfl⟩)
    go_ret2
    exact ⟨_, rfl, Row.nil _, Since.refl _⟩
end Go.Proofs.YtmnankcllblgjaaDoor.Nat02

namespace Go.Proofs.YtmnankcllblgjaaDoor.Ref03
open Go.RowKit
set_option linter.unusedVariables false
open Go.Proofs.YtmnankcllblgjaaDoor.Dig
open Go.Proofs.YtmnankcllblgjaaDoor.Ref02 (parseD getD_byte)

theorem parseD_cases (bs : List UInt8) : ((parseD bs).2 = 0 ∧ (parseD bs).1.length ≤ 256) ∨ parseD bs = ([], 3) ∨ parseD bs = ([], 5) := by
  unfold parseD
  split
  · exact .inr (.inr rfl)
  · split
    · exact .inr (.inr rfl)
    · split
      · exact .inr (.inl rfl)
      · by_cases h : (digs (undec bs)).length ≤ 256
        · left; rw [fitD, if_pos h]; exact ⟨rfl, h⟩
        · right; left; rw [fitD, if_neg h]
/-- a sign first, then what is a number of layer 2; "-0" is none -/
def parseZ (bs : List UInt8) : (Bool × List Nat) × Int :=
  if 0 < bs.length ∧ (bs.getD 0 0).toNat = 45 then
    (if (parseD (bs.drop 1)).2 = 0 then (if (parseD (bs.drop 1)).1.length = 0 then ((false, []), 5) else ((true, (parseD (bs.drop 1)).1), 0)) else ((false, []), (parseD (bs.drop 1)).2))
  else ((false, (parseD bs).1), (parseD bs).2)
end Go.Proofs.YtmnankcllblgjaaDoor.Ref03
