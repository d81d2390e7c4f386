/- Decimal digits in groups. No Go in sight. What writeGroup and strings.TrimLeft give back. What Text of package nat gives back. -/
import Derived.Test.YtbbemgeinlehmaaGreatDoorNb
import Derived.Test.YtbbemgeinlehmaaGreatDoorNd
import Derived.Test.YtbbemgeinlehmaaGreatDoorNe
import Derived.Test.YtbbemgeinlehmaaGreatDoorWd
import Derived.Laws.BytesArg
namespace Go.Proofs.YtbbemgeinlehmaaGreatDoor.Dig
set_option linter.unusedVariables false

/-- the m lowest decimal digits of a number, as bytes -/
def decsN : Nat → Nat → List Nat
  | 0, _ => []
  | m + 1, n => decsN m (n / 10) ++ [48 + n % 10]
theorem decsN_len (m n : Nat) : (decsN m n).length = m := by
  induction m generalizing n with
  | zero => rfl
  | succ m ih => simp [decsN, ih]
theorem decsN_cons (m n : Nat) : decsN (m + 1) n = (48 + n / 10 ^ m % 10) :: decsN m n := by
  induction m generalizing n with
  | zero => simp [decsN]
  | succ m ih =>
    rw [decsN, ih, decsN, List.cons_append, Nat.div_div_eq_div_mul, ← Nat.pow_succ']
theorem decsN_add (m k n : Nat) : decsN (m + k) n = decsN m (n / 10 ^ k) ++ decsN k n := by
  induction k generalizing n with
  | zero => simp [decsN]
  | succ k ih =>
    rw [← Nat.add_assoc, decsN, ih, decsN, ← List.append_assoc, Nat.div_div_eq_div_mul, ← Nat.pow_succ']
theorem decsN_lt (m n : Nat) : ∀ d ∈ decsN m n, d < 256 := by
  induction m generalizing n with
  | zero => intro d hd; simp [decsN] at hd
  | succ m ih =>
    intro d hd
    rw [decsN] at hd
    rcases List.mem_append.mp hd with hd | hd
    · exact ih _ d hd
    · simp at hd; omega
theorem decsN_mod (m n : Nat) : decsN m (n % 10 ^ m) = decsN m n := by
  induction m generalizing n with
  | zero => rfl
  | succ m ih =>
    rw [decsN, decsN]
    have e1 : n % 10 ^ (m + 1) / 10 = n / 10 % 10 ^ m := by
      rw [Nat.pow_succ', Nat.mod_mul_right_div_self]
    have e2 : n % 10 ^ (m + 1) % 10 = n % 10 := by
      rw [Nat.pow_succ', Nat.mod_mul_right_mod]
    rw [e1, e2, ih]
def bytesOf (ds : List Nat) : List UInt8 := ds.map UInt8.ofNat
theorem dropw_append (xs ys : List UInt8) : (xs ++ ys).dropWhile (· == 48) = if xs.dropWhile (· == 48) = [] then ys.dropWhile (· == 48) else xs.dropWhile (· == 48) ++ ys := by
  induction xs with
  | nil => simp
  | cons x r ih =>
    simp only [List.cons_append, List.dropWhile_cons]
    split
    · exact ih
    · simp
theorem dropw_zero (m : Nat) : (bytesOf (decsN m 0)).dropWhile (· == 48) = [] := by
  induction m with
  | zero => rfl
  | succ m ih =>
    rw [decsN, bytesOf, List.map_append, dropw_append]
    rw [show (List.map UInt8.ofNat (decsN m (0 / 10))).dropWhile (· == 48) = [] from ih, if_pos rfl]
    rfl
/-- without the noughts ahead they are the number's -/
theorem dropw_decs (m n : Nat) (h : n < 10 ^ m) : (bytesOf (decsN m n)).dropWhile (· == 48) = decs n := by
  induction m generalizing n with
  | zero =>
    have : n = 0 := by simpa using h
    subst this; rfl
  | succ m ih =>
    by_cases h0 : n = 0
    · subst h0; rw [dropw_zero]; rfl
    · rw [decsN, bytesOf, List.map_append, dropw_append]
      have h1 := ih (n / 10) (by rw [Nat.div_lt_iff_lt_mul (by omega)]; rw [Nat.pow_succ] at h; exact h)
      rw [show (List.map UInt8.ofNat (decsN m (n / 10))).dropWhile (· == 48) = decs (n / 10) from h1]
      rw [decs_pos h0]
      by_cases h2 : n / 10 = 0
      · rw [h2, decs_zero, if_pos rfl]
        have hne : (UInt8.ofNat (48 + n % 10) == 48) = false := by
          rw [beq_eq_false_iff_ne]
          intro e
          have := congrArg UInt8.toNat e
          rw [UInt8.toNat_ofNat'] at this
          simp at this
          omega
        show List.dropWhile _ [UInt8.ofNat (48 + n % 10)] = _
        rw [List.dropWhile_cons, hne]; rfl
      · rw [if_neg (by have := decs_ne h2; intro e; rw [e] at this; simp at this)]
        rfl
theorem ten_pow (c : Nat) : 4294967296 ^ c ≤ 10 ^ (10 * c) := by
  rw [Nat.pow_mul]
  exact Nat.pow_le_pow_left (by decide) _
theorem pow_lt_of {a b : Nat} (h : 10 ^ a < 10 ^ b) : a < b := by
  rcases Nat.lt_or_ge a b with h1 | h1
  · exact h1
  · have := Nat.pow_le_pow_right (n := 10) (by omega) h1; omega
/-- groups of nine -/
theorem group_next (M T : Nat) : M / 10 ^ (9 * T) / 1000000000 = M / 10 ^ (9 * (T + 1)) := by
  rw [Nat.div_div_eq_div_mul, show 9 * (T + 1) = 9 * T + 9 by omega, Nat.pow_add]
theorem group_text (M T : Nat) : decsN (9 * (T + 1)) M = decsN 9 (M / 10 ^ (9 * T) % 1000000000) ++ decsN (9 * T) M := by
  rw [show 9 * (T + 1) = 9 + 9 * T by omega, decsN_add]
  congr 1
  exact (decsN_mod 9 _).symm
end Go.Proofs.YtbbemgeinlehmaaGreatDoor.Dig

namespace Go.Proofs.YtbbemgeinlehmaaGreatDoor.Nat02
open Go.RowKit
set_option linter.unusedVariables false
open Go.Proofs.YtbbemgeinlehmaaGreatDoor.Dig

/-- block b holds just these bytes, and may be written -/
def BB (w : World) (b : Nat) (ds : List Nat) : Prop := w.rowIs b 5 ds.length (fun i => .int .u8 ((ds.getD i 0 : Nat) : Int))
theorem BB.lt {w : World} {b : Nat} {ds : List Nat} (h : BB w b ds) : b < w.heap.size := World.rowIs.lt h
theorem BB.cell {w : World} {b i : Nat} {ds : List Nat} (h : BB w b ds) (hi : i < ds.length) : w.cell? ⟨b, i, none⟩ = some (.int .u8 ((ds.getD i 0 : Nat) : Int)) := World.rowIs.cell h hi
theorem BB.frozen {w : World} {b : Nat} {ds : List Nat} (h : BB w b ds) (i : Nat) : w.frozen? ⟨b, i, none⟩ = false := World.rowIs.frozen h i
theorem BB.set {w : World} {b i d : Nat} {ds : List Nat} (h : BB w b ds) (hi : i < ds.length) : BB (w.setCell ⟨b, i, none⟩ (.int .u8 (d : Int))) b (ds.set i d) := by
  unfold BB
  rw [List.length_set]
  refine (World.rowIs.set h i _).congr fun j hj => ?_
  by_cases e : j = i
  · subst e; rw [if_pos rfl, getD_set_self hi]
  · rw [if_neg e, getD_set_other (Ne.symm e)]
theorem BB.grown {w w' : World} {b : Nat} {ds : List Nat} {row : Option Nat} (h : BB w b ds) (k : w.grownBy w' row) (hb : some b ≠ row) : BB w' b ds := World.rowIs.of_block h (k.block b h.lt hb)
theorem BB.made (w : World) (n : Nat) : BB (w.alloc (.cells (madeCells #[.int .u8 0] n) 5)) w.heap.size (List.replicate n 0) := by
  unfold BB
  rw [List.length_replicate]
  refine (World.rowIs_made w (.int .u8 0) n 5).congr fun i hi => ?_
  simp [List.getD, hi]

set_option maxRecDepth 100000 in
set_option maxHeartbeats 1000000 in
theorem writeGroup_any (h o c N : Nat) (ds : List Nat) (w : World) (hb : BB w h ds) (ho : o + 9 ≤ ds.length) (hN : N < 4294967296) (hl : ds.length ≤ 100000) :
    Calls Tryz.prog 105 #[.slice (some ⟨h, o, none⟩) 9 c, .int .u32 (N : Int)] w fun e w' => e = .returned (.tuple #[]) ∧ BB w' h (splice ds o (decsN 9 N)) ∧ w.grownBy w' (some h) := by
  have HB := Lib.hid hb
  have HO := Lib.hid (And.intro ho hl)
  clear hb
  go_enter Tryz.func105, Tryz.ntmps105
  go_wp2
  go_loopw [1, 4] (fun g i wr => ∃ (k u M : Nat), k + u = 9 ∧ i = .int .i64 ((k : Int) - 1) ∧ g = .int .u32 (M : Int) ∧ M ≤ N ∧ Hid (M = N / 10 ^ u) ∧ Hid (BB wr h (splice ds (o + k) (decsN u N)) ∧ w.grownBy wr (some h))) (fun _ i _ => (intOf i + 1).toNat)
  case atStart => exact ⟨9, 0, N, rfl, by go_num, rfl, Nat.le_refl _, by simp [Hid], by rw [decsN, splice_nil]; exact HB.out, only_refl _ _⟩
  case round =>
    obtain ⟨k, u, M, hku, rfl, rfl, hM, hv, hb⟩ := hrel
    have hu : u = 9 - k := by omega
    subst hu
    rcases k with _ | j
    · have hb2 := hb.out
      rw [Nat.add_zero] at hb2
      have HB2 := Lib.hid hb2
      clear hb2 hku
      go_wp2
      go_end0
      exact ⟨rfl, HB2.out.1, HB2.out.2⟩
    · have e : ((j + 1 : Nat) : Int) - 1 = (j : Int) := by omega
      rw [e]
      clear e
      have hj : j < 9 := by omega
      have hlen : (splice ds (o + (j + 1)) (decsN (9 - (j + 1)) N)).length = ds.length := by rw [splice_len (by rw [decsN_len]; omega)]
      have g1 := hb.out.1.cell (i := o + j) (by omega)
      have g2 := hb.out.1.frozen (o + j)
      obtain ⟨d, hd⟩ : ∃ d, d = M % 10 := ⟨_, rfl⟩
      have hdi : (M : Int) % 10 = (d : Int) := by omega
      have hd9 : d < 10 := by omega
      have hset := hb.out.1.set (i := o + j) (d := 48 + d) (by omega)
      have e1 := splice_set_down (ds := ds) (j := o + j) (d := 48 + d) (outs := decsN (9 - (j + 1)) N) (by omega)
      rw [← Nat.add_assoc] at hset
      rw [e1, hd, hv.out, ← decsN_cons, show 9 - (j + 1) + 1 = 9 - j by omega, ← hv.out, ← hd] at hset
      obtain ⟨M2, hM2⟩ : ∃ d, d = M / 10 := ⟨_, rfl⟩
      have hMi : (M : Int) / 10 = (M2 : Int) := by omega
      have hM3 : M2 = N / 10 ^ (9 - j) := by rw [hM2, hv.out, Nat.div_div_eq_div_mul, ← Nat.pow_succ, show (9 - (j + 1)).succ = 9 - j by omega]
      have hM4 : M2 ≤ N := by omega
      obtain ⟨z, hz⟩ : ∃ z, z = (splice ds (o + (j + 1)) (decsN (9 - (j + 1)) N)).getD (o + j) 0 := ⟨_, rfl⟩
      rw [← hz] at g1
      have HS := Lib.hid (And.intro hM3 (And.intro hset (only_set (i := o + j) hb.out.2 (.int .u8 ((48 + d : Nat) : Int)))))
      clear hlen hset e1 hz hM2 hM3 hd hku
      go_wp2
      go_roundw
      case rel => exact ⟨j, 9 - j, M2, by omega, rfl, by first | rfl | rw [hMi], hM4, HS.out.1, by first | exact ⟨HS.out.2.1, HS.out.2.2⟩ | (have hh := HS.out.2; simpa using hh)⟩
      case measure => simp [intOf] <;> omega

def strLen2 : Value → Nat
  | .string s => s.size
  | _ => 0
theorem size_list (b : ByteArray) : b.data.toList.length = b.size := Array.length_toList
theorem drop_one_bytes (b : ByteArray) : (b.extract 1 b.size).data.toList = b.data.toList.drop 1 := by
  rw [ByteArray.data_extract, Array.toList_extract]
  simp [List.extract]
  rw [List.take_of_length_le (by simp)]
theorem head_bytes (b : ByteArray) (h : 0 < b.size) : b.data.toList = b[0] :: b.data.toList.drop 1 := by
  have hl : 0 < b.data.toList.length := by rw [size_list]; exact h
  have := List.drop_eq_getElem_cons hl
  rw [List.drop_zero] at this
  rw [this]; rfl

set_option maxRecDepth 100000 in
set_option maxHeartbeats 1000000 in
theorem trimLeftByte_any (s : ByteArray) (w : World) (hs : s.size ≤ 1000000) :
    Calls Tryz.prog 115 #[.string s, .int .u8 48] w fun e w' => ∃ b : ByteArray, e = .returned (.string b) ∧ b.data.toList = s.data.toList.dropWhile (· == 48) ∧ w = w' := by
  go_enter Tryz.func115, Tryz.ntmps115
  go_wp2
  go_loop [0] (fun v => ∃ b : ByteArray, v = .string b ∧ b.size ≤ 1000000 ∧ Hid (b.data.toList.dropWhile (· == 48) = s.data.toList.dropWhile (· == 48))) (fun v => strLen2 v)
  case atStart => exact ⟨s, rfl, hs, rfl⟩
  case round =>
    obtain ⟨b, rfl, hb, hv⟩ := hrel
    by_cases h0 : 0 < b.size
    · have hh := head_bytes b h0
      have hsz : (b.extract 1 b.size).size = b.size - 1 := by simp [ByteArray.size_extract]
      by_cases h48 : b[0].toNat = 48
      · have e : b[0] = 48 := by apply UInt8.toNat_inj.1; exact h48
        have hd : (b.extract 1 b.size).data.toList.dropWhile (· == 48) = s.data.toList.dropWhile (· == 48) := by
          rw [← hv.out, hh, drop_one_bytes, List.dropWhile_cons, e, if_pos (by decide)]
        have HD := Lib.hid hd
        have HZ := Lib.hid hsz
        have h48' : ((b[0].toNat : Int) == 48) = true := by rw [beq_iff_eq]; omega
        clear hd hsz hh e h48
        go_wp2
        go_round
        case rel => exact ⟨b.extract 1 b.size, rfl, by rw [HZ.out]; omega, HD.out⟩
        case measure => show (b.extract 1 b.size).size < b.size; rw [HZ.out]; omega
      · have h48' : ((b[0].toNat : Int) == 48) = false := by rw [beq_eq_false_iff_ne]; omega
        have hd : b.data.toList = s.data.toList.dropWhile (· == 48) := by
          rw [← hv.out, hh, List.dropWhile_cons, if_neg]
          intro h
          rw [beq_iff_eq] at h
          rw [h] at h48; exact h48 rfl
        have HD := Lib.hid hd
        clear hd hsz hh h48
        go_wp2
        go_ret
        exact ⟨b, rfl, HD.out, rfl⟩
    · have hz : b.data.toList = [] := List.eq_nil_of_length_eq_zero (by rw [size_list]; omega)
      have hd : b.data.toList = s.data.toList.dropWhile (· == 48) := by rw [← hv.out, hz]; rfl
      have HD := Lib.hid hd
      clear hz hd
      go_wp2
      go_ret
      exact ⟨b, rfl, HD.out, rfl⟩

set_option maxRecDepth 100000 in
theorem trimLeft_any (s : ByteArray) (w : World) (hs : s.size ≤ 1000000) :
    Calls Tryz.prog 106 #[.string s, .string ⟨#[48]⟩] w fun e w' => ∃ b : ByteArray, e = .returned (.string b) ∧ b.data.toList = s.data.toList.dropWhile (· == 48) ∧ w = w' := by
  by_cases h0 : s.size = 0
  · have hz : s.data.toList = [] := List.eq_nil_of_length_eq_zero (by rw [size_list]; omega)
    have HD := Lib.hid (show s.data.toList = s.data.toList.dropWhile (· == 48) by rw [hz]; rfl)
    have he : s.toList = [] := by rw [ByteArray.toList_eq]; exact hz
    clear hz h0
    go_enter Tryz.func106, Tryz.ntmps106
    go_wp2_with fail
    go_ret
    exact ⟨s, rfl, HD.out, rfl⟩
  · have hne : s.toList.isEmpty = false := by
      rw [ByteArray.toList_eq, List.isEmpty_eq_false_iff]
      intro h; have := size_list s; rw [h] at this; simp at this; omega
    have hne2 : ¬ s.toList = [] := by
      rw [ByteArray.toList_eq]
      intro h; have := size_list s; rw [h] at this; simp at this; omega
    clear h0
    go_enter Tryz.func106, Tryz.ntmps106
    go_wp2_with fail
    refine (trimLeftByte_any s w hs).mono ?_
    rintro e w1 ⟨b, rfl, hb, rfl⟩
    have HB := Lib.hid hb
    clear hb
    go_wp2_with fail
    go_ret
    exact ⟨b, rfl, HB.out, rfl⟩
end Go.Proofs.YtbbemgeinlehmaaGreatDoor.Nat02

namespace Go.Proofs.YtbbemgeinlehmaaGreatDoor.Nat02
open Go.RowKit
set_option linter.unusedVariables false
open Go.Proofs.YtbbemgeinlehmaaGreatDoor.Dig
open Go.Proofs.YtbbemgeinlehmaaGreatDoor.Ref02 (textD)

theorem info_u8 : (Tryz.prog.info? 5).map (fun i => (i.zero, i.size, i.bytes)) = some (some (.int .u8 0), 1, 1) := by kernel_rfl
theorem make_bytes (n : Nat) (hn : n ≤ 1000000) (W : World) : (Instr.makeSlice 118 (.int .i64 (n : Int)) (.int .i64 (n : Int))).run Tryz.prog W = .ok (.slice (some ⟨W.heap.size, 0, none⟩) n n) (W.alloc (.cells (madeCells #[.int .u8 0] n) 5)) := by
  obtain ⟨i0, hi, hz0, hz1, hz2⟩ := info_parts info_u8
  have h := run_make (P := Tryz.prog) W 118 5 i0 (.int .u8 0) Tryz.underlying118 hi hz0 .i64 .i64 n n (by omega) (by omega) (by rw [hz2]; omega) (by omega)
  rw [hz1] at h
  simpa [Value.cells] using h
theorem bytes_back {w : World} {h F L T : Nat} {ds outs : List Nat} (hb : BB w h (splice ds F outs)) (hF : F + outs.length = ds.length) (ho : outs.length = T) :
    (convert 118 9 (.slice (some ⟨h, F, none⟩) T L)).run Tryz.prog w = .ok (.string (strOfNums (outs.map fun (n : Nat) => (n : Int)))) w := by
  refine run_convert_bytes_arg w 118 5 Tryz.underlying118 Tryz.underlying5 h F T L _ (by simp [ho]) (fun i hi => ?_) _ Tryz.underlying9
  have := hb.cell (i := F + i) (by rw [splice_len (by omega)]; omega)
  rw [splice_getD_mid (by omega) (by omega)] at this
  rw [this]
  simp [List.getD, show i < outs.length by omega]
theorem strOf_bytes (ds : List Nat) : (strOfNums (ds.map fun (n : Nat) => (n : Int))).data.toList = bytesOf ds := by
  rw [strOfNums_data, bytesOf, List.map_map]
  rfl

theorem splice_join {ds a b : List Nat} {F F2 : Nat} (h : F2 + a.length = F) (hl : F + b.length ≤ ds.length) : splice (splice ds F b) F2 a = splice ds F2 (a ++ b) := by
  subst h
  unfold splice
  have e1 : (ds.take (F2 + a.length) ++ b ++ ds.drop (F2 + a.length + b.length)).take F2 = ds.take F2 := by
    rw [List.append_assoc, List.take_append_of_le_length (by simp; omega), List.take_take, Nat.min_eq_left (by omega)]
  have e2 : (ds.take (F2 + a.length) ++ b ++ ds.drop (F2 + a.length + b.length)).drop (F2 + a.length) = b ++ ds.drop (F2 + a.length + b.length) := by
    rw [List.append_assoc, List.drop_append_of_le_length (by simp; omega), List.drop_of_length_le (by simp; omega), List.nil_append]
  rw [e1, e2]
  simp [Nat.add_assoc]
set_option maxRecDepth 100000 in
set_option maxHeartbeats 4000000 in
theorem text_good (va : Value) (xs : List Nat) (w : World) (hx : Row w va xs) (r1 : rightB xs = true) (h0 : xs.length ≠ 0) :
    Calls Tryz.prog 84 #[va] w fun e w' => e = .returned (.tuple #[.string ⟨(text (num xs)).toArray⟩, .int .i64 0]) ∧ Since w w' := by
  have HX := Lib.hid hx
  have nx := right_norm r1
  have hp := num_pos nx.2 h0
  have dx := hx.dig
  obtain ⟨_, A, cA, rfl, -, -⟩ := hx
  obtain ⟨n, hn⟩ : ∃ n, n = xs.length := ⟨_, rfl⟩
  have hn1 : n ≤ 256 := by omega
  have hcl := fun (W : World) (h1 : Row W (.slice A n cA) xs) => clone_any (.slice A n cA) xs n W h1 (by omega) (by omega)
  rw [show xs.take n = xs by rw [List.take_of_length_le (by omega)]] at hcl
  have hcl2 : ∀ (W : World), Row W (.slice A n cA) xs → Calls Tryz.prog 102 #[.slice A n cA, .int .i64 (n : Int)] W fun e w' => ∃ g, e = .returned (.slice (some ⟨g, 0, none⟩) n n) ∧ W.heap.size ≤ g ∧ Blk w' g xs ∧ Since W w' := fun W h1 => (hcl W h1).mono fun e w' ⟨g, he, hg, hb, hs⟩ => ⟨g, by rw [he, hn], hg, hb, hs⟩
  have HCL := Lib.hid hcl2
  rw [← hn] at HX ⊢
  have hz : ((n : Int) == 0) = false := by rw [beq_eq_false_iff_ne]; omega
  obtain ⟨DL, hDL⟩ : ∃ l : Nat, l = 10 * n + 9 := ⟨_, rfl⟩
  have hDi : 10 * (n : Int) + 9 = (DL : Int) := by omega
  have hDL1 : DL ≤ 2569 := by omega
  have hmk := make_bytes DL (by omega)
  have hlt : num xs < 10 ^ (10 * n) := by rw [hn]; exact Nat.lt_of_lt_of_le (num_lt dx) (ten_pow _)
  obtain ⟨M, hM⟩ : ∃ m, m = num xs := ⟨_, rfl⟩
  have hdg : digs (num xs) = xs := digs_num dx nx.2
  rw [← hM] at hp hlt hdg ⊢
  have HN := Lib.hid (And.intro hn (And.intro hDL (And.intro hlt (And.intro hp (And.intro hdg r1)))))
  clear nx hp dx hn hcl hcl2 hDL hlt hdg hM r1 h0
  go_enter Tryz.func84, Tryz.ntmps84
  go_wp2_with (first
    | (go_at_call 88; (with_reducible refine (right_yes (.slice A n cA) xs _ HX.out (by have := HN.out; omega)).mono ?_); rw [HN.out.2.2.2.2.2]; rintro e w1 ⟨rfl, rfl⟩)
    | (go_at_call 102; (with_reducible refine (HCL.out _ HX.out).mono ?_); rintro e w1 ⟨g, rfl, hg1, hb1, hs1⟩; have H1 := Lib.hid (And.intro hg1 (And.intro hb1 hs1)); clear hg1 hb1 hs1))
  have hgh := H1.out.2.1.lt
  obtain ⟨hh, hhh⟩ : ∃ h, h = w1.heap.size := ⟨_, rfl⟩
  have H0 := Lib.hid (And.intro (show g ≠ hh by omega) (show w.heap.size ≤ hh by have := H1.out.2.2.size; omega))
  have HHH := Lib.hid hhh
  rw [← hhh]
  clear hgh hhh
  go_loopw [4, 6] (fun r f wr => ∃ (T N k F : Nat) (ds : List Nat), r = .slice (some ⟨g, 0, none⟩) k n ∧ f = .int .i64 (F : Int) ∧ F ≤ DL ∧ k ≤ n ∧ Hid (F + 9 * T = DL ∧ N = M / 10 ^ (9 * T)) ∧ Hid (k = (digs N).length ∧ ds.length = n ∧ ds.take k = digs N) ∧ Hid (Blk wr g ds ∧ BB wr hh (splice (List.replicate DL 0) F (decsN (9 * T) M)) ∧ Since w wr)) (fun _ f _ => (intOf f).toNat)
  case atStart =>
    have hNN := HN.out
    refine ⟨0, M, n, DL, xs, rfl, rfl, Nat.le_refl _, Nat.le_refl _, ⟨by omega, by simp⟩, ⟨by rw [hNN.2.2.2.2.1]; exact hNN.1, hNN.1.symm, by rw [hNN.2.2.2.2.1, List.take_of_length_le (by omega)]⟩, H1.out.2.1.alloc _, ?_, H1.out.2.2.alloc _⟩
    rw [decsN, splice_nil, HHH.out]
    exact BB.made w1 DL
  case round =>
    obtain ⟨T, N, k, F, ds, rfl, rfl, hF, hkn, hv, hd, hb⟩ := hrel
    have hNN := HN.out
    by_cases hk : k = 0
    · have hN0 : N = 0 := by
        rcases Nat.eq_zero_or_pos N with h | h
        · exact h
        · have := hd.out.1
          rw [digs_pos (by omega)] at this
          simp at this; omega
      have hlt : M < 10 ^ (9 * T) := by
        have h1 := hv.out.2
        rw [hN0] at h1
        have hp := Nat.pow_pos (n := 9 * T) (show 0 < 10 by omega)
        have h2 := Nat.div_add_mod M (10 ^ (9 * T))
        rw [← h1, Nat.mul_zero, Nat.zero_add] at h2
        rw [← h2]
        exact Nat.mod_lt _ hp
      have hT : 0 < T := by
        rcases Nat.eq_zero_or_pos T with h | h
        · subst h; simp at hlt; omega
        · exact h
      have hFL : F < DL := by have := hv.out.1; omega
      have hcv := bytes_back (w := wr) (L := DL - F) hb.out.2.1 (by rw [decsN_len, List.length_replicate]; exact hv.out.1) (decsN_len _ _)
      have h9 : DL - F = 9 * T := by have := hv.out.1; omega
      obtain ⟨bs, hbs⟩ : ∃ b, b = strOfNums ((decsN (9 * T) M).map fun (n : Nat) => (n : Int)) := ⟨_, rfl⟩
      have hbz : bs.size = 9 * T := by rw [hbs, strOfNums_size]; simp [decsN_len]
      have hbl : bs.data.toList = bytesOf (decsN (9 * T) M) := by rw [hbs]; exact strOf_bytes _
      have htx : bs.data.toList.dropWhile (· == 48) = text M := by
        rw [hbl, dropw_decs _ _ hlt, text, if_neg (by omega)]
      rw [← hbs, ← h9] at hcv
      have i1 : (0 : Int) ≤ (F : Int) := by omega
      have i2 : (F : Int) ≤ (DL : Int) := by omega
      have i3 : DL ≠ F := by omega
      have HTX := Lib.hid (And.intro htx (show bs.size ≤ 1000000 by have := hv.out.1; omega))
      have hk2 : ((k : Int) > 0) = False := by simp; omega
      clear hN0 hlt hT hbs hbz hbl htx hNN h9
      subst hk
      go_wp2_with fail
      refine (trimLeft_any bs wr HTX.out.2).mono ?_
      rintro e w4 ⟨b, rfl, hbb, rfl⟩
      have hbe : b = ⟨(text M).toArray⟩ := by
        apply ByteArray.ext
        rw [← HTX.out.1, ← hbb]
      subst hbe
      clear hbb
      go_wp2_with fail
      go_ret2
      exact ⟨rfl, hb.out.2.2⟩
    · have hN1 : 0 < N := by
        rcases Nat.eq_zero_or_pos N with h | h
        · rw [h, digs_zero] at hd
          have := hd.out.1
          simp at this; omega
        · exact h
      have hF9 : 9 ≤ F := by
        have h1 := hv.out.2
        have hp := Nat.pow_pos (n := 9 * T) (show 0 < 10 by omega)
        have h2 := Nat.div_add_mod M (10 ^ (9 * T))
        rw [← h1] at h2
        have h3 : 10 ^ (9 * T) * 1 ≤ 10 ^ (9 * T) * N := Nat.mul_le_mul_left _ hN1
        have h4 := pow_lt_of (a := 9 * T) (b := 10 * n) (by have := hNN.2.2.1; omega)
        have := hv.out.1
        omega
      have hgl : ∀ i, i < k → ds.getD i 0 = (digs N).getD i 0 := fun i hi => by
        rw [← hd.out.2.2]
        simp only [List.getD]
        rw [List.getElem?_take, if_pos hi]
      have hrow : Row wr (.slice (some ⟨g, 0, none⟩) k n) (digs N) := by
        have := hb.out.1.row (o := 0) (n := k) (c := n) (by have := hd.out; omega) hkn
        rw [List.drop_zero, hd.out.2.2] at this
        exact this
      have hBY := byDigit_any g 0 k n (some ⟨g, 0, none⟩) n ds (digs N) 1000000000 wr hb.out.1 (by have := hd.out; omega) (by have := hd.out; omega) (by have := hd.out.1; omega) (by rw [← hd.out.1]; exact hrow) (.inl hd.out.1) (by omega) (by omega) (fun wr' k' outs e1 e2 e3 i hi => ⟨g, 0, rfl, by
        have hc := e2.cell (i := 0 + i) (by rw [splice_len (by have := hd.out; omega)]; have := hd.out; omega)
        rw [splice_getD_lt (by omega) (by have := hd.out; omega)] at hc
        rw [hc, Nat.zero_add, hgl i (by omega)]⟩)
      rw [← hd.out.1] at hBY
      have HBY := Lib.hid hBY
      obtain ⟨F2, hF2⟩ : ∃ f, f = F - 9 := ⟨_, rfl⟩
      have hFi : (F : Int) - 9 = (F2 : Int) := by omega
      have i1 : (0 : Int) ≤ (F2 : Int) := by omega
      have i2 : (F2 : Int) + 9 ≤ (DL : Int) := by omega
      have i3 : DL ≠ F2 := by omega
      have i4 : F2 + 9 - F2 = 9 := by omega
      have i5 : ((F2 : Int) + 9).toNat = F2 + 9 := by omega
      have i6 : (F2 : Int) ≤ (F2 : Int) + 9 := by omega
      have i7 : ¬ n = 0 := by omega
      have HF2 := Lib.hid (And.intro hF2 hF9)
      have hk0 : 0 < k := by omega
      clear hF2 hF9 hgl hrow hBY hNN hN1 hk
      go_wp2_with fail
      refine HBY.out.mono ?_
      rintro e w4 ⟨outs, rfl, ho1, ho2, ho3, ho4, ho5⟩
      rw [num_digs] at ho3 ⊢
      obtain ⟨G, hG⟩ : ∃ g, g = N % 1000000000 := ⟨_, rfl⟩
      rw [← hG]
      have hG1 : G < 4294967296 := by omega
      have hds := hd.out
      have hrow2 : Row w4 (.slice (some ⟨g, 0, none⟩) k n) outs := by
        have := ho4.row (o := 0) (n := k) (c := n) (by rw [splice_len (by omega)]; omega) hkn
        rw [window_splice (by omega) ho1] at this
        exact this
      have hsig := sig_le ho2
      have htk := take_sig ho2
      have hse : sig outs = (digs (N / 1000000000)).length := by unfold sig; rw [ho3]
      obtain ⟨k2, hk2⟩ : ∃ k2, k2 = sig outs := ⟨_, rfl⟩
      rw [← hk2] at hsig htk hse
      rw [ho3] at htk
      have hk2n : k2 ≤ n := by omega
      have hk2i : (k2 : Int) ≤ (n : Int) := by omega
      have hbb4 := hb.out.2.1.grown ho5 (by intro h; injection h with h; exact H0.out.1 h.symm)
      have htk2 : (splice ds 0 outs).take k2 = digs (N / 1000000000) := by
        rw [htk]
        unfold splice
        rw [List.take_zero, List.nil_append, List.take_append_of_le_length (by omega)]
      have hs4 := only_since hb.out.2.2 ho5 (by have := H1.out.1; exact this)
      have hspl : (splice ds 0 outs).length = n := by rw [splice_len (by omega)]; omega
      have H4 := Lib.hid (And.intro hrow2 (And.intro hse (And.intro htk2 (And.intro hbb4 (And.intro ho4 (And.intro hs4 (And.intro hspl (And.intro hk2 hG))))))))
      clear ho1 ho2 ho3 ho4 ho5 hds hrow2 hsig htk hse htk2 hbb4 hs4 hspl hk2 hG
      go_wp2_with fail
      refine (significant_any (.slice (some ⟨g, 0, none⟩) k n) outs w4 H4.out.1 (by have := H4.out.1.2; obtain ⟨A', c', e, -⟩ := this; injection e with e1 e2 e3; omega)).mono ?_
      rw [← H4.out.2.2.2.2.2.2.2.1]
      rintro e w5 ⟨rfl, rfl⟩
      go_wp2_with fail
      refine (writeGroup_any hh F2 (DL - F2) G (splice (List.replicate DL 0) F (decsN (9 * T) M)) _ H4.out.2.2.2.1 (by rw [splice_len (by rw [decsN_len, List.length_replicate]; have := hv.out.1; omega)]; simp; omega) hG1 (by rw [splice_len (by rw [decsN_len, List.length_replicate]; have := hv.out.1; omega)]; simp; omega)).mono ?_
      rintro e w6 ⟨rfl, hbb6, hon6⟩
      have hspl6 : splice (splice (List.replicate DL 0) F (decsN (9 * T) M)) F2 (decsN 9 G) = splice (List.replicate DL 0) F2 (decsN (9 * (T + 1)) M) := by
        rw [group_text, ← hv.out.2, ← H4.out.2.2.2.2.2.2.2.2]
        exact splice_join (by rw [decsN_len]; have := HF2.out; omega) (by rw [decsN_len, List.length_replicate]; have := hv.out.1; omega)
      rw [hspl6] at hbb6
      have H6 := Lib.hid (And.intro hbb6 (And.intro (H4.out.2.2.2.2.1.grown hon6 (by intro h; injection h with h; exact H0.out.1 h)) (only_since H4.out.2.2.2.2.2.1 hon6 H0.out.2)))
      clear hbb6 hon6 hspl6
      go_wp2_with fail
      go_roundw
      case rel => exact ⟨T + 1, N / 1000000000, k2, F2, splice ds 0 outs, rfl, rfl, by omega, hk2n, ⟨by have := hv.out.1; have := HF2.out; omega, by rw [hv.out.2]; exact group_next M T⟩, ⟨H4.out.2.1, H4.out.2.2.2.2.2.2.1, H4.out.2.2.1⟩, H6.out.2.1, H6.out.1, H6.out.2.2⟩
      case measure => simp [intOf]; have := HF2.out; omega
theorem text_any (va : Value) (xs : List Nat) (w : World) (hx : Row w va xs) (lx : xs.length ≤ 10000) :
    Calls Tryz.prog 84 #[va] w fun e w' => e = .returned (.tuple #[.string ⟨(textD xs).1.toArray⟩, .int .i64 (textD xs).2]) ∧ Since w w' := by
  by_cases r1 : rightB xs = true
  · by_cases h0 : xs.length = 0
    · have e : textD xs = ([48], 0) := by
        have : xs = [] := List.eq_nil_of_length_eq_zero h0
        rw [textD, if_pos r1, this]; rfl
      rw [e]
      have H := Lib.hid hx
      obtain ⟨_, A, c, rfl, -, -⟩ := hx
      have hz : ((xs.length : Int) == 0) = true := by rw [beq_iff_eq]; omega
      clear e h0
      go_enter Tryz.func84, Tryz.ntmps84
      go_wp2_with (go_at_call 88; (with_reducible refine (right_yes (.slice A xs.length c) xs _ H.out lx).mono ?_); rintro e w1 ⟨rfl, rfl⟩)
      go_ret2
      exact ⟨rfl, Since.refl _⟩
    · have e : textD xs = (text (num xs), 0) := by rw [textD, if_pos r1]
      rw [e]
      exact text_good va xs w hx r1 h0
  · have e : textD xs = ([], 2) := by rw [textD, if_neg r1]
    rw [e]
    have r1' : rightB xs = false := by simpa using r1
    have H := Lib.hid hx
    clear r1 e hx
    go_enter Tryz.func84, Tryz.ntmps84
    go_wp2_with (go_at_call 88; (with_reducible refine (right_yes va xs _ H.out lx).mono ?_); rintro e w1 ⟨rfl, rfl⟩)
    go_ret2
    exact ⟨rfl, Since.refl _⟩
end Go.Proofs.YtbbemgeinlehmaaGreatDoor.Nat02
