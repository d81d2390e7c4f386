/- What Parse of package nat gives back. -/
import Derived.Test.YtkceldnljppflaaDoorN2r
import Derived.WalkSpells
namespace Go.Proofs.YtkceldnljppflaaDoor.Nat02
open Go.RowKit
set_option linter.unusedVariables false
open Go.Proofs.YtkceldnljppflaaDoor.Dig
open Go.Proofs.YtkceldnljppflaaDoor.Ref02 (parseD getD_byte take_byte allDec_take_false undec_len)

theorem undec_foldl (bs : List UInt8) (a : Nat) : bs.foldl (fun n b => 10 * n + (b.toNat - 48)) a = a * 10 ^ bs.length + undec bs := by
  induction bs generalizing a with
  | nil => simp [undec]
  | cons b r ih =>
    rw [List.foldl_cons, ih]
    have : undec (b :: r) = (b.toNat - 48) * 10 ^ r.length + undec r := by
      show (b :: r).foldl (fun n b => 10 * n + (b.toNat - 48)) 0 = _
      rw [List.foldl_cons, ih]; simp
    rw [this, List.length_cons, Nat.pow_succ]
    grind
theorem undec_append (xs ys : List UInt8) : undec (xs ++ ys) = undec xs * 10 ^ ys.length + undec ys := by
  show (xs ++ ys).foldl (fun n b => 10 * n + (b.toNat - 48)) 0 = _
  rw [List.foldl_append, undec_foldl]; rfl
theorem take_more_bytes (bs : List UInt8) {a b : Nat} (h : a ≤ b) : bs.take b = bs.take a ++ (bs.take b).drop a := by
  have := List.take_append_drop a (bs.take b)
  rw [List.take_take, Nat.min_eq_left h] at this
  exact this.symm
/-- a group more -/
theorem parse_step {bs : List UInt8} {E S : Nat} (hE : E ≤ bs.length) (hS : S = E - 9) : undec (bs.take E) = undec (bs.take S) * 1000000000 + undec ((bs.take E).drop S) := by
  rw [take_more_bytes bs (show S ≤ E by omega), undec_append]
  have hl : ((bs.take E).drop S).length = E - S := by simp; omega
  have h2 : (bs.take S ++ (bs.take E).drop S).drop S = (bs.take E).drop S := by
    rw [← take_more_bytes bs (show S ≤ E by omega)]
  rw [hl]
  by_cases h9 : 9 ≤ E
  · rw [show E - S = 9 by omega]
    congr 1
    rw [← take_more_bytes bs (show S ≤ E by omega)]
  · have : S = 0 := by omega
    subst this
    simp [undec_nil]
theorem allDec_part {bs : List UInt8} (h : allDec bs = true) (a b : Nat) : allDec ((bs.take b).drop a) = true := by
  unfold allDec at h ⊢
  rw [List.all_eq_true] at h ⊢
  intro x hx
  exact h x (List.mem_of_mem_take (List.mem_of_mem_drop hx))
theorem parse_bound {bs : List UInt8} (h : allDec bs = true) {E k : Nat} (hE : E ≤ 9 * k) : undec (bs.take E) < 4294967296 ^ k := by
  have ha : allDec (bs.take E) = true := by have := allDec_part h 0 E; simpa using this
  refine Nat.lt_of_lt_of_le (undec_len ha) ?_
  refine Nat.le_trans (Nat.pow_le_pow_right (by omega) (show (bs.take E).length ≤ 9 * k by simp; omega)) ?_
  rw [Nat.pow_mul]
  exact Nat.pow_le_pow_left (by decide) _
theorem extract_list (s : ByteArray) (a b : Nat) : (s.extract a b).data.toList = (s.data.toList.take b).drop a := by
  rw [ByteArray.data_extract, Array.toList_extract]
  simp [List.extract]
  rw [List.drop_take]

theorem timesDigit_bill (g n c c0 : Nat) (ds : List Nat) (w : World) (hg : Blk w g ds) (ho : n ≤ ds.length) (hl : ds.length ≤ 10000) (hc0 : c0 < 4294967296) (hfit : num (ds.take n) * 1000000000 + c0 < 4294967296 ^ n) :
    Calls Tryd.prog 59 #[.slice (some ⟨g, 0, none⟩) n c, .int .u32 1000000000, .int .u32 (c0 : Int)] w fun e w' => e = .returned (.tuple #[]) ∧ ∃ outs, outs.length = n ∧ IsDig outs ∧ num outs = num (ds.take n) * 1000000000 + c0 ∧ Blk w' g (splice ds 0 outs) ∧ w.grownBy w' (some g) :=
  timesDigit_any g n c 1000000000 c0 ds w hg ho hl (by omega) hc0 hfit
set_option maxRecDepth 100000 in
set_option maxHeartbeats 4000000 in
theorem parse_good (s : ByteArray) (w : World) (hs : s.size ≤ 2000) (h0 : 0 < s.size) (hd : decB s.data.toList = true) (ha : allDec s.data.toList = true) :
    Calls Tryd.prog 32 #[.string s] w (RetRowErr (digs (undec s.data.toList)) 0 w) := by
  have HDB := Lib.hid (fun W => isDecimal_any s W (by omega))
  rw [hd] at HDB
  have HA := Lib.hid (And.intro ha (len_list s))
  obtain ⟨n, hn⟩ : ∃ n, n = s.size := ⟨_, rfl⟩
  obtain ⟨G, hG⟩ : ∃ g : Nat, g = (n + 8) / 9 := ⟨_, rfl⟩
  have hGi : ((s.size : Int) + 9 - 1) / 9 = (G : Int) := by omega
  have hG1 : G ≤ 223 := by omega
  have hG2 : 1 ≤ G := by omega
  have hGn : n ≤ 9 * G := by omega
  have hmk := make_digits G (by omega)
  have HN := Lib.hid (And.intro hn hGn)
  clear hd ha hn hG hGn
  go_enter Tryd.func32, Tryd.ntmps32
  go_wp2_with (first
    | (go_at_call 57; (with_reducible refine (HDB.out _).mono ?_); rintro e w1 ⟨rfl, rfl⟩))
  obtain ⟨g, hg⟩ : ∃ g, g = w.heap.size := ⟨_, rfl⟩
  have HGG := Lib.hid hg
  rw [← hg]
  clear hg
  try simp only [hGi]
  go_loopw [23] (fun i wr => ∃ (k : Nat) (ds : List Nat), k ≤ G ∧ i = .int .i64 (k : Int) ∧ Hid (ds.length = G ∧ num ds = undec (s.data.toList.take (n - 9 * (G - k))) ∧ num (ds.drop k) = 0) ∧ Hid (Blk wr g ds ∧ Since w wr)) (fun i _ => G - (intOf i).toNat)
  case atStart => exact ⟨0, List.replicate G 0, Nat.zero_le _, rfl, ⟨by simp, by rw [num_noughts, show n - 9 * (G - 0) = 0 by have := HN.out; omega]; rfl, by rw [List.drop_zero, num_noughts]⟩, by rw [HGG.out]; exact Blk.made w G, since_made w _ _⟩
  case round =>
    obtain ⟨k, ds, hk, rfl, hv, hb⟩ := hrel
    by_cases hlt : k < G
    · have hNN := HN.out
      obtain ⟨E, hE⟩ : ∃ e, e = n - 9 * (G - (k + 1)) := ⟨_, rfl⟩
      obtain ⟨S, hS⟩ : ∃ e, e = n - 9 * (G - k) := ⟨_, rfl⟩
      have hSE : S = E - 9 := by omega
      have hE9 : 9 * (G - (k + 1)) ≤ n := by omega
      have hEn : E ≤ n := by omega
      have hex := extract_list s S E
      have hexs : (s.extract S E).size = E - S := by rw [ByteArray.size_extract, Nat.min_eq_left (by omega)]
      have hrg := fun W => readGroup_any (s.extract S E) W (by omega) (by rw [hex]; exact allDec_part HA.out.1 S E)
      rw [hex] at hrg
      have hst := parse_step (bs := s.data.toList) (E := E) (S := S) (by rw [HA.out.2]; omega) hSE
      obtain ⟨c0, hc0⟩ : ∃ c, c = undec ((s.data.toList.take E).drop S) := ⟨_, rfl⟩
      rw [← hc0] at hrg hst
      have hc01 : c0 < 4294967296 := by
        rw [hc0]
        have h1 := undec_len (allDec_part HA.out.1 S E)
        have h2 : ((s.data.toList.take E).drop S).length ≤ 9 := by simp; omega
        have h3 := Nat.pow_le_pow_right (n := 10) (by omega) h2
        omega
      have hdz : num (ds.drop (k + 1)) = 0 := by have := num_drop ds k; rw [hv.out.2.2] at this; omega
      have htk : num (ds.take (k + 1)) = undec (s.data.toList.take S) := by
        have := num_split ds (j := k + 1) (by have := hv.out.1; omega)
        rw [hdz, Nat.mul_zero, Nat.add_zero, hv.out.2.1, ← hS] at this
        exact this.symm
      have hbd := parse_bound HA.out.1 (E := E) (k := k + 1) (by omega)
      have HTD := Lib.hid fun (W : World) (h : Blk W g ds) => timesDigit_bill g (k + 1) G c0 ds W h (by have := hv.out.1; omega) (by have := hv.out.1; omega) hc01 (by rw [htk, ← hst]; exact hbd)
      have HRG := Lib.hid hrg
      have HST := Lib.hid (And.intro hst (And.intro htk (And.intro hdz (show E = n - 9 * (G - (k + 1)) from hE))))
      have hEi : (s.size : Int) - 9 * ((G : Int) - 1 - (k : Int)) = (E : Int) := by omega
      have hSi : max 0 ((E : Int) - 9) = (S : Int) := by omega
      have j1 : S ≤ E := by omega
      have j2 : E ≤ s.size := by omega
      have j3 : (0 : Int) ≤ (S : Int) := by omega
      have j4 : (k : Int) + 1 ≤ (G : Int) := by omega
      clear hex hexs hrg hst hc0 hdz htk hbd hE hS hSE hE9 hNN hEn
      go_wp2_with fail
      with_reducible refine (HRG.out _).mono ?_
      rintro e w4 ⟨rfl, rfl⟩
      go_wp2_with fail
      with_reducible refine (HTD.out _ hb.out.1).mono ?_
      rintro e w5 ⟨rfl, outs, ho1, ho2, ho3, ho4, ho5⟩
      have hlen : (splice ds 0 outs).length = G := by rw [splice_len (by have := hv.out.1; omega)]; exact hv.out.1
      have hdr : (splice ds 0 outs).drop (k + 1) = ds.drop (k + 1) := by
        unfold splice
        rw [List.take_zero, List.nil_append, Nat.zero_add, ho1, List.drop_append_of_le_length (by omega), List.drop_of_length_le (by omega), List.nil_append]
      have hnum : num (splice ds 0 outs) = undec (s.data.toList.take E) := by
        have h1 := num_splice (ds := ds) (o := 0) (outs := outs) (by have := hv.out.1; omega)
        rw [Nat.zero_add, ho1, HST.out.2.2.1, Nat.mul_zero, Nat.add_zero, ho3, HST.out.2.1, ← HST.out.1, Nat.pow_zero, Nat.one_mul, List.take_zero, num, Nat.zero_add] at h1
        exact h1
      have H5 := Lib.hid (And.intro hlen (And.intro hnum (And.intro (show num ((splice ds 0 outs).drop (k + 1)) = 0 by rw [hdr]; exact HST.out.2.2.1) (And.intro ho4 (only_since hb.out.2 ho5 (by rw [HGG.out]; exact Nat.le_refl _))))))
      clear ho1 ho2 ho3 ho4 ho5 hlen hdr hnum
      go_wp2_with fail
      go_roundw
      case rel => exact ⟨k + 1, splice ds 0 outs, by omega, by go_num, ⟨H5.out.1, by rw [H5.out.2.1, HST.out.2.2.2], H5.out.2.2.1⟩, H5.out.2.2.2.1, H5.out.2.2.2.2⟩
      case measure => simp [intOf]; omega
    · obtain rfl : k = G := by omega
      have hnum := hv.out.2.1
      rw [Nat.sub_self, Nat.mul_zero, Nat.sub_zero, List.take_of_length_le (by rw [HA.out.2, HN.out.1]; exact Nat.le_refl _)] at hnum
      have HCUT := Lib.hid fun W (h : Blk W g ds) => cut_any g ds W h (by have := hv.out.1; omega)
      rw [hnum] at HCUT
      simp only [hv.out.1] at HCUT
      clear hnum
      go_wp2_with (go_at_call 45; (with_reducible refine (HCUT.out _ hb.out.1).mono ?_); rintro e w1 ⟨g2, rfl, hr2, hs2⟩)
      go_ret2
      exact ⟨_, rfl, hr2, hb.out.2.trans hs2⟩
theorem parse_any (s : ByteArray) (w : World) (hs : s.size ≤ 100000) :
    Calls Tryd.prog 32 #[.string s] w (RetRowErr (parseD s.data.toList).1 (parseD s.data.toList).2 w) := by
  have hz := len_list s
  by_cases hd : decB s.data.toList = true
  · have hd2 := hd
    unfold decB at hd2
    rw [Bool.and_eq_true, Bool.not_eq_true'] at hd2
    have hcond := of_decide_eq_false hd2.1
    have e1 : parseD s.data.toList = if 2000 < s.data.toList.length then ([], 3) else fitD (undec s.data.toList) := by
      unfold parseD; rw [if_neg hcond, if_neg (by rw [hd2.2]; simp)]
    have hp : 0 < s.size := by
      rcases Nat.eq_zero_or_pos s.size with h | h
      · exact absurd (.inl (by omega)) hcond
      · exact h
    by_cases hb : 2000 < s.size
    · rw [e1, if_pos (by omega)]
      have HDB := Lib.hid (fun W => isDecimal_any s W (by omega))
      rw [hd] at HDB
      clear hd hd2 hcond e1 hz
      go_enter Tryd.func32, Tryd.ntmps32
      go_wp2_with (go_at_call 57; (with_reducible refine (HDB.out _).mono ?_); rintro e w1 ⟨rfl, rfl⟩)
      go_ret2
      exact ⟨_, rfl, Row.nil _, Since.refl _⟩
    · have hlen : (digs (undec s.data.toList)).length ≤ 256 := by
        have h1 := parse_bound hd2.2 (E := s.size) (k := (s.size + 8) / 9) (by omega)
        rw [List.take_of_length_le (by omega)] at h1
        have := digs_len_le h1
        omega
      rw [e1, if_neg (by omega), fitD, if_pos hlen]
      exact parse_good s w (by omega) hp hd hd2.2
  · have hd' : decB s.data.toList = false := by simpa using hd
    have e1 : parseD s.data.toList = ([], 5) := by
      unfold parseD
      by_cases hc : s.data.toList.length = 0 ∨ (1 < s.data.toList.length ∧ (s.data.toList.getD 0 0).toNat = 48)
      · rw [if_pos hc]
      · rw [if_neg hc, if_pos]
        unfold decB at hd'
        rw [decide_eq_false hc] at hd'
        simpa using hd'
    rw [e1]
    have HDB := Lib.hid (fun W => isDecimal_any s W (by omega))
    rw [hd'] at HDB
    clear hd hd' e1 hz
    go_enter Tryd.func32, Tryd.ntmps32
    go_wp2_with (go_at_call 57; (with_reducible refine (HDB.out _).mono ?_); rintro e w1 ⟨rfl, rfl⟩)
    go_ret2
    exact ⟨_, rfl, Row.nil _, Since.refl _⟩
end Go.Proofs.YtkceldnljppflaaDoor.Nat02
