/- What the calls of layer 2 give where all is right: for the statements without the document's answers. -/
import Derived.Test.YtkceldnljppflaaDoorAlive02
import Derived.Test.YtkceldnljppflaaDoorDec2
namespace Go.Proofs.YtkceldnljppflaaDoor.Law02
open Go.RowKit
set_option linter.unusedVariables false
open Go.Proofs.YtkceldnljppflaaDoor.Dig
open Go.Proofs.YtkceldnljppflaaDoor.Ref02 (textD parseD)

theorem cmp_is {va vb : Value} {xs ys : List Nat} {c e : Int} {w : World} (h : cmpD xs ys = (c, e)) (hx : Row w va xs) (hy : Row w vb ys) (lx : xs.length ≤ 10000) (ly : ys.length ≤ 10000) :
    Calls Tryd.prog 15 #[va, vb] w fun r w' => r = .returned (.tuple #[.int .i64 c, .int .i64 e]) ∧ Since w w' := by
  have k := Nat02.cmp_any va vb xs ys w hx hy lx ly
  rw [h] at k; exact k
theorem add_is {va vb : Value} {xs ys ds : List Nat} {e : Int} {w : World} (h : addD xs ys = (ds, e)) (hx : Row w va xs) (hy : Row w vb ys) (lx : xs.length ≤ 10000) (ly : ys.length ≤ 10000) :
    Calls Tryd.prog 22 #[va, vb] w (RetRowErr ds e w) := by
  have k := Nat02.add_any va vb xs ys w hx hy lx ly
  rw [h] at k; exact k
theorem sub_is {va vb : Value} {xs ys ds : List Nat} {e : Int} {w : World} (h : subD xs ys = (ds, e)) (hx : Row w va xs) (hy : Row w vb ys) (lx : xs.length ≤ 10000) (ly : ys.length ≤ 10000) :
    Calls Tryd.prog 24 #[va, vb] w (RetRowErr ds e w) := by
  have k := Nat02.sub_any va vb xs ys w hx hy lx ly
  rw [h] at k; exact k
theorem mul_is {va vb : Value} {xs ys ds : List Nat} {e : Int} {w : World} (h : mulD xs ys = (ds, e)) (hx : Row w va xs) (hy : Row w vb ys) (lx : xs.length ≤ 10000) (ly : ys.length ≤ 10000) :
    Calls Tryd.prog 26 #[va, vb] w (RetRowErr ds e w) := by
  have k := Nat02.mul_any va vb xs ys w hx hy lx ly
  rw [h] at k; exact k
theorem right_is {va : Value} {xs : List Nat} {b : Bool} {w : World} (h : rightB xs = b) (hx : Row w va xs) (lx : xs.length ≤ 10000) :
    Calls Tryd.prog 17 #[va] w fun e w' => e = .returned (.bool b) ∧ Since w w' := by
  have k := Nat02.right_any va xs w hx lx
  rw [h] at k; exact k
theorem same_is {va vb : Value} {xs ys : List Nat} {b : Bool} {w : World} (h : sameB xs ys = b) (hx : Row w va xs) (hy : Row w vb ys) (lx : xs.length ≤ 10000) (ly : ys.length ≤ 10000) :
    Calls Tryd.prog 19 #[va, vb] w fun e w' => e = .returned (.bool b) ∧ Since w w' := by
  have k := Ref02.same_any va vb xs ys w hx hy (by omega) (by omega)
  rw [h] at k; exact k
theorem text_is {va : Value} {xs : List Nat} {s : ByteArray} {e : Int} {w : World} (h : textD xs = (s.data.toList, e)) (hx : Row w va xs) (lx : xs.length ≤ 10000) :
    Calls Tryd.prog 30 #[va] w fun r w' => r = .returned (.tuple #[.string s, .int .i64 e]) ∧ Since w w' := by
  have k := Nat02.text_any va xs w hx lx
  rw [h] at k; exact k
theorem parse_is {s : ByteArray} {ds : List Nat} {e : Int} {w : World} (h : parseD s.data.toList = (ds, e)) (hs : s.size ≤ 100000) :
    Calls Tryd.prog 32 #[.string s] w (RetRowErr ds e w) := by
  have k := Nat02.parse_any s w hs
  rw [h] at k; exact k
theorem div_is {va vb : Value} {xs ys q r : List Nat} {e : Int} {w : World} (h : divQ xs ys = q ∧ divR xs ys = r ∧ divE xs ys = e) (hx : Row w va xs) (hy : Row w vb ys) (lx : xs.length ≤ 10000) (ly : ys.length ≤ 10000) :
    Calls Tryd.prog 28 #[va, vb] w fun x w' => ∃ v1 v2, x = .returned (.tuple #[v1, v2, .int .i64 e]) ∧ Row w' v1 q ∧ Row w' v2 r ∧ Since w w' := by
  have k := Nat02.divmod_any va vb xs ys w hx hy lx ly
  rw [h.1, h.2.1, h.2.2] at k; exact k

theorem right_digs {n k : Nat} (h : n < 4294967296 ^ k) (hk : k ≤ 256) : rightB (digs n) = true :=
  right_of (Nat.le_trans (digs_len_le h) hk) (norm_digs n)
theorem digs_self {xs : List Nat} (hd : IsDig xs) (h : rightB xs = true) : digs (num xs) = xs := digs_num hd (right_norm h).2
theorem num_lt_pow {xs : List Nat} (hd : IsDig xs) {k : Nat} (h : xs.length ≤ k) : num xs < 4294967296 ^ k :=
  Nat.lt_of_lt_of_le (num_lt hd) (Nat.pow_le_pow_right (by omega) h)
theorem add_fit {xs ys : List Nat} {k : Nat} (r1 : rightB xs = true) (r2 : rightB ys = true) (h : num xs + num ys < 4294967296 ^ k) (hk : k ≤ 256) : addD xs ys = (digs (num xs + num ys), 0) := by
  unfold addD
  rw [if_pos ⟨r1, r2⟩, fitD, if_pos (Nat.le_trans (digs_len_le h) hk)]
theorem mul_fit {xs ys : List Nat} {k : Nat} (r1 : rightB xs = true) (r2 : rightB ys = true) (h : num xs * num ys < 4294967296 ^ k) (hk : k ≤ 256) : mulD xs ys = (digs (num xs * num ys), 0) := by
  unfold mulD
  rw [if_pos ⟨r1, r2⟩, fitD, if_pos (Nat.le_trans (digs_len_le h) hk)]
theorem pow_add_lt {a b k : Nat} (ha : a < 4294967296 ^ k) (hb : b < 4294967296 ^ k) : a + b < 4294967296 ^ (k + 1) := by
  have : (4294967296 : Nat) ^ (k + 1) = 4294967296 ^ k * 4294967296 := Nat.pow_succ ..
  omega
theorem pow_mul_lt {a b k l : Nat} (ha : a < 4294967296 ^ k) (hb : b < 4294967296 ^ l) : a * b < 4294967296 ^ (k + l) := by
  rw [Nat.pow_add]
  rcases Nat.eq_zero_or_pos b with rfl | hp
  · rw [Nat.mul_zero]; exact Nat.mul_pos (Nat.pow_pos (by omega)) (Nat.pow_pos (by omega))
  · exact Nat.lt_of_lt_of_le (Nat.mul_lt_mul_of_pos_right ha hp) (Nat.mul_le_mul_left _ (Nat.le_of_lt hb))

/-- a text that is read gives the text again -/
theorem text_parse {bs : List UInt8} {ds : List Nat} (h : parseD bs = (ds, 0)) : textD ds = (bs, 0) ∧ ds.length ≤ 256 := by
  unfold Ref02.parseD at h
  split at h
  · simp at h
  · rename_i h1
    split at h
    · simp at h
    · rename_i h2
      split at h
      · simp at h
      · have ha : allDec bs = true := by simpa using h2
        unfold fitD at h
        split at h
        · rename_i h4
          have e : ds = digs (undec bs) := by injection h with h _; exact h.symm
          subst e
          have hr : rightB (digs (undec bs)) = true := right_of h4 (norm_digs _)
          refine ⟨?_, h4⟩
          unfold Ref02.textD
          rw [if_pos hr, num_digs]
          congr 1
          unfold text
          split
          · rename_i h5
            by_cases hh : (bs.getD 0 0).toNat = 48
            · have hlen : bs.length = 1 := by omega
              match bs, hlen with
              | [b], _ =>
                simp at hh
                have : b = 48 := by
                  apply UInt8.toNat_inj.mp; simpa using hh
                rw [this]
            · have h6 := decs_undec ha (.inr hh)
              rw [h5, decs_zero] at h6
              exfalso; apply h1; left; rw [← h6]; rfl
          · rename_i h5
            by_cases hh : (bs.getD 0 0).toNat = 48
            · have hlen : bs.length = 1 := by omega
              match bs, hlen with
              | [b], _ =>
                simp at hh
                exfalso; apply h5
                simp [undec, hh]
            · exact decs_undec ha (.inr hh)
        · simp at h
/-- a number that is told gives the number again -/
theorem parse_text {xs : List Nat} (hd : IsDig xs) (hr : rightB xs = true) (hl : xs.length ≤ 40) : ∃ s : ByteArray, textD xs = (s.data.toList, 0) ∧ parseD s.data.toList = (xs, 0) ∧ s.size ≤ 400 := by
  refine ⟨⟨(text (num xs)).toArray⟩, ?_, ?_, ?_⟩
  · unfold Ref02.textD; rw [if_pos hr]
  · have hself := digs_self hd hr
    have hlen := decs_num_len hd
    show parseD (text (num xs)).toArray.toList = (xs, 0)
    rw [List.toList_toArray]
    by_cases h0 : num xs = 0
    · have e : xs = [] := by rw [h0, digs_zero] at hself; exact hself.symm
      subst e
      decide
    · unfold text
      rw [if_neg h0]
      unfold Ref02.parseD
      rw [if_neg (by
        rintro (h | ⟨_, h⟩)
        · exact decs_ne h0 h
        · exact head_decs h0 h), if_neg (by rw [allDec_decs]; simp), if_neg (by omega), undec_decs, fitD, hself, if_pos (right_norm hr).1]
  · have hlen := decs_num_len hd
    show (text (num xs)).toArray.size ≤ 400
    rw [List.size_toArray]
    unfold text
    split
    · simp
    · omega
end Go.Proofs.YtkceldnljppflaaDoor.Law02
