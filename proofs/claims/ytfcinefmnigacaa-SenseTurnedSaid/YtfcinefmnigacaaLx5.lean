/- Layer 5 (lex), as plain functions. No Go in sight. -/
import Derived.Test.YtfcinefmnigacaaDec
namespace Go.Proofs.Ytfcinefmnigacaa.Lx
open Go.Proofs.Ytfcinefmnigacaa.Dig
set_option linter.unusedVariables false
set_option linter.unusedSimpArgs false

abbrev Bs := List UInt8
def letterB (c : UInt8) : Bool := decide (97 ≤ c.toNat ∧ c.toNat ≤ 122) || decide (65 ≤ c.toNat ∧ c.toNat ≤ 90) || decide (c.toNat = 95)
def digB (c : UInt8) : Bool := decide (48 ≤ c.toNat ∧ c.toNat ≤ 57)
def whiteB (c : UInt8) : Bool := decide (c.toNat = 32 ∨ c.toNat = 9 ∨ c.toNat = 10 ∨ c.toNat = 13)
def signB (c : UInt8) : Bool := decide (c.toNat = 58 ∨ c.toNat = 123 ∨ c.toNat = 125 ∨ c.toNat = 91 ∨ c.toNat = 93 ∨ c.toNat = 40 ∨ c.toNat = 41 ∨ c.toNat = 44 ∨ c.toNat = 59 ∨ c.toNat = 61)
def wordB (c : UInt8) : Bool := letterB c || digB c
/-- how many blank bytes stand in front; true: within a comment -/
def blk : Bool → Bs → Nat
  | _, [] => 0
  | true, c :: t => if c.toNat = 10 then 1 + blk false t else 1 + blk true t
  | false, c :: t => if c.toNat = 37 then 1 + blk true t else if whiteB c = true then 1 + blk false t else 0
/-- how many bytes of a sort stand in front -/
def run (p : UInt8 → Bool) : Bs → Nat
  | [] => 0
  | c :: t => if p c = true then 1 + run p t else 0
/-- the kind and the length of the token in front -/
def word : Bs → Nat × Nat
  | [] => (0, 0)
  | c :: t =>
    if letterB c = true then (1, 1 + run wordB t)
    else if digB c = true then (2, 1 + run digB t)
    else if c.toNat = 45 ∧ 0 < run digB t then (2, 1 + run digB t)
    else if (c.toNat = 58 ∨ c.toNat = 46) ∧ t.head? = some c then (3, 2)
    else if signB c = true then (3, 1)
    else (0, 0)
/-- the number of a number's bytes -/
def intD (l : Bs) : Int := if l.head? = some 45 then -(undec l.tail : Int) else undec l
def fits (v : Int) : Prop := -9223372036854775808 ≤ v ∧ v < 9223372036854775808
instance (v : Int) : Decidable (fits v) := by unfold fits; infer_instance
structure Tok where
  kind : Nat
  txt : Bs
  val : Int
  at_ : Nat
def tokD (l : Bs) (at_ : Nat) : Tok := ⟨(word l).1, l.take (word l).2, if (word l).1 = 2 then intD (l.take (word l).2) else 0, at_⟩
/-- how far the next token stands -/
def next (l : Bs) : Nat := (word l).2 + blk false (l.drop (word l).2)
def lexG : Nat → Bs → Nat → List Tok → List Tok × Nat × Int
  | 0, _, _, out => (out, 0, 0)
  | f + 1, l, i, out =>
    if l.length = 0 then (out, 0, 0)
    else if out.length = 4096 then ([], i, 3)
    else if (word l).1 = 0 then ([], i, 5)
    else if (word l).1 = 2 ∧ ¬ fits (intD (l.take (word l).2)) then ([], i, 4)
    else lexG f (l.drop (next l)) (i + next l) (out ++ [tokD l i])
/-- the tokens from a place on, behind those that are there already -/
def lexA (s : Bs) (i : Nat) (out : List Tok) : List Tok × Nat × Int := lexG (s.length + 1) (s.drop i) i out
/-- what the document says of Split -/
def splitD (s : Bs) : List Tok × Nat × Int := if 8192 < s.length then ([], 0, 3) else lexA s (blk false s) []

theorem blk_le : ∀ (b : Bool) (l : Bs), blk b l ≤ l.length
  | _, [] => by simp [blk]
  | true, c :: t => by
    have h1 := blk_le false t; have h2 := blk_le true t
    simp only [blk, List.length_cons]; split <;> omega
  | false, c :: t => by
    have h1 := blk_le false t; have h2 := blk_le true t
    simp only [blk, List.length_cons]; split
    · omega
    · split <;> omega
theorem run_le (p : UInt8 → Bool) : ∀ l : Bs, run p l ≤ l.length
  | [] => by simp [run]
  | c :: t => by
    have := run_le p t
    simp only [run, List.length_cons]; split <;> omega
theorem head_len {l : Bs} {c : UInt8} (h : l.head? = some c) : 0 < l.length := by
  cases l with
  | nil => simp at h
  | cons a t => simp
theorem word_le (l : Bs) : (word l).2 ≤ l.length := by
  cases l with
  | nil => simp [word]
  | cons c t =>
    have h1 := run_le wordB t; have h2 := run_le digB t
    simp only [word, List.length_cons]
    split
    · simp only; omega
    split
    · simp only; omega
    split
    · simp only; omega
    split
    · rename_i h; have := head_len h.2; simp only; omega
    split <;> simp only <;> omega
theorem word_pos {l : Bs} (h : (word l).1 ≠ 0) : 0 < (word l).2 ∧ 0 < l.length := by
  cases l with
  | nil => simp [word] at h
  | cons c t =>
    refine ⟨?_, by simp⟩
    simp only [word] at h ⊢
    split
    · simp only; omega
    split
    · simp only; omega
    split
    · simp only; omega
    split
    · simp only; omega
    split
    · simp only; omega
    · rename_i h1 h2 h3 h4 h5
      rw [if_neg h1, if_neg h2, if_neg h3, if_neg h4, if_neg h5] at h
      exact absurd rfl h
theorem word_kind (l : Bs) : (word l).1 ≤ 3 := by
  cases l with
  | nil => simp [word]
  | cons c t =>
    simp only [word]
    split
    · simp only; omega
    split
    · simp only; omega
    split
    · simp only; omega
    split
    · simp only; omega
    split <;> simp only <;> omega
theorem next_le (l : Bs) : next l ≤ l.length := by
  have h1 := word_le l
  have h2 := blk_le false (l.drop (word l).2)
  rw [List.length_drop] at h2
  unfold next; omega
theorem next_pos {l : Bs} (h : (word l).1 ≠ 0) : 0 < next l := by
  have := (word_pos h).1
  unfold next; omega
theorem lexG_fuel : ∀ (f g : Nat) (l : Bs) (i : Nat) (out : List Tok), l.length < f → l.length < g → lexG f l i out = lexG g l i out := by
  intro f
  induction f with
  | zero => intro g l i out h; omega
  | succ f ih =>
    intro g l i out hf hg
    obtain ⟨g, rfl⟩ : ∃ k, g = k + 1 := ⟨g - 1, by omega⟩
    simp only [lexG]
    split
    · rfl
    split
    · rfl
    split
    · rfl
    split
    · rfl
    · rename_i h0 h1 h2 h3
      have := next_pos h2
      apply ih
      · rw [List.length_drop]; omega
      · rw [List.length_drop]; omega
theorem lexA_end {s : Bs} {i : Nat} {out : List Tok} (h : s.length ≤ i) : lexA s i out = (out, 0, 0) := by
  rw [lexA, lexG, if_pos (by rw [List.length_drop]; omega)]
theorem lexA_big {s : Bs} {i : Nat} {out : List Tok} (h : i < s.length) (ho : out.length = 4096) : lexA s i out = ([], i, 3) := by
  rw [lexA, lexG, if_neg (by rw [List.length_drop]; omega), if_pos ho]
theorem lexA_form {s : Bs} {i : Nat} {out : List Tok} (h : i < s.length) (ho : out.length ≠ 4096) (hw : (word (s.drop i)).1 = 0) : lexA s i out = ([], i, 5) := by
  rw [lexA, lexG, if_neg (by rw [List.length_drop]; omega), if_neg ho, if_pos hw]
theorem lexA_over {s : Bs} {i : Nat} {out : List Tok} (h : i < s.length) (ho : out.length ≠ 4096) (hw : (word (s.drop i)).1 = 2) (hv : ¬ fits (intD ((s.drop i).take (word (s.drop i)).2))) : lexA s i out = ([], i, 4) := by
  rw [lexA, lexG, if_neg (by rw [List.length_drop]; omega), if_neg ho, if_neg (by omega), if_pos ⟨hw, hv⟩]
theorem lexA_step {s : Bs} {i : Nat} {out : List Tok} (h : i < s.length) (ho : out.length ≠ 4096) (hw : (word (s.drop i)).1 ≠ 0) (hv : (word (s.drop i)).1 = 2 → fits (intD ((s.drop i).take (word (s.drop i)).2))) :
    lexA s i out = lexA s (i + next (s.drop i)) (out ++ [tokD (s.drop i) i]) := by
  rw [lexA, lexG, if_neg (by rw [List.length_drop]; omega), if_neg ho, if_neg hw, if_neg (by rintro ⟨h1, h2⟩; exact h2 (hv h1)), lexA, List.drop_drop]
  have := next_pos hw
  apply lexG_fuel <;> rw [List.length_drop] <;> omega

/-- the tokens of a text that begins with one, or is at its end -/
inductive Lexes : Bs → Nat → List Tok → Prop
  | done (i : Nat) : Lexes [] i []
  | tok {l : Bs} {i : Nat} {ts : List Tok} (hw : (word l).1 ≠ 0) (hv : (word l).1 = 2 → fits (intD (l.take (word l).2))) (h : Lexes (l.drop (next l)) (i + next l) ts) : Lexes l i (tokD l i :: ts)

theorem lexG_of {l : Bs} {i : Nat} {ts : List Tok} (h : Lexes l i ts) : ∀ (f : Nat) (out : List Tok), l.length < f → out.length + ts.length ≤ 4096 → lexG f l i out = (out ++ ts, 0, 0) := by
  induction h with
  | done i =>
    intro f out hf ho
    obtain ⟨f, rfl⟩ : ∃ k, f = k + 1 := ⟨f - 1, by omega⟩
    rw [lexG, if_pos List.length_nil, List.append_nil]
  | @tok l i ts hw hv h ih =>
    intro f out hf ho
    obtain ⟨f, rfl⟩ : ∃ k, f = k + 1 := ⟨f - 1, by omega⟩
    have hp := (word_pos hw).2
    have hn := next_pos hw
    simp only [List.length_cons] at ho
    rw [lexG, if_neg (by omega), if_neg (by omega), if_neg hw, if_neg (by rintro ⟨h1, h2⟩; exact h2 (hv h1)), ih f _ (by rw [List.length_drop]; omega) (by simp; omega)]
    simp
theorem lexes_of : ∀ (f : Nat) (l : Bs) (i : Nat) (out o : List Tok) (p : Nat) (e : Int), l.length < f → lexG f l i out = (o, p, e) →
    (e = 0 ∧ p = 0 ∧ ∃ ts, o = out ++ ts ∧ Lexes l i ts ∧ (out.length ≤ 4096 → o.length ≤ 4096)) ∨ (o = [] ∧ e ≠ 0 ∧ i ≤ p ∧ p < i + l.length ∧ (out.length + l.length ≤ 4096 → ¬ ∃ ts, Lexes l i ts)) := by
  intro f
  induction f with
  | zero => intro l i out o p e h; omega
  | succ f ih =>
    intro l i out o p e hf h
    rw [lexG] at h
    split at h
    · rename_i h0
      obtain rfl := List.eq_nil_of_length_eq_zero h0
      injection h with h1 h2
      injection h2 with h2 h3
      subst h1 h2 h3
      exact .inl ⟨rfl, rfl, [], by simp, .done _, fun h => h⟩
    rename_i h0
    split at h
    · rename_i h1
      injection h with e1 e2
      injection e2 with e2 e3
      subst e1 e2 e3
      exact .inr ⟨rfl, by decide, Nat.le_refl _, by omega, fun h => by omega⟩
    rename_i h1
    split at h
    · rename_i h2
      injection h with e1 e2
      injection e2 with e2 e3
      subst e1 e2 e3
      refine .inr ⟨rfl, by decide, Nat.le_refl _, by omega, ?_⟩
      rintro - ⟨ts, hl⟩
      cases hl with
      | done => simp at h0
      | tok hw => exact hw h2
    rename_i h2
    split at h
    · rename_i h3
      injection h with e1 e2
      injection e2 with e2 e3
      subst e1 e2 e3
      refine .inr ⟨rfl, by decide, Nat.le_refl _, by omega, ?_⟩
      rintro - ⟨ts, hl⟩
      cases hl with
      | done => simp at h0
      | tok hw hv => exact h3.2 (hv h3.1)
    rename_i h3
    have hv : (word l).1 = 2 → fits (intD (l.take (word l).2)) := fun h => Decidable.by_contra fun g => h3 ⟨h, g⟩
    have hn := next_pos h2
    have hn2 := next_le l
    rcases ih _ _ _ _ _ _ (by rw [List.length_drop]; omega) h with ⟨rfl, rfl, ts, rfl, hl, hc⟩ | ⟨rfl, he, hp1, hp2, hc⟩
    · refine .inl ⟨rfl, rfl, tokD l i :: ts, by simp, .tok h2 hv hl, fun h => ?_⟩
      have := hc (by simp; omega)
      simpa using this
    · rw [List.length_drop] at hp2
      refine .inr ⟨rfl, he, by omega, by omega, ?_⟩
      rintro hlen ⟨ts, hl⟩
      cases hl with
      | done => simp at h0
      | tok hw hv hl =>
        exact hc (by rw [List.length_drop]; simp; omega) ⟨_, hl⟩
end Go.Proofs.Ytfcinefmnigacaa.Lx
