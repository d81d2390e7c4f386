/- Layer 5 (lex), as plain functions. No Go in sight. -/
import Derived.Test.YtakfabaocgbbmaaDec
namespace Go.Proofs.Ytakfabaocgbbmaa.Lx
open Go.Proofs.Ytakfabaocgbbmaa.Dig
set_option linter.unusedVariables false
set_option linter.unusedSimpArgs false

abbrev Bs := List UInt8
def letterB (c : UInt8) : Bool := decide (97 ≤ c.toNat ∧ c.toNat ≤ 122) || decide (65 ≤ c.toNat ∧ c.toNat ≤ 90) || decide (c.toNat = 95)
def digB (c : UInt8) : Bool := decide (48 ≤ c.toNat ∧ c.toNat ≤ 57)
def whiteB (c : UInt8) : Bool := decide (c.toNat = 32 ∨ c.toNat = 9 ∨ c.toNat = 10 ∨ c.toNat = 13)
def signB (c : UInt8) : Bool := decide (c.toNat = 58 ∨ c.toNat = 123 ∨ c.toNat = 125 ∨ c.toNat = 91 ∨ c.toNat = 93 ∨ c.toNat = 40 ∨ c.toNat = 41 ∨ c.toNat = 44 ∨ c.toNat = 59 ∨ c.toNat = 61)
def wordB (c : UInt8) : Bool := letterB c || digB c
/-- how many blank bytes stand in front; true: within a comment -/
def blk : Bool → Bs → Nat
  | _, [] => 0
  | true, c :: t => if c.toNat = 10 then 1 + blk false t else 1 + blk true t
  | false, c :: t => if c.toNat = 37 then 1 + blk true t else if whiteB c = true then 1 + blk false t else 0
/-- how many bytes of a sort stand in front -/
def run (p : UInt8 → Bool) : Bs → Nat
  | [] => 0
  | c :: t => if p c = true then 1 + run p t else 0
/-- the kind and the length of the token in front -/
def word : Bs → Nat × Nat
  | [] => (0, 0)
  | c :: t =>
    if letterB c = true then (1, 1 + run wordB t)
    else if digB c = true then (2, 1 + run digB t)
    else if c.toNat = 45 ∧ 0 < run digB t then (2, 1 + run digB t)
    else if (c.toNat = 58 ∨ c.toNat = 46) ∧ t.head? = some c then (3, 2)
    else if signB c = true then (3, 1)
    else (0, 0)
/-- the number of a number's bytes -/
def intD (l : Bs) : Int := if l.head? = some 45 then -(undec l.tail : Int) else undec l
def fits (v : Int) : Prop := -9223372036854775808 ≤ v ∧ v < 9223372036854775808
instance (v : Int) : Decidable (fits v) := by unfold fits; infer_instance
structure Tok where
  kind : Nat
  txt : Bs
  val : Int
  at_ : Nat
def tokD (l : Bs) (at_ : Nat) : Tok := ⟨(word l).1, l.take (word l).2, if (word l).1 = 2 then intD (l.take (word l).2) else 0, at_⟩
/-- how far the next token stands -/
def next (l : Bs) : Nat := (word l).2 + blk false (l.drop (word l).2)
def lexG : Nat → Bs → Nat → List Tok → List Tok × Nat × Int
  | 0, _, _, out => (out, 0, 0)
  | f + 1, l, i, out =>
    if l.length = 0 then (out, 0, 0)
    else if out.length = 4096 then ([], i, 3)
    else if (word l).1 = 0 then ([], i, 5)
    else if (word l).1 = 2 ∧ ¬ fits (intD (l.take (word l).2)) then ([], i, 4)
    else lexG f (l.drop (next l)) (i + next l) (out ++ [tokD l i])
/-- the tokens from a place on, behind those that are there already -/
def lexA (s : Bs) (i : Nat) (out : List Tok) : List Tok × Nat × Int := lexG (s.length + 1) (s.drop i) i out
/-- what the document says of Split -/
def splitD (s : Bs) : List Tok × Nat × Int := if 8192 < s.length then ([], 0, 3) else lexA s (blk false s) []

theorem blk_le : ∀ (b : Bool) (l : Bs), blk b l ≤ l.length
  | _, [] => by simp [blk]
  | true, c :: t => by
    have h1 := blk_le false t; have h2 := blk_le true t
    simp only [blk, List.length_cons]; split <;> omega
  | false, c :: t => by
    have h1 := blk_le false t; have h2 := blk_le true t
    simp only [blk, List.length_cons]; split
    · omega
    · split <;> omega
theorem run_le (p : UInt8 → Bool) : ∀ l : Bs, run p l ≤ l.length
  | [] => by simp [run]
  | c :: t => by
    have := run_le p t
    simp only [run, List.length_cons]; split <;> omega
theorem head_len {l : Bs} {c : UInt8} (h : l.head? = some c) : 0 < l.length := by
  cases l with
  | nil => simp at h
  | cons a t => simp
theorem word_le (l : Bs) : (word l).2 ≤ l.length := by
  cases l with
  | nil => simp [word]
  | cons c t =>
    have h1 := run_le wordB t; have h2 := run_le digB t
    simp only [word, List.length_cons]
    split
    · simp only; omega
    split
    · simp only; omega
    split
    · simp only; omega
    split
    · rename_i h; have := head_len h.2; simp only; omega
    split <;> simp only <;> omega
theorem word_pos {l : Bs} (h : (word l).1 ≠ 0) : 0 < (word l).2 ∧ 0 < l.length := by
  cases l with
  | nil => simp [word] at h
  | cons c t =>
    refine ⟨?_, by simp⟩
    simp only [word] at h ⊢
    split
    · simp only; omega
    split
    · simp only; omega
    split
    · simp only; omega
    split
    · simp only; omega
    split
    · simp only; omega
    · rename_i h1 h2 h3 h4 h5
      rw [if_neg h1, if_neg h2, if_neg h3, if_neg h4, if_neg h5] at h
      exact absurd rfl h
theorem word_kind (l : Bs) : (word l).1 ≤ 3 := by
  cases l with
  | nil => simp [word]
  | cons c t =>
    simp only [word]
    split
    · simp only; omega
    split
    · simp only; omega
    split
    · simp only; omega
    split
    · simp only; omega
    split <;> simp only <;> omega
theorem next_le (l : Bs) : next l ≤ l.length := by
  have h1 := word_le l
  have h2 := blk_le false (l.drop (word l).2)
  rw [List.length_drop] at h2
  unfold next; omega
theorem next_pos {l : Bs} (h : (word l).1 ≠ 0) : 0 < next l := by
  have := (word_pos h).1
  unfold next; omega
theorem lexG_fuel : ∀ (f g : Nat) (l : Bs) (i : Nat) (out : List Tok), l.length < f → l.length < g → lexG f l i out = lexG g l i out := by
  intro f
  induction f with
  | zero => intro g l i out h; omega
  | succ f ih =>
    intro g l i out hf hg
    obtain ⟨g, rfl⟩ : ∃ k, g = k + 1 := ⟨g - 1, by omega⟩
    simp only [lexG]
    split
    · rfl
    split
    · rfl
    split
    · rfl
    split
    · rfl
    · rename_i h0 h1 h2 h3
      have := next_pos h2
      apply ih
      · rw [List.length_drop]; omega
      · rw [List.length_drop]; omega
theorem lexA_end {s : Bs} {i : Nat} {out : List Tok} (h : s.length ≤ i) : lexA s i out = (out, 0, 0) := by
  rw [lexA, lexG, if_pos (by rw [List.length_drop]; omega)]
theorem lexA_big {s : Bs} {i : Nat} {out : List Tok} (h : i < s.length) (ho : out.length = 4096) : lexA s i out = ([], i, 3) := by
  rw [lexA, lexG, if_neg (by rw [List.length_drop]; omega), if_pos ho]
theorem lexA_form {s : Bs} {i : Nat} {out : List Tok} (h : i < s.length) (ho : out.length ≠ 4096) (hw : (word (s.drop i)).1 = 0) : lexA s i out = ([], i, 5) := by
  rw [lexA, lexG, if_neg (by rw [List.length_drop]; omega), if_neg ho, if_pos hw]
theorem lexA_over {s : Bs} {i : Nat} {out : List Tok} (h : i < s.length) (ho : out.length ≠ 4096) (hw : (word (s.drop i)).1 = 2) (hv : ¬ fits (intD ((s.drop i).take (word (s.drop i)).2))) : lexA s i out = ([], i, 4) := by
  rw [lexA, lexG, if_neg (by rw [List.length_drop]; omega), if_neg ho, if_neg (by omega), if_pos ⟨hw, hv⟩]
theorem lexA_step {s : Bs} {i : Nat} {out : List Tok} (h : i < s.length) (ho : out.length ≠ 4096) (hw : (word (s.drop i)).1 ≠ 0) (hv : (word (s.drop i)).1 = 2 → fits (intD ((s.drop i).take (word (s.drop i)).2))) :
    lexA s i out = lexA s (i + next (s.drop i)) (out ++ [tokD (s.drop i) i]) := by
  rw [lexA, lexG, if_neg (by rw [List.length_drop]; omega), if_neg ho, if_neg hw, if_neg (by rintro ⟨h1, h2⟩; exact h2 (hv h1)), lexA, List.drop_drop]
  have := next_pos hw
  apply lexG_fuel <;> rw [List.length_drop] <;> omega

/-- the tokens of a text that begins with one, or is at its end -/
inductive Lexes : Bs → Nat → List Tok → Prop
  | done (i : Nat) : Lexes [] i []
  | tok {l : Bs} {i : Nat} {ts : List Tok} (hw : (word l).1 ≠ 0) (hv : (word l).1 = 2 → fits (intD (l.take (word l).2))) (h : Lexes (l.drop (next l)) (i + next l) ts) : Lexes l i (tokD l i :: ts)

theorem lexG_of {l : Bs} {i : Nat} {ts : List Tok} (h : Lexes l i ts) : ∀ (f : Nat) (out : List Tok), l.length < f → out.length + ts.length ≤ 4096 → lexG f l i out = (out ++ ts, 0, 0) := by
  induction h with
  | done i =>
    intro f out hf ho
    obtain ⟨f, rfl⟩ : ∃ k, f = k + 1 := ⟨f - 1, by omega⟩
    rw [lexG, if_pos List.length_nil, List.append_nil]
  | @tok l i ts hw hv h ih =>
    intro f out hf ho
    obtain ⟨f, rfl⟩ : ∃ k, f = k + 1 := ⟨f - 1, by omega⟩
    have hp := (word_pos hw).2
    have hn := next_pos hw
    simp only [List.length_cons] at ho
    rw [lexG, if_neg (by omega), if_neg (by omega), if_neg hw, if_neg (by rintro ⟨h1, h2⟩; exact h2 (hv h1)), ih f _ (by rw [List.length_drop]; omega) (by simp; omega)]
    simp
theorem lexes_of : ∀ (f : Nat) (l : Bs) (i : Nat) (out o : List Tok) (p : Nat) (e : Int), l.length < f → lexG f l i out = (o, p, e) →
    (e = 0 ∧ p = 0 ∧ ∃ ts, o = out ++ ts ∧ Lexes l i ts ∧ (out.length ≤ 4096 → o.length ≤ 4096)) ∨ (o = [] ∧ e ≠ 0 ∧ i ≤ p ∧ p < i + l.length ∧ (out.length + l.length ≤ 4096 → ¬ ∃ ts, Lexes l i ts)) := by
  intro f
  induction f with
  | zero => intro l i out o p e h; omega
  | succ f ih =>
    intro l i out o p e hf h
    rw [lexG] at h
    split at h
    · rename_i h0
      obtain rfl := List.eq_nil_of_length_eq_zero h0
      injection h with h1 h2
      injection h2 with h2 h3
      subst h1 h2 h3
      exact .inl ⟨rfl, rfl, [], by simp, .done _, fun h => h⟩
    rename_i h0
    split at h
    · rename_i h1
      injection h with e1 e2
      injection e2 with e2 e3
      subst e1 e2 e3
      exact .inr ⟨rfl, by decide, Nat.le_refl _, by omega, fun h => by omega⟩
    rename_i h1
    split at h
    · rename_i h2
      injection h with e1 e2
      injection e2 with e2 e3
      subst e1 e2 e3
      refine .inr ⟨rfl, by decide, Nat.le_refl _, by omega, ?_⟩
      rintro - ⟨ts, hl⟩
      cases hl with
      | done => simp at h0
      | tok hw => exact hw h2
    rename_i h2
    split at h
    · rename_i h3
      injection h with e1 e2
      injection e2 with e2 e3
      subst e1 e2 e3
      refine .inr ⟨rfl, by decide, Nat.le_refl _, by omega, ?_⟩
      rintro - ⟨ts, hl⟩
      cases hl with
      | done => simp at h0
      | tok hw hv => exact h3.2 (hv h3.1)
    rename_i h3
    have hv : (word l).1 = 2 → fits (intD (l.take (word l).2)) := fun h => Decidable.by_contra fun g => h3 ⟨h, g⟩
    have hn := next_pos h2
    have hn2 := next_le l
    rcases ih _ _ _ _ _ _ (by rw [List.length_drop]; omega) h with ⟨rfl, rfl, ts, rfl, hl, hc⟩ | ⟨rfl, he, hp1, hp2, hc⟩
    · refine .inl ⟨rfl, rfl, tokD l i :: ts, by simp, .tok h2 hv hl, fun h => ?_⟩
      have := hc (by simp; omega)
      simpa using this
    · rw [List.length_drop] at hp2
      refine .inr ⟨rfl, he, by omega, by omega, ?_⟩
      rintro hlen ⟨ts, hl⟩
      cases hl with
      | done => simp at h0
      | tok hw hv hl =>
        exact hc (by rw [List.length_drop]; simp; omega) ⟨_, hl⟩
section
open Go.Proofs.Ytakfabaocgbbmaa.Dig
set_option linter.unusedVariables false
set_option linter.unusedSimpArgs false

def noAt (t : Tok) : Tok := { t with at_ := 0 }
theorem noAt_tok (l : Bs) (i j : Nat) : noAt (tokD l i) = noAt (tokD l j) := rfl
theorem lexes_move {l : Bs} {i : Nat} {ts : List Tok} (h : Lexes l i ts) : ∀ j, ∃ us, Lexes l j us ∧ us.map noAt = ts.map noAt := by
  induction h with
  | done i => exact fun j => ⟨[], .done j, rfl⟩
  | @tok l i ts hw hv h ih =>
    intro j
    obtain ⟨us, hu, he⟩ := ih (j + next l)
    exact ⟨tokD l j :: us, .tok hw hv hu, by simp only [List.map_cons, he, noAt_tok l j i]⟩
/-- a byte behind which no token goes on -/
def Sep (c : UInt8) : Prop := wordB c = false ∧ c.toNat ≠ 58 ∧ c.toNat ≠ 46
theorem digB_word {c : UInt8} (h : wordB c = false) : digB c = false := by
  unfold wordB at h; exact (Bool.or_eq_false_iff.1 h).2
theorem run_sep {p : UInt8 → Bool} {c : UInt8} (h : p c = false) (b : Bs) : ∀ l : Bs, run p (l ++ c :: b) = run p l
  | [] => by simp [run, h]
  | a :: t => by simp only [List.cons_append, run, run_sep h b t]
theorem head_sep {a c : UInt8} (hc : c.toNat ≠ 58 ∧ c.toNat ≠ 46) (ha : a.toNat = 58 ∨ a.toNat = 46) (t b : Bs) : (t ++ c :: b).head? = some a ↔ t.head? = some a := by
  cases t with
  | nil =>
    simp only [List.nil_append, List.head?_cons, List.head?_nil, Option.some.injEq, reduceCtorEq, iff_false]
    rintro rfl; omega
  | cons x t => simp
theorem word_sep {c : UInt8} (hc : Sep c) (l b : Bs) (hl : l ≠ []) : word (l ++ c :: b) = word l := by
  cases l with
  | nil => exact absurd rfl hl
  | cons a t =>
    simp only [List.cons_append, word, run_sep hc.1, run_sep (digB_word hc.1)]
    split
    · rfl
    split
    · rfl
    split
    · rfl
    by_cases ha : a.toNat = 58 ∨ a.toNat = 46
    · have := head_sep hc.2 ha t b
      simp only [this]
    · have g1 : ¬ ((a.toNat = 58 ∨ a.toNat = 46) ∧ (t ++ c :: b).head? = some a) := fun h => ha h.1
      have g2 : ¬ ((a.toNat = 58 ∨ a.toNat = 46) ∧ t.head? = some a) := fun h => ha h.1
      simp only [if_neg g1, if_neg g2]
theorem tok_sep {c : UInt8} (hc : Sep c) (l b : Bs) (hl : l ≠ []) (i : Nat) : tokD (l ++ c :: b) i = tokD l i := by
  have h := word_le l
  have e : (l ++ c :: b).take (word l).2 = l.take (word l).2 := List.take_append_of_le_length h
  simp only [tokD, word_sep hc l b hl, e]
theorem sep10 : Sep 10 := by unfold Sep; decide
theorem sep32 : Sep 32 := by unfold Sep; decide
theorem blk_sep (b : Bs) : ∀ (st : Bool) (l : Bs), blk st (l ++ 10 :: b) = if blk st l < l.length then blk st l else l.length + 1 + blk false b
  | true, [] => by simp [blk]
  | false, [] => by simp [blk, whiteB]
  | true, c :: t => by
    have h1 := blk_sep b false t; have h2 := blk_sep b true t
    simp only [List.cons_append, blk, List.length_cons]
    split
    · rw [h1]; split
      · rw [if_pos (by omega)]
      · rw [if_neg (by omega)]; omega
    · rw [h2]; split
      · rw [if_pos (by omega)]
      · rw [if_neg (by omega)]; omega
  | false, c :: t => by
    have h1 := blk_sep b false t; have h2 := blk_sep b true t
    simp only [List.cons_append, blk, List.length_cons]
    split
    · rw [h2]; split
      · rw [if_pos (by omega)]
      · rw [if_neg (by omega)]; omega
    · split
      · rw [h1]; split
        · rw [if_pos (by omega)]
        · rw [if_neg (by omega)]; omega
      · rw [if_pos (by omega)]
/-- what is left of two texts, of the first one's rest -/
def J (b a : Bs) : Bs := if a = [] then b.drop (blk false b) else a ++ 10 :: b
theorem J_blank (b a : Bs) : (a ++ 10 :: b).drop (blk false (a ++ 10 :: b)) = J b (a.drop (blk false a)) := by
  have hle := blk_le false a
  rw [blk_sep, J]
  split
  · rename_i h
    rw [if_neg (by intro h2; have := congrArg List.length h2; rw [List.length_drop] at this; simp at this; omega), List.drop_append_of_le_length hle]
  · rename_i h
    have e : a.drop (blk false a) = [] := List.drop_eq_nil_of_le (by omega)
    rw [if_pos e, List.drop_append, List.drop_eq_nil_of_le (by omega), List.nil_append, show a.length + 1 + blk false b - a.length = blk false b + 1 by omega]
    rfl
theorem J_next (b l : Bs) (hl : l ≠ []) : (J b l).drop (next (J b l)) = J b (l.drop (next l)) := by
  have hle := word_le l
  rw [J, if_neg hl, next, word_sep sep10 l b hl, List.drop_append_of_le_length hle, next, ← List.drop_drop, ← List.drop_drop, List.drop_append_of_le_length hle]
  exact J_blank b _
theorem both_on {a : Bs} {i : Nat} {ts : List Tok} (h : Lexes a i ts) : ∀ {b : Bs} {j : Nat} {us : List Tok}, Lexes (b.drop (blk false b)) j us → ∃ k vs, Lexes (J b a) k vs ∧ vs.map noAt = ts.map noAt ++ us.map noAt := by
  induction h with
  | done i => intro b j us hu; exact ⟨j, us, by rw [J, if_pos rfl]; exact hu, by simp⟩
  | @tok l i ts hw hv h ih =>
    intro b j us hu
    obtain ⟨k, vs, hvs, he⟩ := ih hu
    have hl : l ≠ [] := by have := (word_pos hw).2; intro h; subst h; simp at this
    obtain ⟨ws, hws, he2⟩ := lexes_move hvs (i + next (J b l))
    have ew : word (J b l) = word l := by rw [J, if_neg hl]; exact word_sep sep10 l b hl
    have et : (J b l).take (word l).2 = l.take (word l).2 := by rw [J, if_neg hl]; exact List.take_append_of_le_length (word_le l)
    refine ⟨i, tokD (J b l) i :: ws, .tok (by rw [ew]; exact hw) (by rw [ew, et]; exact hv) (by rw [J_next b l hl]; exact hws), ?_⟩
    have e3 : tokD (J b l) i = tokD l i := by rw [J, if_neg hl]; exact tok_sep sep10 l b hl i
    simp only [List.map_cons, he2, he, List.cons_append, e3]
theorem both_off : ∀ (n : Nat) (a b : Bs) (i : Nat) (vs : List Tok), a.length ≤ n → Lexes (J b a) i vs → (∃ ts, Lexes a i ts) ∧ ∃ j us, Lexes (b.drop (blk false b)) j us := by
  intro n
  induction n with
  | zero =>
    intro a b i vs hn h
    obtain rfl := List.eq_nil_of_length_eq_zero (Nat.le_zero.1 hn)
    rw [J, if_pos rfl] at h
    exact ⟨⟨[], .done i⟩, i, vs, h⟩
  | succ n ih =>
    intro a b i vs hn h
    by_cases hl : a = []
    · subst hl
      rw [J, if_pos rfl] at h
      exact ⟨⟨[], .done i⟩, i, vs, h⟩
    have ew : word (J b a) = word a := by rw [J, if_neg hl]; exact word_sep sep10 a b hl
    have et : (J b a).take (word a).2 = a.take (word a).2 := by rw [J, if_neg hl]; exact List.take_append_of_le_length (word_le a)
    have en := J_next b a hl
    have eJ : J b a ≠ [] := by rw [J, if_neg hl]; simp
    obtain ⟨X, hX⟩ : ∃ X, X = J b a := ⟨_, rfl⟩
    rw [← hX] at h ew et en eJ
    cases h with
    | done => exact absurd rfl eJ
    | tok hw hv h =>
      rw [en] at h
      rw [ew] at hw hv
      rw [et] at hv
      have hp := next_pos hw
      obtain ⟨⟨ts, h1⟩, h2⟩ := ih _ b _ _ (by rw [List.length_drop]; omega) h
      obtain ⟨us, hu, -⟩ := lexes_move h1 (i + next a)
      exact ⟨⟨_, .tok hw hv hu⟩, h2⟩

/-- texts with a space between each two -/
def joinD : List Bs → Bs
  | [] => []
  | [x] => x
  | x :: y :: r => x ++ 32 :: joinD (y :: r)
theorem joinD_snoc (xs : List Bs) (x : Bs) : joinD (xs ++ [x]) = if xs = [] then x else joinD xs ++ 32 :: x := by
  induction xs with
  | nil => rfl
  | cons a t ih =>
    cases t with
    | nil => rfl
    | cons b r =>
      rw [if_neg (by simp)]
      rw [if_neg (by simp)] at ih
      simp only [List.cons_append] at ih ⊢
      rw [joinD, ih, joinD]
      simp
theorem run_take (p : UInt8 → Bool) : ∀ l : Bs, run p (l.take (run p l)) = run p l
  | [] => rfl
  | c :: t => by
    by_cases h : p c = true
    · have := run_take p t
      simp only [run, if_pos h, Nat.add_comm 1, List.take_succ_cons, this]
    · simp only [run, if_neg h, List.take_zero]
theorem word_take (l : Bs) (hw : (word l).1 ≠ 0) : word (l.take (word l).2) = word l := by
  cases l with
  | nil => simp [word] at hw
  | cons c t =>
    by_cases h1 : letterB c = true
    · have e : word (c :: t) = (1, run wordB t + 1) := by simp only [word, if_pos h1, Nat.add_comm]
      rw [e]
      show word ((c :: t).take (run wordB t + 1)) = _
      rw [List.take_succ_cons]
      simp only [word, if_pos h1, run_take, Nat.add_comm]
    by_cases h2 : digB c = true
    · have e : word (c :: t) = (2, run digB t + 1) := by simp only [word, if_neg h1, if_pos h2, Nat.add_comm]
      rw [e]
      show word ((c :: t).take (run digB t + 1)) = _
      rw [List.take_succ_cons]
      simp only [word, if_neg h1, if_pos h2, run_take, Nat.add_comm]
    by_cases h3 : c.toNat = 45 ∧ 0 < run digB t
    · have e : word (c :: t) = (2, run digB t + 1) := by simp only [word, if_neg h1, if_neg h2, if_pos h3, Nat.add_comm]
      rw [e]
      show word ((c :: t).take (run digB t + 1)) = _
      rw [List.take_succ_cons]
      simp only [word, if_neg h1, if_neg h2, run_take, if_pos h3, Nat.add_comm]
    by_cases h4 : (c.toNat = 58 ∨ c.toNat = 46) ∧ t.head? = some c
    · have e : word (c :: t) = (3, 2) := by simp only [word, if_neg h1, if_neg h2, if_neg h3, if_pos h4]
      have e2 : (t.take 1).head? = some c := by
        cases t with
        | nil => simp at h4
        | cons a r => simpa using h4.2
      have h45 : ¬ (c.toNat = 45 ∧ 0 < run digB (t.take 1)) := by rintro ⟨h4a, -⟩; rcases h4.1 with h5 | h5 <;> omega
      rw [e]
      show word (c :: t.take 1) = _
      simp only [word, if_neg h1, if_neg h2, if_neg h45, if_pos (And.intro h4.1 e2)]
    by_cases h5 : signB c = true
    · have e : word (c :: t) = (3, 1) := by simp only [word, if_neg h1, if_neg h2, if_neg h3, if_neg h4, if_pos h5]
      rw [e]
      show word [c] = _
      have g3 : ¬ (c.toNat = 45 ∧ 0 < run digB []) := by simp [run]
      have g4 : ¬ ((c.toNat = 58 ∨ c.toNat = 46) ∧ ([] : Bs).head? = some c) := by simp
      simp only [word, if_neg h1, if_neg h2, if_neg g3, if_neg g4, if_pos h5]
    · exfalso; apply hw
      simp only [word, if_neg h1, if_neg h2, if_neg h3, if_neg h4, if_neg h5]
theorem word_blk {l : Bs} (hw : (word l).1 ≠ 0) : blk false l = 0 := by
  cases l with
  | nil => simp [word] at hw
  | cons c t =>
    have hc : c.toNat ≠ 37 ∧ whiteB c = false := by
      by_cases h : c.toNat ≠ 37 ∧ whiteB c = false
      · exact h
      exfalso
      apply hw
      have h5 : c.toNat = 37 ∨ c.toNat = 32 ∨ c.toNat = 9 ∨ c.toNat = 10 ∨ c.toNat = 13 := by
        by_cases h6 : c.toNat = 37
        · exact .inl h6
        · right
          have : ¬ whiteB c = false := fun g => h ⟨h6, g⟩
          simp only [whiteB, decide_eq_false_iff_not, Decidable.not_not] at this
          exact this
      have a1 : ¬ letterB c = true := by simp only [letterB, Bool.or_eq_true, decide_eq_true_eq]; omega
      have a2 : ¬ digB c = true := by simp only [digB, decide_eq_true_eq]; omega
      have a3 : ¬ signB c = true := by simp only [signB, decide_eq_true_eq]; omega
      simp only [word, if_neg a1, if_neg a2, if_neg a3]
      rw [if_neg (by omega), if_neg (by omega)]
    simp only [blk, if_neg hc.1, hc.2, Bool.false_eq_true, if_false]
theorem take_len {l : Bs} : (l.take (word l).2).length = (word l).2 := by
  rw [List.length_take]; have := word_le l; omega
theorem take_ne {l : Bs} (hw : (word l).1 ≠ 0) : l.take (word l).2 ≠ [] := by
  intro h; have h1 := @take_len l; rw [h] at h1; have := (word_pos hw).1; simp at h1; omega
theorem lexes_join {l : Bs} {i : Nat} {ts : List Tok} (h : Lexes l i ts) : ∀ j, ∃ us, Lexes (joinD (ts.map (·.txt))) j us ∧ us.map noAt = ts.map noAt ∧ blk false (joinD (ts.map (·.txt))) = 0 := by
  induction h with
  | done i => exact fun j => ⟨[], .done j, rfl, rfl⟩
  | @tok l i ts hw hv h ih =>
    intro j
    obtain ⟨x, hx⟩ : ∃ x, x = l.take (word l).2 := ⟨_, rfl⟩
    have hxl : x.length = (word l).2 := by rw [hx]; exact take_len
    have hxn : x ≠ [] := by rw [hx]; exact take_ne hw
    have ew : word x = word l := by rw [hx]; exact word_take l hw
    have etx : (tokD l i).txt = x := hx.symm
    cases ts with
    | nil =>
      have et : x.take (word x).2 = x := by rw [ew, ← hxl]; exact List.take_length
      refine ⟨[tokD x j], ?_, ?_, ?_⟩
      · simp only [List.map_cons, List.map_nil, etx, joinD]
        refine .tok (by rw [ew]; exact hw) (by rw [et, ew, hx]; exact hv) ?_
        have : x.drop (next x) = [] := by
          apply List.drop_eq_nil_of_le
          rw [next, ew]; omega
        rw [this]
        exact .done _
      · simp only [List.map_cons, List.map_nil, noAt, tokD, et]
        rw [ew, ← hx]
      · simp only [List.map_cons, List.map_nil, etx, joinD]
        exact word_blk (by rw [ew]; exact hw)
    | cons t r =>
      obtain ⟨Y, hY⟩ : ∃ Y, Y = joinD ((t :: r).map (·.txt)) := ⟨_, rfl⟩
      have eJ : joinD ((tokD l i :: t :: r).map (·.txt)) = x ++ 32 :: Y := by
        rw [hY]
        simp only [List.map_cons, joinD, etx]
      obtain ⟨w, hw1, hw2⟩ := word_sep sep32 x Y hxn |>.trans ew |> fun e => (⟨_, e, rfl⟩ : ∃ w, word (x ++ 32 :: Y) = w ∧ w = word l)
      subst hw2
      have en : (x ++ 32 :: Y).drop (next (x ++ 32 :: Y)) = Y ∧ next (x ++ 32 :: Y) = (word l).2 + 1 := by
        obtain ⟨us, -, -, hb⟩ := ih 0
        rw [← hY] at hb
        have e1 : (x ++ 32 :: Y).drop (word l).2 = 32 :: Y := by rw [← hxl]; exact List.drop_left
        have e2 : blk false (32 :: Y) = 1 := by simp [blk, whiteB, hb]
        rw [next, hw1, e1, e2]
        refine ⟨?_, rfl⟩
        rw [← List.drop_drop, e1]; rfl
      obtain ⟨us, hu, he, hb⟩ := ih (j + next (x ++ 32 :: Y))
      have et : (x ++ 32 :: Y).take (word l).2 = x := by rw [← hxl]; exact List.take_left
      rw [eJ]
      rw [← hY] at hu
      refine ⟨tokD (x ++ 32 :: Y) j :: us, .tok (by rw [hw1]; exact hw) (by rw [hw1, et, hx]; exact hv) (by rw [en.1]; exact hu), ?_, word_blk (by rw [hw1]; exact hw)⟩
      have e3 : noAt (tokD (x ++ 32 :: Y) j) = noAt (tokD l i) := by
        simp only [noAt, tokD, hw1, et, ← hx]
      rw [List.map_cons, e3, he]; rfl
theorem lexes_len {l : Bs} {i : Nat} {ts : List Tok} (h : Lexes l i ts) : ts.length ≤ l.length ∧ (joinD (ts.map (·.txt))).length ≤ 2 * l.length := by
  induction h with
  | done i => simp [joinD]
  | @tok l i ts hw hv h ih =>
    have hn := next_pos hw
    have hn2 := next_le l
    have hp := (word_pos hw).1
    have hlen := @take_len l
    have hle : (word l).2 ≤ next l := by unfold next; omega
    rw [List.length_drop] at ih
    refine ⟨by simp only [List.length_cons]; omega, ?_⟩
    cases ts with
    | nil => simp only [List.map_cons, List.map_nil, joinD, tokD]; omega
    | cons t r =>
      simp only [List.map_cons, joinD, tokD, List.length_append, List.length_cons]
      simp only [List.map_cons, tokD] at ih
      omega

theorem blk_take : ∀ (st : Bool) (l : Bs), blk st (l.take (blk st l)) = blk st l
  | true, [] => rfl
  | false, [] => rfl
  | true, c :: t => by
    have h1 := blk_take false t; have h2 := blk_take true t
    simp only [blk]
    split
    · rename_i h; simp only [Nat.add_comm 1, List.take_succ_cons, blk, if_pos h, h1]
    · rename_i h; simp only [Nat.add_comm 1, List.take_succ_cons, blk, if_neg h, h2]
  | false, c :: t => by
    have h1 := blk_take false t; have h2 := blk_take true t
    simp only [blk]
    split
    · rename_i h; simp only [Nat.add_comm 1, List.take_succ_cons, blk, if_pos h, h2]
    rename_i h
    split
    · rename_i h3; simp only [Nat.add_comm 1, List.take_succ_cons, blk, if_neg h, if_pos h3, h1]
    · simp [blk]
/-- is all of a text blank -/
def Blank (l : Bs) : Prop := blk false l = l.length
theorem split_blank {l : Bs} (h : Blank l) (hl : l.length ≤ 8192) : splitD l = ([], 0, 0) := by
  rw [splitD, if_neg (by omega), lexA_end (by rw [h]; exact Nat.le_refl _)]
theorem blank_front (l : Bs) : Blank (l.take (blk false l)) := by
  have := blk_le false l
  rw [Blank, blk_take, List.length_take]; omega
/-- where the tokens stand, from a place on -/
def Places (s : Bs) : Nat → List Tok → Prop
  | p, [] => p ≤ s.length ∧ Blank (s.drop p)
  | p, t :: r => p ≤ t.at_ ∧ t.at_ + t.txt.length ≤ s.length ∧ t.txt ≠ [] ∧ (s.drop t.at_).take t.txt.length = t.txt ∧ Blank ((s.drop p).take (t.at_ - p)) ∧ 1 ≤ t.kind ∧ t.kind ≤ 3 ∧ (t.kind ≠ 2 → t.val = 0) ∧ Places s (t.at_ + t.txt.length) r
theorem places_of {s l : Bs} {i : Nat} {ts : List Tok} (h : Lexes l i ts) : ∀ p, l = s.drop i → p ≤ i → i ≤ s.length → Blank ((s.drop p).take (i - p)) → Places s p ts := by
  induction h with
  | done i =>
    intro p hl hp hi hb
    have : i = s.length := by
      have := congrArg List.length hl
      rw [List.length_drop] at this; simp at this; omega
    subst this
    refine ⟨hp, ?_⟩
    rw [List.take_of_length_le (by rw [List.length_drop]; omega)] at hb
    exact hb
  | @tok l i ts hw hv h ih =>
    intro p hl hp hi hb
    have hlen := @take_len l
    have hwl := word_le l
    have hll : l.length = s.length - i := by rw [hl, List.length_drop]
    have hn := next_le l
    have hk := word_kind l
    have e : (tokD l i).txt.length = (word l).2 := hlen
    refine ⟨hp, ?_, take_ne hw, ?_, hb, Nat.pos_of_ne_zero hw, hk, ?_, ?_⟩
    · show i + _ ≤ _; rw [e]; omega
    · show (s.drop i).take _ = _; rw [e, ← hl]; rfl
    · intro h2; exact if_neg h2
    · rw [e]
      apply ih
      · rw [hl, List.drop_drop]
      · show i + _ ≤ _; unfold next; omega
      · omega
      · show Blank ((s.drop (i + (word l).2)).take (i + next l - (i + (word l).2)))
        rw [show i + next l - (i + (word l).2) = blk false (l.drop (word l).2) by unfold next; omega, ← List.drop_drop, ← hl]
        exact blank_front _
end
section
open Go.Proofs.Ytakfabaocgbbmaa.Dig
set_option linter.unusedVariables false
set_option linter.unusedSimpArgs false

/-- the bytes of a text -/
def L (s : ByteArray) : Bs := s.data.toList
theorem L_len (s : ByteArray) : (L s).length = s.size := Array.length_toList
theorem L_drop (s : ByteArray) (i : Nat) (h : i < s.size) : (L s).drop i = s[i] :: (L s).drop (i + 1) := by
  have hl : i < (L s).length := by rw [L_len]; exact h
  rw [List.drop_eq_getElem_cons hl]; rfl
theorem L_end (s : ByteArray) (i : Nat) (h : s.size ≤ i) : (L s).drop i = [] := List.drop_eq_nil_of_le (by rw [L_len]; exact h)
/-- where white space ends; within a comment; where a run of bytes ends -/
def endF (s : ByteArray) (k : Nat) : Nat := k + blk false ((L s).drop k)
def endT (s : ByteArray) (k : Nat) : Nat := k + blk true ((L s).drop k)
def runE (p : UInt8 → Bool) (s : ByteArray) (k : Nat) : Nat := k + run p ((L s).drop k)
theorem endF_end {s : ByteArray} {k : Nat} (h : s.size ≤ k) : endF s k = k := by rw [endF, L_end s k h]; rfl
theorem endT_end {s : ByteArray} {k : Nat} (h : s.size ≤ k) : endT s k = endF s k := by rw [endF, endT, L_end s k h]; rfl
theorem endF_cmt {s : ByteArray} {k : Nat} (h : k < s.size) (h2 : s[k].toNat = 37) : endF s k = endT s k := by
  rw [endF, endT, L_drop s k h]; simp only [blk, h2, if_true, Nat.reduceEqDiff, if_false]
theorem endT_step {s : ByteArray} {k : Nat} (h : k < s.size) (h2 : s[k].toNat ≠ 10) : endT s k = endT s (k + 1) := by
  rw [endT, endT, L_drop s k h]; simp only [blk, if_neg h2]; omega
theorem endT_nl {s : ByteArray} {k : Nat} (h : k < s.size) (h2 : s[k].toNat = 10) : endT s k = endF s k := by
  rw [endF, endT, L_drop s k h]; simp only [blk, if_pos h2, if_neg (show ¬ s[k].toNat = 37 by omega), whiteB]; simp [h2]
theorem endF_white {s : ByteArray} {k : Nat} (h : k < s.size) (h2 : s[k].toNat = 32 ∨ s[k].toNat = 9 ∨ s[k].toNat = 10 ∨ s[k].toNat = 13) : endF s k = endF s (k + 1) := by
  rw [endF, endF, L_drop s k h]; simp only [blk, if_neg (show ¬ s[k].toNat = 37 by omega), whiteB, decide_eq_true h2, if_true]; omega
theorem endF_stop {s : ByteArray} {k : Nat} (h : k < s.size) (h1 : s[k].toNat ≠ 37) (h2 : ¬ (s[k].toNat = 32 ∨ s[k].toNat = 9 ∨ s[k].toNat = 10 ∨ s[k].toNat = 13)) : endF s k = k := by
  rw [endF, L_drop s k h]; simp only [blk, if_neg h1, whiteB, decide_eq_false h2, Bool.false_eq_true, if_false]; omega
theorem endF_le {s : ByteArray} {k : Nat} (h : k ≤ s.size) : k ≤ endF s k ∧ endF s k ≤ s.size := by
  have := blk_le false ((L s).drop k)
  rw [List.length_drop, L_len] at this
  unfold endF; omega
theorem runE_end {p : UInt8 → Bool} {s : ByteArray} {k : Nat} (h : s.size ≤ k) : runE p s k = k := by rw [runE, L_end s k h]; rfl
theorem runE_step {p : UInt8 → Bool} {s : ByteArray} {k : Nat} (h : k < s.size) (h2 : p s[k] = true) : runE p s k = runE p s (k + 1) := by
  rw [runE, runE, L_drop s k h]; simp only [run, if_pos h2]; omega
theorem runE_stop {p : UInt8 → Bool} {s : ByteArray} {k : Nat} (h : k < s.size) (h2 : p s[k] = false) : runE p s k = k := by
  rw [runE, L_drop s k h]; simp only [run, h2, Bool.false_eq_true, if_false]; omega
theorem runE_le {p : UInt8 → Bool} {s : ByteArray} {k : Nat} (h : k ≤ s.size) : k ≤ runE p s k ∧ runE p s k ≤ s.size := by
  have := run_le p ((L s).drop k)
  rw [List.length_drop, L_len] at this
  unfold runE; omega
/-- the kind of the token at a place, and where it ends -/
def wordK (s : ByteArray) (k : Nat) : Nat := (word ((L s).drop k)).1
def wordN (s : ByteArray) (k : Nat) : Nat := (word ((L s).drop k)).2
theorem word_letter {s : ByteArray} {k : Nat} (h : k < s.size) (h1 : letterB s[k] = true) : word ((L s).drop k) = (1, runE wordB s (k + 1) - k) := by
  rw [L_drop s k h]; simp only [word, if_pos h1, runE]; congr 1; omega
theorem word_digit {s : ByteArray} {k : Nat} (h : k < s.size) (h1 : letterB s[k] = false) (h2 : digB s[k] = true) : word ((L s).drop k) = (2, runE digB s (k + 1) - k) := by
  rw [L_drop s k h]; simp only [word, h1, Bool.false_eq_true, if_false, if_pos h2, runE]; congr 1; omega
theorem word_minus {s : ByteArray} {k : Nat} (h : k < s.size) (h1 : s[k].toNat = 45) (h2 : k + 1 < runE digB s (k + 1)) : word ((L s).drop k) = (2, runE digB s (k + 1) - k) := by
  have a1 : ¬ letterB s[k] = true := by simp only [letterB, Bool.or_eq_true, decide_eq_true_eq]; omega
  have a2 : ¬ digB s[k] = true := by simp only [digB, decide_eq_true_eq]; omega
  rw [L_drop s k h]; unfold runE at h2 ⊢
  simp only [word, if_neg a1, if_neg a2]; rw [if_pos ⟨h1, by omega⟩]; congr 1; omega
theorem word_lone {s : ByteArray} {k : Nat} (h : k < s.size) (h1 : s[k].toNat = 45) (h2 : runE digB s (k + 1) = k + 1) : word ((L s).drop k) = (0, 0) := by
  have a1 : ¬ letterB s[k] = true := by simp only [letterB, Bool.or_eq_true, decide_eq_true_eq]; omega
  have a2 : ¬ digB s[k] = true := by simp only [digB, decide_eq_true_eq]; omega
  have a3 : ¬ signB s[k] = true := by simp only [signB, decide_eq_true_eq]; omega
  rw [L_drop s k h]; unfold runE at h2
  simp only [word, if_neg a1, if_neg a2, if_neg a3]; rw [if_neg (by omega), if_neg (by omega)]
theorem head_at {s : ByteArray} {k : Nat} {c : UInt8} (h : k < s.size) : ((L s).drop k).head? = some c ↔ s[k] = c := by
  rw [L_drop s k h]; simp
theorem word_two {s : ByteArray} {k : Nat} (h : k + 1 < s.size) (h1 : s[k].toNat = 58 ∨ s[k].toNat = 46) (h2 : s[k + 1].toNat = s[k].toNat) : word ((L s).drop k) = (3, 2) := by
  have a1 : ¬ letterB s[k] = true := by simp only [letterB, Bool.or_eq_true, decide_eq_true_eq]; omega
  have a2 : ¬ digB s[k] = true := by simp only [digB, decide_eq_true_eq]; omega
  have a3 : ((L s).drop (k + 1)).head? = some s[k] := (head_at h).2 (UInt8.toNat_inj.1 h2)
  rw [L_drop s k (by omega)]
  simp only [word, if_neg a1, if_neg a2]; rw [if_neg (by omega), if_pos ⟨h1, a3⟩]
theorem word_one {s : ByteArray} {k : Nat} (h : k < s.size) (h1 : signB s[k] = true) (h2 : s[k].toNat = 58 → ∀ h : k + 1 < s.size, s[k + 1].toNat ≠ 58) : word ((L s).drop k) = (3, 1) := by
  have h1' := h1
  simp only [signB, decide_eq_true_eq] at h1'
  have a1 : ¬ letterB s[k] = true := by simp only [letterB, Bool.or_eq_true, decide_eq_true_eq]; omega
  have a2 : ¬ digB s[k] = true := by simp only [digB, decide_eq_true_eq]; omega
  rw [L_drop s k h]
  simp only [word, if_neg a1, if_neg a2]; rw [if_neg (by omega), if_neg, if_pos h1]
  rintro ⟨h3, h4⟩
  by_cases h5 : k + 1 < s.size
  · have h6 := (head_at h5).1 h4
    have h7 : s[k + 1].toNat = s[k].toNat := by rw [h6]
    exact h2 (by omega) h5 (by omega)
  · rw [L_end s _ (by omega)] at h4; simp at h4
theorem word_none {s : ByteArray} {k : Nat} (h : k < s.size) (a1 : letterB s[k] = false) (a2 : digB s[k] = false) (a3 : signB s[k] = false) (h1 : s[k].toNat ≠ 45) (h2 : s[k].toNat = 46 → ∀ h : k + 1 < s.size, s[k + 1].toNat ≠ 46) : word ((L s).drop k) = (0, 0) := by
  have a3' := a3
  simp only [signB, decide_eq_false_iff_not] at a3'
  rw [L_drop s k h]
  simp only [word, a1, a2, a3, Bool.false_eq_true, if_false]
  rw [if_neg (by omega), if_neg]
  rintro ⟨h3, h4⟩
  by_cases h5 : k + 1 < s.size
  · have h6 := (head_at h5).1 h4
    have h7 : s[k + 1].toNat = s[k].toNat := by rw [h6]
    exact h2 (by omega) h5 (by omega)
  · rw [L_end s _ (by omega)] at h4; simp at h4
/-- a part of a text -/
theorem L_extract (s : ByteArray) (i j : Nat) (h : i ≤ j) : L (s.extract i j) = ((L s).drop i).take (j - i) := by
  unfold L
  rw [ByteArray.data_extract, Array.toList_extract]
theorem L_append (s t : ByteArray) : L (s ++ t) = L s ++ L t := by
  unfold L; rw [ByteArray.data_append, Array.toList_append]
theorem L_inj {s t : ByteArray} (h : L s = L t) : s = t := by
  cases s with | mk a => cases t with | mk b => congr 1; exact Array.toList_inj.1 h
theorem L_mk (l : Bs) : L ⟨l.toArray⟩ = l := rfl
end
end Go.Proofs.Ytakfabaocgbbmaa.Lx
