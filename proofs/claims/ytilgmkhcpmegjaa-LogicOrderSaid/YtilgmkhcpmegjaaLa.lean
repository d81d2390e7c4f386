/- Layer 12 (linear), pure: what a sum leaves of domains. -/
import Derived.Deep.OwnRows
import Derived.Test.YtilgmkhcpmegjaaUb
namespace Go.Proofs.Ytilgmkhcpmegjaa.Ln
set_option linter.unusedVariables false
open Go.Proofs.Ytilgmkhcpmegjaa.Zs Go.Proofs.Ytilgmkhcpmegjaa.Sn
abbrev Ds := List (List Rn)
abbrev far : Int := 1099511627776
structure Tm where
  n : Int
  lo : Int
  hi : Int
  x : Int
def lo (d : List Rn) : Int := (d.getD 0 (0, 0)).1
def hi (d : List Rn) : Int := (d.getD (d.length - 1) (0, 0)).2
def tm (ds : Ds) (p : Int × Int) : Tm := ⟨p.1, lo (domAt ds p.2), hi (domAt ds p.2), p.2⟩
def tms (a x : List Int) (ds : Ds) : List Tm := (a.zip x).map (tm ds)
def mnT (t : Tm) : Int := min (t.n * t.lo) (t.n * t.hi)
def lsum : List Tm → Int
  | [] => 0
  | t :: ts => mnT t + lsum ts
def cutT (r : Int) (t : Tm) (D : Ds) : Ds :=
  if 0 < t.n then D.set t.x.toNat (cut (domAt D t.x) t.lo (t.lo + r / t.n))
  else if t.n < 0 then D.set t.x.toNat (cut (domAt D t.x) (t.hi - r / (-t.n)) t.hi) else D
def keepT (r : Int) : List Tm → Ds → Option Ds
  | [], D => some D
  | t :: ts, D => if domAt (cutT r t D) t.x = [] then none else keepT r ts (cutT r t D)
/-- the landed one: a sum is kept at most c -/
def amL (c : Int) (ts : List Tm) (D : Ds) : Option Ds := if c - lsum ts < 0 then none else keepT (c - lsum ts) ts D
def opn (t : Tm) : Bool := t.n != 0 && t.lo != t.hi
def fsum : List Tm → Int
  | [] => 0
  | t :: ts => (if opn t then 0 else t.n * t.lo) + fsum ts
def neW (r : Int) (o : List Tm) (D : Ds) : Option Ds :=
  match o with
  | [] => if r = 0 then none else some D
  | [t] => if r.tmod t.n = 0 then some (D.set t.x.toNat (without (domAt D t.x) (r.tdiv t.n))) else some D
  | _ => some D
def neL (c : Int) (ts : List Tm) (D : Ds) : Option Ds := neW (c - fsum ts) (ts.filter opn) D
def neg (a : List Int) : List Int := a.map fun n => -n
def narL (k : Int) (c : Int) (a x : List Int) (D : Ds) : Option Ds :=
  if k = 1 then (amL c (tms a x D) D).bind fun E => amL (-c) (tms (neg a) x E) E
  else if k = 2 then amL c (tms a x D) D else neL c (tms a x D) D
/-- domains as they may be: sets that have values -/
def Gd (D : Ds) : Prop := ∀ d ∈ D, right d = true ∧ d ≠ []
theorem domAt_lt {D : Ds} {x : Int} (h : x.toNat < D.length) : domAt D x = D[x.toNat] := by simp [domAt, h]
theorem Gd.at_ {D : Ds} (h : Gd D) {x : Int} (hx : x.toNat < D.length) : right (domAt D x) = true ∧ domAt D x ≠ [] := by
  rw [domAt_lt hx]; exact h _ (List.getElem_mem hx)
theorem domAt_set {D : Ds} {x y : Int} {d : List Rn} (hx : x.toNat < D.length) : domAt (D.set x.toNat d) y = if y.toNat = x.toNat then d else domAt D y := by
  unfold domAt
  by_cases e : y.toNat = x.toNat
  · rw [if_pos e, e]; simp [List.getD, hx]
  · rw [if_neg e]; simp only [List.getD, List.getElem?_set_ne (fun h => e h.symm)]
/-- the ends of a set's values -/
theorem mem_lo {d : List Rn} {b : Int} (h : okF b d = true) {v : Int} (hv : mem d v) : lo d ≤ v := by
  cases d with
  | nil => exact hv.elim
  | cons r l =>
    rw [okF_cons] at h
    rcases hv with hv | hv
    · exact hv.1
    · have := mem_ge h.2.2.2 hv; show r.1 ≤ v; omega
theorem hi_cons (r s : Rn) (l : List Rn) : hi (r :: s :: l) = hi (s :: l) := by simp [hi, List.getD]
theorem hi_ge {b : Int} : ∀ (l : List Rn) (r : Rn), okF b (r :: l) = true → r.2 ≤ hi (r :: l) := by
  intro l
  induction l generalizing b with
  | nil => intro r h; simp [hi]
  | cons s l ih =>
    intro r h
    rw [okF_cons] at h
    rw [hi_cons]
    have h2 := h.2.2.2
    have := ih s h2
    rw [okF_cons] at h2
    omega
theorem mem_hi {b : Int} : ∀ (d : List Rn), okF b d = true → ∀ {v : Int}, mem d v → v ≤ hi d := by
  intro d
  induction d generalizing b with
  | nil => intro h v hv; exact hv.elim
  | cons r l ih =>
    intro h v hv
    have h0 := hi_ge l r h
    rw [okF_cons] at h
    rcases hv with hv | hv
    · omega
    · cases l with
      | nil => exact hv.elim
      | cons s l => rw [hi_cons]; exact ih h.2.2.2 hv
theorem lo_mem {d : List Rn} {b : Int} (h : okF b d = true) (hd : d ≠ []) : mem d (lo d) := by
  cases d with
  | nil => exact absurd rfl hd
  | cons r l => rw [okF_cons] at h; exact .inl ⟨Int.le_refl _, h.2.1⟩
theorem hi_mem {b : Int} : ∀ (d : List Rn), okF b d = true → d ≠ [] → mem d (hi d) := by
  intro d
  induction d generalizing b with
  | nil => intro h hd; exact absurd rfl hd
  | cons r l ih =>
    intro h _
    rw [okF_cons] at h
    cases l with
    | nil => exact .inl ⟨h.2.1, Int.le_refl _⟩
    | cons s l => rw [hi_cons]; exact .inr (ih h.2.2.2 (by simp))
theorem mem_ex {d : List Rn} {b : Int} (h : okF b d = true) (hd : d ≠ []) : ∃ v, mem d v := ⟨_, lo_mem h hd⟩
theorem not_mem_nil {d : List Rn} {b : Int} (h : okF b d = true) (hn : ∀ v, ¬ mem d v) : d = [] := Classical.byContradiction fun hd => (mem_ex h hd).elim fun v hv => hn v hv
theorem lo_hi {d : List Rn} {b : Int} (h : okF b d = true) (hd : d ≠ []) : lo d ≤ hi d := mem_lo h (hi_mem d h hd)
/-- within the ends that a term knows -/
def In (t : Tm) (D : Ds) : Prop := ∀ v, mem (domAt D t.x) v → t.lo ≤ v ∧ v ≤ t.hi
/-- as good as Gd, but for sets without values -/
def Rd (D : Ds) : Prop := ∀ d ∈ D, right d = true
theorem Rd.at_ {D : Ds} (h : Rd D) {x : Int} (hx : x.toNat < D.length) : right (domAt D x) = true := by
  rw [domAt_lt hx]; exact h _ (List.getElem_mem hx)
theorem Rd.set {D : Ds} (h : Rd D) {i : Nat} {d : List Rn} (hd : right d = true) : Rd (D.set i d) := fun e he => by
  rcases List.mem_or_eq_of_mem_set he with h1 | rfl
  · exact h e h1
  · exact hd
theorem Gd.rd {D : Ds} (h : Gd D) : Rd D := fun d hd => (h d hd).1
theorem cut_same {d : List Rn} (h : right d = true) {l l2 u u2 : Int} (k : ∀ v, mem d v → ((l ≤ v ∧ v ≤ u) ↔ (l2 ≤ v ∧ v ≤ u2))) : cut d l u = cut d l2 u2 :=
  uniq (cut_ok d l u h).1 (cut_ok d l2 u2 h).1 fun v => by rw [(cut_ok d l u h).2, (cut_ok d l2 u2 h).2]; exact ⟨fun ⟨a, b⟩ => ⟨a, (k v a).1 b⟩, fun ⟨a, b⟩ => ⟨a, (k v a).2 b⟩⟩
/-- D has no values that E has not -/
def Sub (D E : Ds) : Prop := D.length = E.length ∧ ∀ x : Int, 0 ≤ x → ∀ v, mem (domAt D x) v → mem (domAt E x) v
theorem Sub.refl (D : Ds) : Sub D D := ⟨rfl, fun _ _ _ h => h⟩
theorem Sub.trans {A B C : Ds} (h : Sub A B) (k : Sub B C) : Sub A C := ⟨h.1.trans k.1, fun x hx v hv => k.2 x hx v (h.2 x hx v hv)⟩
theorem In.sub {t : Tm} {D E : Ds} (h : In t E) (k : Sub D E) (hx : 0 ≤ t.x) : In t D := fun v hv => h v (k.2 _ hx v hv)
section
open Go.RowKit
set_option linter.unusedVariables false
set_option linter.unusedSimpArgs false
open Go.Proofs.Ytilgmkhcpmegjaa.Dig Go.Proofs.Ytilgmkhcpmegjaa.Lx Go.Proofs.Ytilgmkhcpmegjaa.Tk Go.Proofs.Ytilgmkhcpmegjaa.Ti Go.Proofs.Ytilgmkhcpmegjaa.Zs Go.Proofs.Ytilgmkhcpmegjaa.Tr Go.Proofs.Ytilgmkhcpmegjaa.Sn
/-- a term, in four cells -/
def tc (t : Tm) : List Value := [.int .i64 t.n, .int .i64 t.lo, .int .i64 t.hi, .int .i64 t.x]
def QT (w : World) (t : Tm) (u : List Value) : Prop := u = tc t
def tcells (l : List Tm) : List Value := l.flatMap tc
theorem tcells_snoc (l : List Tm) (t : Tm) : tcells (l ++ [t]) = tcells l ++ tc t := by simp [tcells]
theorem tcells_rws (w : World) (l : List Tm) : Rws 4 (QT w) l (tcells l) := by
  suffices h : ∀ (l a : List Tm), Rws 4 (QT w) a (tcells a) → Rws 4 (QT w) (a ++ l) (tcells (a ++ l)) by simpa using h l [] .nil
  intro l
  induction l with
  | nil => intro a h; simpa using h
  | cons t l ih =>
    intro a h
    have := ih (a ++ [t]) (by rw [tcells_snoc]; exact h.snoc rfl rfl)
    simpa using this
/-- a row of terms of the call's own (from w0 on) -/
def Rt (w0 w : World) (v : Value) (xs : List Tm) : Prop := w.ownsRow w0.heap.size 166 4 v xs.length (tcells xs) ∧ Since w0 w
theorem Rt.nil {w0 w : World} (h : Since w0 w) : Rt w0 w (.slice none 0 0) [] := ⟨World.ownsRow_nil _ _ _ _, h⟩
theorem Rt.since {w0 w w' : World} {v : Value} {xs : List Tm} (h : Rt w0 w v xs) (k : Since w w') : Rt w0 w' v xs := ⟨owns_since h.1 k, h.2.trans k⟩
theorem Rt.sl {w0 w : World} {v : Value} {xs : List Tm} (h : Rt w0 w v xs) : Sl 4 QT w v xs := Sl.own h.1 (tcells_rws w xs) rfl
theorem Rt.form {w0 w : World} {v : Value} {xs : List Tm} (h : Rt w0 w v xs) : ∃ A c, v = .slice A xs.length c := h.sl.form
/-- terms that a call has laid: a row that reads as them, in a block that is not older than w0 -/
def NewT (w0 w : World) (v : Value) (xs : List Tm) : Prop := Sl 4 QT w v xs ∧ ∀ b, v.ownBlock = some b → w0.heap.size ≤ b
theorem Rt.new {w0 w : World} {v : Value} {xs : List Tm} (h : Rt w0 w v xs) : NewT w0 w v xs := ⟨h.sl, fun b hb => (h.1.lt b hb).1⟩
/-- all blocks but g -/
abbrev but (g : Nat) : Nat → Bool := fun k => decide (k = g)
/-- the domains D in the block g -/
structure DAt (g n : Nat) (w0 w : World) (D : Ds) : Prop where
  len : D.length = n
  row : ∃ cs : Array Value, Bx w g cs 43 ∧ cs.size = n ∧ (∀ (i : Nat) (d : List Rn), D[i]? = some d → ∃ u, cs[i]? = some u ∧ Sl 2 QR (veil (but g) w) u d ∧ ∀ b, u.ownBlock = some b → w0.heap.size ≤ b ∧ b < w.heap.size ∧ ∀ j, w.frozen? ⟨b, j, none⟩ = false) ∧ ∀ (i j : Nat) (u u' : Value), cs[i]? = some u → cs[j]? = some u' → i ≠ j → ∀ b, u.ownBlock = some b → u'.ownBlock ≠ some b
theorem DAt.since {g n : Nat} {w0 w w' : World} {D : Ds} (h : DAt g n w0 w D) (k : Since w w') : DAt g n w0 w' D := by
  obtain ⟨hl, cs, h1, h2, h3, h9⟩ := h
  refine ⟨hl, cs, h1.since k, h2, fun i d hd => ?_, h9⟩
  obtain ⟨u, h4, h5, h6⟩ := h3 i d hd
  exact ⟨u, h4, h5.since stR (Since.veil k _), fun b hb => ⟨(h6 b hb).1, Nat.lt_of_lt_of_le (h6 b hb).2.1 k.size, fun j => (World.frozen?_of_block (w := w) (a := ⟨b, j, none⟩) (k.block b (h6 b hb).2.1)).trans ((h6 b hb).2.2 j)⟩⟩
theorem DAt.get {g n : Nat} {w0 w : World} {D : Ds} (h : DAt g n w0 w D) {i : Nat} (hi : i < D.length) : ∃ A c, w.cell? ⟨g, i, none⟩ = some (.slice A D[i].length c) ∧ Sl 2 QR w (.slice A D[i].length c) D[i] := by
  obtain ⟨hl, cs, h1, h2, h3, h9⟩ := h
  obtain ⟨u, h4, h5, h6⟩ := h3 i _ (List.getElem?_eq_getElem hi)
  have h7 := sl_unveil h5
  obtain ⟨A, c, rfl⟩ := h7.form
  refine ⟨A, c, ?_, h7⟩
  have hi2 : i < cs.size := by omega
  have := h1.cell i
  rw [Array.getElem?_eq_getElem hi2] at h4
  injection h4 with h4
  simpa [hi2, h4] using this
theorem DAt.no {g n : Nat} {w0 w : World} {D : Ds} (h : DAt g n w0 w D) {i : Nat} (hi : i < n) : w.frozen? ⟨g, i, none⟩ = false := by
  obtain ⟨hl, cs, h1, h2, h3, h9⟩ := h
  exact h1.no i
/-- ranges that a call has laid, from w1 on -/
def NewR (w1 w : World) (v : Value) (d : List Rn) : Prop := Sl 2 QR w v d ∧ ∀ b, v.ownBlock = some b → w1.heap.size ≤ b ∧ b < w.heap.size ∧ ∀ j, w.frozen? ⟨b, j, none⟩ = false
theorem NewR.since {w1 w w' : World} {v : Value} {d : List Rn} (h : NewR w1 w v d) (k : Since w w') : NewR w1 w' v d :=
  ⟨h.1.since stR k, fun b hb => ⟨(h.2 b hb).1, Nat.lt_of_lt_of_le (h.2 b hb).2.1 k.size, fun j => (World.frozen?_of_block (w := w) (a := ⟨b, j, none⟩) (k.block b (h.2 b hb).2.1)).trans ((h.2 b hb).2.2 j)⟩⟩
theorem newR_of {ys : List Rn} {w : World} {e : Ending} {w' : World} (h : RetF ys w e w') : ∃ A m c, e = .returned (.slice A m c) ∧ ys.length = m ∧ NewR w w' (.slice A m c) ys ∧ Since w w' := by
  obtain ⟨A, m, c, h1, h2, h3, h4, h5⟩ := h
  exact ⟨A, m, c, h1, h2, ⟨h3, h5⟩, h4⟩
/-- a domain is put into its place -/
theorem DAt.put2 {g n : Nat} {w0 w1 w : World} {D : Ds} (h0 : DAt g n w0 w1 D) (kk : Since w1 w) {i : Nat} (hi : i < n) {u : Value} {d : List Rn} (hN : NewR w1 w u d) (hs : w0.heap.size ≤ w1.heap.size) (hgg : g < w1.heap.size) :
    DAt g n w0 (w.setCell ⟨g, i, none⟩ u) (D.set i d) := by
  have hu := hN.1
  have hb : ∀ b, u.ownBlock = some b → w0.heap.size ≤ b ∧ b < w.heap.size ∧ ∀ j, w.frozen? ⟨b, j, none⟩ = false := fun b hb => ⟨Nat.le_trans hs (hN.2 b hb).1, (hN.2 b hb).2⟩
  have hg : ∀ b, u.ownBlock = some b → b ≠ g := fun b hb => by have := (hN.2 b hb).1; omega
  have h := h0.since kk
  obtain ⟨-, cs0, a1, a2, a3, a9⟩ := h0
  obtain ⟨hl, cs, h1, h2, h3, h9⟩ := h
  have ecs : cs0 = cs := by
    have e1 := a1.since kk
    unfold Bx at e1 h1
    rw [e1] at h1
    injection h1 with h1
    injection h1 with h1
  subst ecs
  have hold : ∀ (k : Nat) (u' : Value), cs0[k]? = some u' → ∀ b, u'.ownBlock = some b → b < w1.heap.size := fun k u' hk b hb' => by
    have hkn : k < n := by rw [← a2]; exact (Array.getElem?_eq_some_iff.1 hk).1
    have hkD : k < D.length := by rw [hl]; exact hkn
    obtain ⟨u2, c1, c2, c3⟩ := a3 k _ (List.getElem?_eq_getElem hkD)
    rw [hk] at c1
    injection c1 with c1
    subst c1
    exact (c3 b hb').2.1
  have hT : Turn (but g) w (w.setCell ⟨g, i, none⟩ u) := (Turn.refl _ w).set (fun _ => by simp [but]) u
  have hS : Since (veil (but g) w) (veil (but g) (w.setCell ⟨g, i, none⟩ u)) := hT.veil fun _ _ => rfl
  have hsz : (w.setCell ⟨g, i, none⟩ u).heap.size = w.heap.size := by simp [World.setCell]
  have hfz : ∀ b j, b ≠ g → (w.setCell ⟨g, i, none⟩ u).frozen? ⟨b, j, none⟩ = w.frozen? ⟨b, j, none⟩ := fun b j hne => World.frozen?_of_block (w := w) (a := ⟨b, j, none⟩) (Below.heap_setCell w ⟨g, i, none⟩ u b hne)
  have hfg : ∀ j, w.frozen? ⟨g, j, none⟩ = false ∧ (w.setCell ⟨g, i, none⟩ u).frozen? ⟨g, j, none⟩ = false := fun j => ⟨h1.no j, (bxset h1 i u rfl).no j⟩
  have hfa : ∀ b, (∀ j, w.frozen? ⟨b, j, none⟩ = false) → ∀ j, (w.setCell ⟨g, i, none⟩ u).frozen? ⟨b, j, none⟩ = false := fun b hf j => by
    by_cases e : b = g
    · subst e; exact (hfg j).2
    · rw [hfz b j e]; exact hf j
  refine ⟨by rw [List.length_set]; exact hl, _, bxset h1 i u rfl, by simpa using h2, fun k d' hd => ?_, fun k l v v' hk hlv hne b hb1 hb2 => ?_⟩
  case refine_2 =>
    by_cases e1 : i = k
    · subst e1
      rw [Array.getElem?_setIfInBounds_self_of_lt (by omega)] at hk
      rw [Array.getElem?_setIfInBounds_ne hne] at hlv
      injection hk with hk
      subst hk
      have := (hN.2 b hb1).1
      have := hold l v' hlv b hb2
      omega
    · rw [Array.getElem?_setIfInBounds_ne e1] at hk
      by_cases e2 : i = l
      · subst e2
        rw [Array.getElem?_setIfInBounds_self_of_lt (by omega)] at hlv
        injection hlv with hlv
        subst hlv
        have := (hN.2 b hb2).1
        have := hold k v hk b hb1
        omega
      · rw [Array.getElem?_setIfInBounds_ne e2] at hlv
        exact h9 k l v v' hk hlv hne b hb1 hb2
  by_cases e : i = k
  · subst e
    rw [List.getElem?_set_self (by omega)] at hd
    injection hd with hd
    subst hd
    refine ⟨u, by simp [h2, hi], ?_, fun b k => ⟨(hb b k).1, by rw [hsz]; exact (hb b k).2.1, hfa b (hb b k).2.2⟩⟩
    exact (sl_veil (G := but g) hu fun b k _ => by simpa [but] using hg b k).since stR hS
  · rw [List.getElem?_set_ne e] at hd
    obtain ⟨u', h4, h5, h6⟩ := h3 k d' hd
    exact ⟨u', by rw [Array.getElem?_setIfInBounds_ne e]; exact h4, h5.since stR hS, fun b k => ⟨(h6 b k).1, by rw [hsz]; exact (h6 b k).2.1, hfa b (h6 b k).2.2⟩⟩
/-- the row of the domains, as a slice -/
theorem DAt.sl {g n : Nat} {w0 w : World} {D : Ds} (h : DAt g n w0 w D) : Sl 1 QD w (.slice (some ⟨g, 0, none⟩) n n) D := by
  have hl := h.len
  subst hl
  refine ⟨some ⟨g, 0, none⟩, D.length, rfl, Nat.le_refl _, fun _ => ⟨g, 0, rfl, fun i d hd => ?_⟩⟩
  obtain ⟨hi, rfl⟩ := List.getElem?_eq_some_iff.1 hd
  obtain ⟨A, c, h1, h2⟩ := h.get hi
  refine ⟨[.slice A D[i].length c], ⟨_, rfl, h2⟩, rfl, fun j y hy => ?_⟩
  match j, hy with
  | 0, hy => cases hy; simpa using h1
  | j + 1, hy => simp at hy
/-- the block g alone has turned since w, and what is new -/
abbrev Og (g : Nat) (w w' : World) : Prop := Turn (but g) w w'
theorem Og.put {g : Nat} {w w' : World} (h : Og g w w') (i : Nat) (u : Value) : Og g w (w'.setCell ⟨g, i, none⟩ u) := Turn.set h (fun _ => by simp [but]) u
theorem Og.since {g : Nat} {a b c : World} (h : Og g a b) (k : Since b c) : Og g a c := Turn.since h k
theorem Og.ve {g : Nat} {w w' : World} (h : Og g w w') : Since (veil (but g) w) (veil (but g) w') := h.veil fun _ _ => rfl
/-- what is not in g reads as it did -/
theorem Og.sl {α : Type} {size : Nat} {Q : World → α → List Value → Prop} (hQ : ∀ w w' x u, Q w x u → Q w' x u) {g : Nat} {w w' : World} (h : Og g w w') {v : Value} {xs : List α} (hs : Sl size Q w v xs) (hg : ∀ b, v.ownBlock = some b → b ≠ g) : Sl size Q w' v xs := by
  have h1 : Sl size Q (veil (but g) w) v xs := Sl.veil (G := but g) (Q := Q) (Q' := Q) (fun x u h => hQ _ _ x u h) hs fun b k _ => by simpa [but] using hg b k
  have h2 : Sl size Q (veil (but g) w') v xs := h1.since (fun w1 w2 x u h _ => hQ w1 w2 x u h) h.ve
  exact Sl.unveil (Q := Q) (Q' := Q) (fun x u h => hQ _ _ x u h) h2
/-- since w0, where g did not lie yet -/
theorem Og.all {g : Nat} {w0 w w' : World} (h : Since w0 w) (k : Og g w w') (hg : w0.heap.size ≤ g) : Since w0 w' :=
  ⟨k.os.trans h.os, k.tape.trans h.tape, k.output.trans h.output, Nat.le_trans h.size k.size, fun i hi => (k.block i (Nat.lt_of_lt_of_le hi h.size) (by simp [but]; omega)).trans (h.block i hi)⟩
theorem Og.bx {g : Nat} {w w' : World} (h : Og g w w') {b : Nat} {cs : Array Value} {t : TypeId} (hb : Bx w b cs t) (hne : b ≠ g) : Bx w' b cs t := by
  have hl : b < w.heap.size := by
    apply Decidable.byContradiction; intro hn
    have h1 := hb
    unfold Bx at h1
    rw [Array.getElem?_eq_none (by omega)] at h1; cases h1
  unfold Bx at *
  rw [h.block b hl (by simp [but, hne])]; exact hb
theorem Og.refl (g : Nat) (w : World) : Og g w w := Turn.refl _ w
theorem Og.trans {g : Nat} {a b c : World} (h : Og g a b) (k : Og g b c) : Og g a c := Turn.trans h k
end
section
open Go.RowKit
set_option linter.unusedVariables false
set_option linter.unusedSimpArgs false
open Go.Proofs.Ytilgmkhcpmegjaa.Dig Go.Proofs.Ytilgmkhcpmegjaa.Lx Go.Proofs.Ytilgmkhcpmegjaa.Tk Go.Proofs.Ytilgmkhcpmegjaa.Ti Go.Proofs.Ytilgmkhcpmegjaa.Zs Go.Proofs.Ytilgmkhcpmegjaa.Tr Go.Proofs.Ytilgmkhcpmegjaa.Sn
/-- what fits -/
theorem mod_parts {ds : Ds} {c : Cn} (h : modOk ⟨ds, [c], 0, 0⟩ = true) : Gd ds ∧ ds.length ≤ 64 ∧ conOk ds c = true := by
  simp only [modOk, Bool.and_eq_true, decide_eq_true_eq, List.all_cons, List.all_nil, Bool.and_true] at h
  obtain ⟨⟨⟨⟨h1, h2⟩, h3⟩, h4⟩, h5⟩ := h
  refine ⟨fun d hd => ?_, h1, h4⟩
  have := List.all_eq_true.1 h3 d hd
  simp only [domOk, Bool.and_eq_true, decide_eq_true_eq] at this
  exact ⟨this.1, fun e => by rw [e] at this; simp at this⟩
/-- what Narrow is to answer: domains or none, and a number -/
def narO (c : Cn) (ds : Ds) : Option Ds × Int :=
  if modOk ⟨ds, [c], 0, 0⟩ = true then
    if 1 ≤ c.k ∧ c.k ≤ 3 then (narL c.k c.c c.a c.x ds, if (narL c.k c.c c.a c.x ds).isSome then 0 else 12) else (none, 10)
  else (none, 2)
end
section
set_option linter.unusedVariables false
set_option linter.unusedSimpArgs false
open Go.RowKit
open Go.Proofs.Ytilgmkhcpmegjaa.Dig Go.Proofs.Ytilgmkhcpmegjaa.Lx Go.Proofs.Ytilgmkhcpmegjaa.Tk Go.Proofs.Ytilgmkhcpmegjaa.Ti Go.Proofs.Ytilgmkhcpmegjaa.Zs Go.Proofs.Ytilgmkhcpmegjaa.Tr Go.Proofs.Ytilgmkhcpmegjaa.Sn
theorem isV_at {x : List Int} {n : Nat} (h : x.all (isV n) = true) {k : Nat} (hk : k < x.length) : ∃ j : Nat, x[k] = (j : Int) ∧ j < n := by
  have := List.all_eq_true.1 h _ (List.getElem_mem hk)
  simp only [isV, Bool.and_eq_true, decide_eq_true_eq] at this
  exact ⟨x[k].toNat, by omega, by omega⟩
theorem prod_le {d s : Int} (h : -1048576 ≤ d ∧ d ≤ 1048576) (k : -1048576 ≤ s ∧ s ≤ 1048576) : -1099511627776 ≤ d * s ∧ d * s ≤ 1099511627776 := by
  have h1 : d.natAbs * s.natAbs ≤ 1048576 * 1048576 := Nat.mul_le_mul (by omega) (by omega)
  have h2 : (d * s).natAbs = d.natAbs * s.natAbs := Int.natAbs_mul d s
  omega
end
end Go.Proofs.Ytilgmkhcpmegjaa.Ln
