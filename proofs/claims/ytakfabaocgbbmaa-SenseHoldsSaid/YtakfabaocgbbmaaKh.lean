/- Layer 11 (sense), pure: a list moved place by place. -/
import Derived.Test.YtakfabaocgbbmaaKf
import Derived.Test.YtakfabaocgbbmaaUy
import Derived.Test.YtakfabaocgbbmaaUwm
namespace Go.Proofs.Ytakfabaocgbbmaa.Sn
set_option linter.unusedVariables false
open Go.RowKit
open Go.Proofs.Ytakfabaocgbbmaa.Dig Go.Proofs.Ytakfabaocgbbmaa.Lx Go.Proofs.Ytakfabaocgbbmaa.Tk Go.Proofs.Ytakfabaocgbbmaa.Ti Go.Proofs.Ytakfabaocgbbmaa.Zs Go.Proofs.Ytakfabaocgbbmaa.Tr

def mvd (b : Int) (l : List Int) (k : Nat) : List Int := movedL b (l.take k) ++ l.drop k
theorem mvd_len (b : Int) (l : List Int) (k : Nat) : (mvd b l k).length = l.length := by simp [mvd, movedL]; omega
theorem mvd_get (b : Int) {l : List Int} {k : Nat} (hk : k < l.length) : (mvd b l k)[k]? = some l[k] := by
  rw [mvd, List.getElem?_append_right (by simp [movedL]; omega)]
  simp [movedL, Nat.min_eq_left (Nat.le_of_lt hk), hk]
theorem mvd_next (b : Int) {l : List Int} {k : Nat} (hk : k < l.length) : mvd b l (k + 1) = movedL b (l.take k) ++ moveE b l[k] :: l.drop (k + 1) := by
  rw [mvd, List.take_succ_eq_append_getElem hk, movedL, List.map_append]; simp [movedL]
theorem mvd_no (b : Int) {l : List Int} {k : Nat} (hk : k < l.length) (h : within l[k] = false) : mvd b l k = mvd b l (k + 1) := by
  rw [mvd_next b hk, mvd, moveE, h, List.drop_eq_getElem_cons hk]; rfl
theorem mvd_yes (b : Int) {l : List Int} {k : Nat} (hk : k < l.length) (h : within l[k] = true) : (mvd b l k).set k (l[k] + b) = mvd b l (k + 1) := by
  have hl : (movedL b (l.take k)).length = k := by simp [movedL]; omega
  rw [mvd_next b hk, mvd, moveE, if_pos h, List.drop_eq_getElem_cons hk, List.set_append_right _ _ (by omega), hl, Nat.sub_self, List.set_cons_zero]
theorem mvd_zero (b : Int) (l : List Int) : mvd b l 0 = l := by simp [mvd, movedL]
theorem mvd_end (b : Int) (l : List Int) : mvd b l l.length = movedL b l := by simp [mvd]
theorem asked_pos {c : Cn} {a : List Int} (h : asked c a = true) (hk : c.k = 18 ∨ c.k = 19) : 0 < a.length ∨ c.x = [] := by
  cases hx : c.x with
  | nil => exact Or.inr rfl
  | cons x l =>
    have := List.all_eq_true.1 (asked_parts h).1 x (by rw [hx]; exact List.mem_cons_self)
    simp only [isV, Bool.and_eq_true, decide_eq_true_eq] at this
    exact Or.inl (by omega)
theorem sl_none {W : World} (A : Option Addr) (d : Nat) : Sl 1 QI W (.slice A 0 d) [] := ⟨A, d, rfl, Nat.zero_le _, fun h => absurd h (by simp)⟩
/-- append(nil, a...) of nothing -/
theorem wpList_copyE {w : World} {c : Nat} {A : Option Addr}
    {ops : Array Oper} {rest : List Oper} {o : Oper} {a : Act} {R : Exit → Act → World → Prop} (hw : Region.wanted o (yielded ops a.tmps) = true) (s z : Operand)
    (ho : o.op = .call { callee := .builtin .append, args := #[s, z], argTypes := #[23, 23] }) (hs : a.eval s = .slice none 0 0) (hx : a.eval z = .slice A 0 c)
    (h : ∀ B d w', Since w w' → wpList Try.prog ops R rest (a.put o.dst (.slice B 0 d)) w') : wpList Try.prog ops R (o :: rest) a w := by
  refine BigFrame.wpList_want hw fun K hK => ?_
  obtain ⟨i, zv, bytes, hi, hz0, hz1, hz2, hz3, hz4⟩ := nL.inf
  cases A with
  | none =>
    have hrun := Go.Proofs.Ytakfabaocgbbmaa.Tk.run_append_nil (P := Try.prog) (ty := o.type) nL.ht hi (World.ownsRow_nil w w.heap.size 2 1) c
    unfold Oper.wp execOp
    simp only [ho, resolve, invoke, builtin, Sem.run_bind, Sem.run_pure, Result.andThen_ok, List.map_toArray, List.map_cons, List.map_nil, hs, hx, hrun]
    exact hK _ _ (h none 0 w (Since.refl _))
  | some ad =>
    refine wp_append_at w s z 23 ho w.heap.size 2 i zv 1 bytes nL.ht hi hz0 hz1 hz2 hz4 (by decide) (.slice none 0 0) 0 [] hs (World.ownsRow_nil _ _ _ _) ad 0 c [] hx rfl (by simp) (by simp) (by unfold maxLen; omega) (by simp) (Nat.le_refl _) fun v' w' h2 h3 h4 => ?_
    have hk : Since w w' := Below.grown (Since.refl _) h3 (Nat.le_refl _) (fun g hg => by simp [Value.ownBlock] at hg)
    rcases h2.2 with ⟨rfl, -⟩ | ⟨g, cap, cur, rfl, -⟩
    · exact hK _ _ (h none 0 w' hk)
    · exact hK _ _ (h _ _ w' hk)
section
set_option linter.unusedVariables false
open Go.Proofs.Ytakfabaocgbbmaa.Zs

def rotL {α : Type} (s : Nat) (l : List α) : List α := l.drop s ++ l.take s
theorem rot_eq (l : List Int) (at_ : Nat) : rot l at_ = rotL (at_ % l.length) l := by
  rcases Nat.eq_zero_or_pos l.length with h0 | h0
  · obtain rfl : l = [] := List.eq_nil_of_length_eq_zero h0
    simp [rot, rotL]
  have hs : at_ % l.length < l.length := Nat.mod_lt _ h0
  apply List.ext_getElem
  · simp [rot, rotL]; omega
  · intro i h1 h2
    have hi : i < l.length := by simpa [rot] using h1
    have e1 : (rot l at_)[i] = l.getD ((i + at_) % l.length) 0 := by simp [rot]
    have hq : (i + at_) % l.length < l.length := Nat.mod_lt _ h0
    rw [e1, show l.getD ((i + at_) % l.length) 0 = l[(i + at_) % l.length] by simp [List.getD, hq]]
    generalize hsd : at_ % l.length = s at *
    have em : (i + at_) % l.length = (i + s) % l.length := by rw [← hsd]; simp
    simp only [rotL]
    by_cases c : i < l.length - s
    · rw [List.getElem_append_left (by simp; omega), List.getElem_drop]
      congr 1
      rw [em, Nat.mod_eq_of_lt (by omega)]; omega
    · rw [List.getElem_append_right (by simp; omega), List.getElem_take]
      congr 1
      rw [em, Nat.mod_eq_sub_mod (by omega), Nat.mod_eq_of_lt (by omega)]; simp; omega
theorem rotL_perm {α : Type} (s : Nat) (l : List α) : (rotL s l).Perm l :=
  (List.perm_append_comm).trans (by rw [List.take_append_drop])
theorem rotL_map {α β : Type} (s : Nat) (l : List α) (f : α → β) : (rotL s l).map f = rotL s (l.map f) := by simp [rotL, List.map_drop, List.map_take]
theorem rotL_len {α : Type} (s : Nat) (l : List α) : (rotL s l).length = l.length := (rotL_perm s l).length_eq
theorem rotL_zip {α β : Type} (s : Nat) (l : List α) (m : List β) (h : l.length = m.length) : (rotL s l).zip (rotL s m) = rotL s (l.zip m) := by
  rw [rotL, rotL, rotL, List.zip_append (by simp [h]), List.zip_eq_zipWith, List.zip_eq_zipWith, List.zip_eq_zipWith, List.drop_zipWith, List.take_zipWith]
theorem ld_perm {l m : List Tk3} (h : l.Perm m) (t : Int) : ld l t = ld m t := by
  induction h with
  | nil => rfl
  | cons p _ ih => rw [ld, ld, ih]
  | swap p q l => rw [ld, ld, ld, ld]; omega
  | trans _ _ h1 h2 => rw [h1, h2]
theorem differ_nodup (v : List Int) : differ v = true ↔ v.Pairwise (· ≠ ·) := by
  rw [differ, allI_iff, List.pairwise_iff_getElem]
  have e2 : ∀ i (hi : i < v.length), v.getD i 0 = v[i] := fun i hi => by simp [List.getD, hi]
  constructor
  · intro h i j hi hj hij e
    have := h j hj
    rw [e2 j hj, Bool.not_eq_true', ← Bool.not_eq_true, List.contains_iff_mem] at this
    exact this (e ▸ List.mem_take_iff_getElem.2 ⟨i, by omega, rfl⟩)
  · intro h j hj
    rw [e2 j hj, Bool.not_eq_true', ← Bool.not_eq_true, List.contains_iff_mem]
    intro hm
    obtain ⟨i, hi, e⟩ := List.mem_take_iff_getElem.1 hm
    exact h i j (by omega) hj (by omega) e
theorem differ_perm {v u : List Int} (h : v.Perm u) : differ v = differ u := by
  rw [Bool.eq_iff_iff, differ_nodup, differ_nodup]
  exact h.pairwise_iff (fun h e => h e.symm)
theorem never_iff (v a : List Int) (c : Int) : never v a c = true ↔ ∀ t ∈ v, ld (tks v a) t ≤ c := by
  rw [never, allI_iff]
  constructor
  · intro h t ht
    obtain ⟨i, hi, e⟩ := List.mem_iff_getElem.1 ht
    have := h i hi
    rw [show v.getD i 0 = v[i] by simp [List.getD, hi], e] at this
    exact of_decide_eq_true this
  · intro h i hi
    rw [show v.getD i 0 = v[i] by simp [List.getD, hi]]
    exact decide_eq_true (h _ (List.getElem_mem hi))
theorem never_rot (s : Nat) {v a : List Int} (c : Int) (h : a.length = 2 * v.length) : never (rotL s v) (rotL s (a.take v.length) ++ rotL s (a.drop v.length)) c = never v a c := by
  have h1 : (a.take v.length).length = v.length := by rw [List.length_take]; omega
  have h2 : (a.drop v.length).length = v.length := by rw [List.length_drop]; omega
  have e : tks (rotL s v) (rotL s (a.take v.length) ++ rotL s (a.drop v.length)) = rotL s (tks v a) := by
    have h3 : (rotL s (a.take v.length)).length = (rotL s v).length := by rw [rotL_len, rotL_len, h1]
    rw [tks, tks, ← h3, List.take_left', List.drop_left', rotL_zip _ _ _ (by omega), rotL_zip _ _ _ (by rw [List.length_zip]; omega)]
    · rfl
    · rfl
  rw [Bool.eq_iff_iff, never_iff, never_iff, e]
  constructor
  · intro h t ht
    have := h t ((rotL_perm s v).mem_iff.2 ht)
    rwa [ld_perm (rotL_perm s _)] at this
  · intro h t ht
    have := h t ((rotL_perm s v).mem_iff.1 ht)
    rwa [ld_perm (rotL_perm s _)]
theorem all_perm {α : Type} {l m : List α} (h : l.Perm m) (f : α → Bool) : l.all f = m.all f := by
  rw [Bool.eq_iff_iff, List.all_eq_true, List.all_eq_true]
  exact ⟨fun h2 x hx => h2 x (h.mem_iff.2 hx), fun h2 x hx => h2 x (h.mem_iff.1 hx)⟩
/-- the constraint turned -/
def rotA (s : Nat) (c : Cn) : List Int := rotL s (c.a.take c.x.length) ++ rotL s (c.a.drop c.x.length)
theorem rotA_perm (s : Nat) (c : Cn) : (rotA s c).Perm c.a :=
  ((rotL_perm s _).append (rotL_perm s _)).trans (by rw [List.take_append_drop])
theorem vals_rot (s : Nat) (x a : List Int) : vals (rotL s x) a = rotL s (vals x a) := by rw [vals, vals, rotL_map]
theorem bools_no {α : Type} {k : Int} (h : k = 1 ∨ k = 3 ∨ k = 18 ∨ k = 19) (x : List α) : bools k x = [] := by
  unfold bools
  rw [if_neg (by omega), if_neg (by omega)]
theorem turned_same {c : Cn} {l : List Int} (s : Nat) (aa : List Int) (hk : c.k = 18 ∨ c.k = 19) (hp : aa.Perm c.a) (h19 : c.k = 19 → aa = rotA s c ∧ c.a.length = 2 * c.x.length) :
    holds ⟨c.k, rotL s c.x, aa, c.c⟩ l = holds c l := by
  have e1 : inR (rotL s c.x) l = inR c.x l := all_perm (rotL_perm s _) _
  have ev : vals (rotL s c.x) l = rotL s (vals c.x l) := vals_rot s _ _
  have ea : asked ⟨c.k, rotL s c.x, aa, c.c⟩ l = asked c l := by
    rw [asked, asked, e1, ev]
    congr 1
    simp only [askV, numOk, sgn, rotL_len, hp.length_eq]
    rw [all_perm (rotL_perm s _) within, all_perm hp within, all_perm hp (okE c.k), bools_no (by omega), bools_no (by omega)]
  rw [holds, holds, ea]
  congr 1
  rw [ev]
  rcases hk with e | e
  · rw [e]
    show differ _ = differ _
    exact differ_perm (rotL_perm s _)
  · obtain ⟨h1, h2⟩ := h19 e
    rw [e]
    show never _ _ _ = never _ _ _
    rw [h1, rotA]
    have := never_rot s (v := vals c.x l) (a := c.a) c.c (by rw [vals_len]; exact h2)
    rw [vals_len] at this
    exact this
theorem within_neg (x : Int) : within (-x) = within x := by
  rw [Bool.eq_iff_iff, within_iff2, within_iff2]; omega
def negL (l : List Int) : List Int := l.map fun x => -x
theorem sm_neg (a v : List Int) : sm (negL a) v = -sm a v := by
  rw [sm, sm]
  induction a generalizing v with
  | nil => rfl
  | cons x a ih =>
    cases v with
    | nil => rfl
    | cons y v =>
      simp only [negL, List.map_cons, List.zip_cons_cons, smF]
      have := ih v
      simp only [negL] at this
      rw [this, Int.neg_mul]; omega
theorem neg_same {c : Cn} {l : List Int} (hk : c.k = 1 ∨ c.k = 3) : holds ⟨c.k, c.x, negL c.a, -c.c⟩ l = holds c l := by
  have e0 : (negL c.a).length = c.a.length := by simp [negL]
  have e1 : (negL c.a).all within = c.a.all within := by
    rw [negL, List.all_map]; exact all_congr' fun x _ => within_neg x
  have ea : asked ⟨c.k, c.x, negL c.a, -c.c⟩ l = asked c l := by
    rw [asked, asked]
    congr 1
    simp only [askV, numOk, e0, e1, within_neg]
    rw [sgn_free2 (by omega) (by omega), sgn_free2 (by omega) (by omega), show tak c.k = true by simp only [tak]; rw [decide_eq_true (by omega)]; rfl, Bool.or_true, Bool.or_true]
  rw [holds, holds, ea]
  congr 1
  simp only
  rcases hk with e | e
  · rw [e]
    show (sm (negL c.a) _ == -c.c) = (sm c.a _ == c.c)
    rw [sm_neg, Bool.eq_iff_iff, beq_iff_eq, beq_iff_eq]; omega
  · rw [e]
    show (sm (negL c.a) _ != -c.c) = (sm c.a _ != c.c)
    rw [sm_neg, Bool.eq_iff_iff, bne_iff_ne, bne_iff_ne]; omega
theorem negL_snoc {l : List Int} {j : Nat} (h : j < l.length) : negL (l.take j) ++ [-l[j]] = negL (l.take (j + 1)) := by
  rw [List.take_succ_eq_append_getElem h, negL, negL, List.map_append]; rfl
section
open Go.RowKit
set_option linter.unusedVariables false
set_option linter.unusedSimpArgs false
open Go.Proofs.Ytakfabaocgbbmaa.Dig Go.Proofs.Ytakfabaocgbbmaa.Lx Go.Proofs.Ytakfabaocgbbmaa.Tk Go.Proofs.Ytakfabaocgbbmaa.Ti Go.Proofs.Ytakfabaocgbbmaa.Zs Go.Proofs.Ytakfabaocgbbmaa.Tr

def Rz (e : TypeId) (n : Nat) (w : World) (v : Value) (xs : List Int) : Prop := ∃ cs, w.ownsRow n e 1 v xs.length cs ∧ Rws 1 QI0 xs cs
theorem Rz.of {e : TypeId} {w1 w : World} {v : Value} {xs : List Int} (h : Rq e QI0 w1 w v xs) : Rz e w1.heap.size w v xs := by
  obtain ⟨cs, h1, h2, -⟩ := h
  exact ⟨cs, h1, h2⟩
theorem Rz.set {e : TypeId} {n : Nat} {w : World} {v : Value} {xs : List Int} (h : Rz e n w v xs) {a : Addr} (ha : a.block < n) (u : Value) : Rz e n (w.setCell a u) v xs := by
  obtain ⟨cs, h1, h2⟩ := h
  exact ⟨cs, ownsRow_setCell_below h1 ha u, h2⟩
theorem Rz.since {e : TypeId} {n : Nat} {w w' : World} {v : Value} {xs : List Int} (h : Rz e n w v xs) (k : Since w w') : Rz e n w' v xs := by
  obtain ⟨cs, h1, h2⟩ := h
  exact ⟨cs, owns_since h1 k, h2⟩
theorem Rz.sl {e : TypeId} {n : Nat} {w : World} {v : Value} {xs : List Int} (h : Rz e n w v xs) : Sl 1 QI w v xs := by
  obtain ⟨cs, h1, h2⟩ := h
  have : Sl 1 (fun _ => QI0) w v xs := Sl.own h1 h2 rfl
  exact this
theorem qi0_one {x : Int} {u : List Value} (h : QI0 x u) : ∀ y ∈ u, y.oneCell' = true := by
  unfold QI0 at h; subst h
  intro y hy
  simp only [List.mem_cons, List.not_mem_nil, or_false] at hy
  subst hy; rfl
/-- append(first, last...) -/
theorem wpList_cat {b1 b2 w : World} {v1 v2 : Value} {xs ys : List Int} (H1 : Rq 2 QI0 b1 w v1 xs) (H2 : Rq 2 QI0 b2 w v2 ys) (hl : xs.length + ys.length ≤ 1000000)
    {ops : Array Oper} {rest : List Oper} {o : Oper} {a : Act} {R : Exit → Act → World → Prop} (hw : Region.wanted o (yielded ops a.tmps) = true) (s x : Operand)
    (ho : o.op = .call { callee := .builtin .append, args := #[s, x], argTypes := #[23, 23] }) (hs : a.eval s = v1) (hx : a.eval x = v2)
    (h : ∀ A c w', Rq 2 QI0 b1 w' (.slice A (xs.length + ys.length) c) (xs ++ ys) → Keep v1 w w' → wpList Try.prog ops R rest (a.put o.dst (.slice A (xs.length + ys.length) c)) w') : wpList Try.prog ops R (o :: rest) a w := by
  obtain ⟨i, zv, bytes, hi, hz0, hz1, hz2, hz3, hz4⟩ := nL.inf
  have hsz := H1.s.size
  have hlt := H1.lt
  obtain ⟨cs1, h1, r1, k1⟩ := H1
  obtain ⟨cs2, h2, r2, k2⟩ := H2
  have hmul : (xs.length + ys.length) * bytes ≤ (xs.length + ys.length) * 24 := Nat.mul_le_mul_left _ hz3
  refine wpList_append_rows hw s x 23 ho b1.heap.size 2 i zv 1 bytes nL.ht hi hz0 hz1 hz2 hz4 (by decide) v1 xs.length cs1 hs h1 b2.heap.size 2 v2 ys.length cs2 hx h2 (Rws.one (fun x u h => qi0_one h) r2) (by unfold maxLen; omega) (by omega) hsz fun v' w' h3 h4 h5 => ?_
  obtain ⟨A, c, rfl⟩ := owns_slice h3
  exact h A c w' ⟨cs1 ++ cs2, by rw [List.length_append]; exact h3, r1.append r2, Below.grown k1 h4 hsz (fun g hg => (hlt g hg).1)⟩ (.of h4)
def Rb (w0 w : World) (v : Value) (xs : List Int) : Prop := ∃ b1, Since w0 b1 ∧ Rq 2 QI0 b1 w v xs
theorem Rb.since {w0 w w' : World} {v : Value} {xs : List Int} (h : Rb w0 w v xs) (k : Since w w') : Rb w0 w' v xs := by
  obtain ⟨b1, h1, h2⟩ := h
  exact ⟨b1, h1, h2.since k⟩
theorem rot_len (l : List Int) (q : Nat) : (rot l q).length = l.length := by simp [rot]
theorem rot_rotA (c : Cn) {n : Nat} (hn : n = c.x.length) (h2 : c.a.length = 2 * c.x.length) (q : Nat) : rot (c.a.take n) q ++ rot (c.a.drop n) q = rotA (q % c.x.length) c := by
  subst hn
  have h1 : (c.a.take c.x.length).length = c.x.length := by rw [List.length_take]; omega
  have h3 : (c.a.drop c.x.length).length = c.x.length := by rw [List.length_drop]; omega
  rw [rot_eq, rot_eq, h1, h3, rotA]
end
end
end Go.Proofs.Ytakfabaocgbbmaa.Sn
