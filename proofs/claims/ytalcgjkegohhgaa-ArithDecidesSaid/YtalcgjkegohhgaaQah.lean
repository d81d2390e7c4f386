/- Layer 9 (set): Without, the landed one. Layer 11 (sense), pure: constraints and models, which may be. -/
import Derived.Test.YtalcgjkegohhgaaQag
set_option linter.unusedVariables false
set_option linter.unusedSimpArgs false
section
namespace Go.Proofs.Ytalcgjkegohhgaa.Zs
open Go.RowKit
open Go.Proofs.Ytalcgjkegohhgaa.Dig Go.Proofs.Ytalcgjkegohhgaa.Lx Go.Proofs.Ytalcgjkegohhgaa.Tk Go.Proofs.Ytalcgjkegohhgaa.Ti
set_option maxRecDepth 20000 in
set_option maxHeartbeats 1000000 in
theorem without_new (v : Value) (l : List Rn) (x : Int) (w : World) (h : Sl 2 QR w v l) (hl : l.length ≤ 1100000) (hb : Bd l) (hx : fits x) :
    Calls Try.prog 139 #[v, .int .i64 x] w (RetF (without l x) w) := by
  obtain ⟨A, c, rfl⟩ := h.form
  cases hr : right l with
  | false =>
    have RA := Lib.hid (right_at h hl hb hr)
    have E := Lib.hid (show without l x = [] by rw [without, if_neg (by simp [hr])])
    clear h hb hr
    go_enter Try.func139, Try.ntmps139
    go_wp2_with (go_at_call 58; (with_reducible refine (RA.out _ (Since.refl _)).mono ?_); rintro e w1 ⟨rfl, k1⟩)
    go_ret
    exact .none E.out k1
  | true =>
    have RA := Lib.hid (right_at h hl hb hr)
    have HF := Lib.hid (right_full hr)
    obtain ⟨R, hR⟩ : ∃ R, R = withoutF l x := ⟨_, rfl⟩
    have e : without l x = R := by rw [without, if_pos hr, hR]
    rw [e]
    obtain ⟨n, hn⟩ : ∃ n, n = l.length := ⟨_, rfl⟩
    rw [← hn] at h hl RA ⊢
    have H := Lib.hid h
    have HN := Lib.hid hn
    have HR := Lib.hid hR
    have WF := Lib.hid (fun (A : Option Addr) (m c : Nat) (xs : List Rn) (a b : Int) (W : World) (h : Rw w W (.slice A m c) xs) (hl : xs.length ≤ 8000000) => withFull_any (.slice A m c) xs a b W h hl)
    simp only [fits] at hx
    clear h hn hb hR e hr
    go_enter Try.func139, Try.ntmps139
    go_wp2_with (go_at_call 58; (with_reducible refine (RA.out _ (Since.refl _)).mono ?_); rintro e w1 ⟨rfl, k1⟩)
    go_loopw [5, 13] (fun s i wr => ∃ (k : Nat) (A : Option Addr) (m c : Nat) (xs : List Rn), i = .int .i64 (k : Int) ∧ s = .slice A m c ∧ k ≤ n ∧ m ≤ 2 * k ∧ Hid (xs.length = m) ∧ Hid (Rw w wr (.slice A m c) xs) ∧ Hid (xs ++ withoutF (l.drop k) x = R)) (fun _ i _ => n - (intOf i).toNat)
    case atStart => exact ⟨0, none, 0, 0, [], rfl, rfl, Nat.zero_le _, Nat.le_refl _, rfl, .nil k1, HR.out.symm⟩
    case round =>
      obtain ⟨k, A2, m, c2, xs, rfl, rfl, hk, hm, HX, HW, HE⟩ := hrel
      by_cases hkn : k < n
      · have hkl : k < l.length := by have := HN.out; omega
        obtain ⟨g, o, rfl, e0, e1⟩ := elR (H.out.since stR HW.out.2) hkl
        have hst := HE.out
        have hbz := HF.out l[k] (List.getElem_mem hkl)
        rw [drop_at hkl, withoutF, ← List.append_assoc, wo] at hst
        generalize l[k] = y at *
        obtain ⟨lo0, hi0⟩ := y
        simp only [mx] at hst e0 e1 hbz
        have ka := Lib.hid (since_alloc wr (.cells #[.int .i64 lo0, .int .i64 hi0] 78))
        have ST := Lib.hid hst
        have WB := Lib.hid (HW.out.since ka.out)
        obtain ⟨r0, r1⟩ := (Bx.fresh wr #[.int .i64 lo0, .int .i64 hi0] 78).two
        have QQ := Lib.hid (Bx.fresh (wr.alloc (.cells #[.int .i64 lo0, .int .i64 hi0] 78)) #[.int .i64 lo0, .int .i64 hi0] 78).two
        have hlx : xs.length ≤ 8000000 := by have := HX.out; omega
        have hgs : (wr.alloc (.cells #[.int .i64 lo0, .int .i64 hi0] 78)).heap.size = wr.heap.size + 1 := by simp
        rw [hgs] at QQ
        clear hst hkl HE hgs
        by_cases c0 : x < lo0 ∨ x > hi0
        · have HE := Lib.hid (show xs ++ [(lo0, hi0)] ++ withoutF (l.drop (k + 1)) x = R by rw [← ST.out, if_pos c0])
          rcases Classical.em (x < lo0) with c1 | c1
          · clear c0
            go_wp2_with (at_builtin; refine wpList_app (WB.out.since (since_alloc _ _)) (by omega) (lo0, hi0) (wr.heap.size + 1) 1 QQ.out.1 QQ.out.2 (by rfl) _ _ rfl rfl rfl ?_; intro A3 c3 w2 h2 _; rw [HX.out] at h2)
            go_roundw
            case rel => exact ⟨k + 1, A3, m + 1, c3, _, by go_num, by rw [HX.out], by omega, by omega, by rw [List.length_append, HX.out]; rfl, h2, HE.out⟩
            case measure => simp [intOf]; omega
          · have c2 : x > hi0 := c0.resolve_left c1
            clear c0
            go_wp2_with (at_builtin; refine wpList_app (WB.out.since (since_alloc _ _)) (by omega) (lo0, hi0) (wr.heap.size + 1) 1 QQ.out.1 QQ.out.2 (by rfl) _ _ rfl rfl rfl ?_; intro A3 c3 w2 h2 _; rw [HX.out] at h2)
            go_roundw
            case rel => exact ⟨k + 1, A3, m + 1, c3, _, by go_num, by rw [HX.out], by omega, by omega, by rw [List.length_append, HX.out]; rfl, h2, HE.out⟩
            case measure => simp [intOf]; omega
        · have HE := Lib.hid (show xs ++ one lo0 (x - 1) ++ one (x + 1) hi0 ++ withoutF (l.drop (k + 1)) x = R by rw [← ST.out, if_neg c0, List.append_assoc xs])
          have c1 : ¬ x < lo0 := fun h => c0 (.inl h)
          have c2 : ¬ x > hi0 := fun h => c0 (.inr h)
          clear c0
          have V1 := Lib.hid (app_len xs lo0 (x - 1))
          have V2 := Lib.hid (app_len (xs ++ one lo0 (x - 1)) (x + 1) hi0)
          go_wp2_with (first
            | (go_at_call 112; (with_reducible refine (WF.out _ _ _ xs _ _ _ WB.out (by omega)).mono ?_); rintro e w2 ⟨A3, m3, c3, rfl, hm3, h3, q3⟩; obtain ⟨r0, r1⟩ := (Keep.box HW.out q3).two; have hm3' : m3 ≤ m + 1 := (by rw [← hm3, ← HX.out]; exact V1.out))
            | (go_at_call 112; (with_reducible refine (WF.out _ _ _ _ _ _ _ h3 (by omega)).mono ?_); rintro e w4 ⟨A4, m4, c4, rfl, hm4, h4, -⟩; have hm4' : m4 ≤ m3 + 1 := (by rw [← hm4, ← hm3]; exact V2.out)))
          go_roundw
          case rel => exact ⟨k + 1, A4, m4, c4, _, by go_num, rfl, by omega, by omega, hm4, h4, HE.out⟩
          case measure => simp [intOf]; omega
      · obtain rfl : k = n := by omega
        have HE2 := Lib.hid (show xs = R by rw [← HE.out, List.drop_of_length_le (by have := HN.out; omega)]; simp [withoutF])
        go_wp2
        go_ret
        exact .of HE2.out HX.out HW.out
end Go.Proofs.Ytalcgjkegohhgaa.Zs
end
section
namespace Go.Proofs.Ytalcgjkegohhgaa.Sn
open Go.Proofs.Ytalcgjkegohhgaa.Zs
/-- a constraint; a model -/
structure Cn where
  k : Int
  x : List Int
  a : List Int
  c : Int
structure Md where
  ds : List (List Rn)
  cs : List Cn
  ask : Int
  goal : Int
/-- as many variables and numbers as the kind asks -/
def shp (k : Int) (n m : Nat) : Bool :=
  if k = 1 ∨ k = 2 ∨ k = 3 ∨ k = 11 then decide (n = m)
  else if k = 4 ∨ k = 5 ∨ k = 6 then decide (n = m + 1)
  else if k = 7 ∨ k = 8 ∨ k = 9 ∨ k = 14 then decide (n = 3 ∧ m = 0)
  else if k = 10 ∨ k = 15 then decide (n = 2 ∧ m = 0)
  else if k = 12 ∨ k = 13 then decide (1 ≤ n ∧ m = 0)
  else if k = 16 then decide (n = 2 ∧ 1 ≤ m ∧ m ≤ 64)
  else if k = 17 then decide (3 ≤ n ∧ m = 0)
  else if k = 18 then decide (m = 0)
  else if k = 19 then decide (m = 2 * n)
  else false
/-- the kinds -/
inductive Kd : Int → Prop
  | k1 : Kd 1 | k2 : Kd 2 | k3 : Kd 3 | k4 : Kd 4 | k5 : Kd 5 | k6 : Kd 6 | k7 : Kd 7 | k8 : Kd 8 | k9 : Kd 9 | k10 : Kd 10 | k11 : Kd 11 | k12 : Kd 12 | k13 : Kd 13 | k14 : Kd 14
  | k15 : Kd 15 | k16 : Kd 16 | k17 : Kd 17 | k18 : Kd 18 | k19 : Kd 19
theorem kd_or (k : Int) : Kd k ∨ (k < 1 ∨ 19 < k) := by
  by_cases h : 1 ≤ k ∧ k ≤ 19
  · left
    obtain ⟨n, rfl⟩ : ∃ n : Nat, k = (n : Int) := ⟨k.toNat, by omega⟩
    have h1 : 1 ≤ n := by omega
    have h2 : n ≤ 19 := by omega
    match n, h1, h2 with
    | 1, _, _ => exact .k1
    | 2, _, _ => exact .k2
    | 3, _, _ => exact .k3
    | 4, _, _ => exact .k4
    | 5, _, _ => exact .k5
    | 6, _, _ => exact .k6
    | 7, _, _ => exact .k7
    | 8, _, _ => exact .k8
    | 9, _, _ => exact .k9
    | 10, _, _ => exact .k10
    | 11, _, _ => exact .k11
    | 12, _, _ => exact .k12
    | 13, _, _ => exact .k13
    | 14, _, _ => exact .k14
    | 15, _, _ => exact .k15
    | 16, _, _ => exact .k16
    | 17, _, _ => exact .k17
    | 18, _, _ => exact .k18
    | 19, _, _ => exact .k19
    | n + 20, _, h => omega
  · right; omega
theorem shp_out {k : Int} (h : k < 1 ∨ 19 < k) (n m : Nat) : shp k n m = false := by
  unfold shp
  repeat rw [if_neg (by omega)]
/-- the numbers of a clause are signs, those of tasks not below nought -/
def okE (k n : Int) : Bool := !(decide (k = 11) && decide (n ≠ 1) && decide (n ≠ -1) || decide (k = 19) && decide (n < 0))
def sgn (k : Int) (a : List Int) (c : Int) : Bool := a.all (okE k) && (decide (k ≠ 19) || decide (0 ≤ c))
def tak (k : Int) : Bool := decide (1 ≤ k ∧ k ≤ 6) || decide (k = 19)
/-- the places of those that must be truth values -/
def bools {α : Type} (k : Int) (x : List α) : List α :=
  if k = 4 ∨ k = 5 ∨ k = 6 then x.drop (x.length - 1) else if k = 11 ∨ k = 12 ∨ k = 13 ∨ k = 14 then x else []
def tru (d : List Rn) : Bool := decide (0 < d.length) && (decide (0 ≤ (d.getD 0 (0, 0)).1) && decide ((d.getD (d.length - 1) (0, 0)).2 ≤ 1))
def isV (n : Nat) (x : Int) : Bool := decide (0 ≤ x) && decide (x < n)
def domAt (ds : List (List Rn)) (x : Int) : List Rn := ds.getD x.toNat []
/-- what is asked of the numbers alone -/
def numOk (k : Int) (n : Nat) (a : List Int) (c : Int) : Bool := shp k n a.length && sgn k a c && decide (n ≤ 32) && a.all within && within c && (decide (c = 0) || tak k)
def conOk (ds : List (List Rn)) (c : Cn) : Bool := numOk c.k c.x.length c.a c.c && c.x.all (isV ds.length) && (bools c.k c.x).all (fun x => tru (domAt ds x))
def domOk (d : List Rn) : Bool := right d && decide (0 < d.length)
def reqOk (m : Md) : Bool := if m.ask = 0 then decide (m.goal = 0) else if m.ask = 1 ∨ m.ask = 2 then isV m.ds.length m.goal else false
def modOk (m : Md) : Bool := decide (m.ds.length ≤ 64) && decide (m.cs.length ≤ 64) && m.ds.all domOk && m.cs.all (conOk m.ds) && reqOk m
theorem shp_le {k : Int} {n m : Nat} (h : shp k n m = true) (hn : n ≤ 32) : m ≤ 64 := by
  unfold shp at h
  repeat (split at h; · simp only [decide_eq_true_eq] at h; omega)
  cases h
theorem shp_pos {k : Int} {n m : Nat} (h : shp k n m = true) (hk : k = 4 ∨ k = 5 ∨ k = 6) : n = m + 1 := by
  unfold shp at h
  rw [if_neg (by omega), if_pos hk] at h
  simpa using h
section
open Go.Proofs.Ytalcgjkegohhgaa.Zs
def valAt (a : List Int) (i : Int) : Int := a.getD i.toNat 0
def vals (x a : List Int) : List Int := x.map (valAt a)
def sing (v : List Int) : List (List Rn) := v.map fun n => [(n, n)]
def iot (n : Nat) : List Int := (List.range n).map Int.ofNat
def bit (n : Int) : Bool := decide (0 ≤ n) && decide (n ≤ 1)
/-- asked rightly, of these values -/
def askV (k : Int) (v a : List Int) (c : Int) : Bool := v.all within && numOk k v.length a c && (bools k v).all bit
def inR (x a : List Int) : Bool := x.all (isV a.length)
def asked (c : Cn) (a : List Int) : Bool := inR c.x a && askV c.k (vals c.x a) c.a c.c
theorem vals_len (x a : List Int) : (vals x a).length = x.length := by simp [vals]
theorem iot_len (n : Nat) : (iot n).length = n := by simp [iot]
theorem sing_len (v : List Int) : (sing v).length = v.length := by simp [sing]
theorem iot_snoc (n : Nat) : iot (n + 1) = iot n ++ [(n : Int)] := by simp [iot, List.range_succ]
theorem sing_snoc (v : List Int) (n : Int) : sing (v ++ [n]) = sing v ++ [[(n, n)]] := by simp [sing]
theorem bools_map {α β : Type} (f : α → β) (k : Int) (x : List α) : bools k (x.map f) = (bools k x).map f := by
  unfold bools
  rw [List.length_map]
  split
  · rw [List.map_drop]
  · split
    · rfl
    · rfl
theorem iot_vals (v : List Int) : (iot v.length).map (valAt v) = v := by
  apply List.ext_getElem
  · simp [iot]
  · intro i h1 h2
    simp [iot, valAt, h2]
theorem tru_one (n : Int) : tru [(n, n)] = bit n := by simp [tru, bit]
theorem tru_at {v : List Int} {x : Int} (h : isV v.length x = true) : tru (domAt (sing v) x) = bit (valAt v x) := by
  simp only [isV, Bool.and_eq_true, decide_eq_true_eq] at h
  have hx : x.toNat < v.length := by omega
  have e : domAt (sing v) x = [(v[x.toNat], v[x.toNat])] := by simp [domAt, sing, hx]
  rw [e, tru_one]
  simp [valAt, hx]
theorem iot_in (n : Nat) : (iot n).all (isV n) = true := by
  rw [List.all_eq_true]
  intro x hx
  simp only [iot, List.mem_map, List.mem_range] at hx
  obtain ⟨i, hi, rfl⟩ := hx
  simp [isV, hi]
theorem bools_mem {α : Type} {k : Int} {x : List α} {y : α} (h : y ∈ bools k x) : y ∈ x := by
  unfold bools at h
  split at h
  · exact List.mem_of_mem_drop h
  · split at h
    · exact h
    · cases h
theorem all_congr' {α : Type} {l : List α} {f g : α → Bool} (h : ∀ x ∈ l, f x = g x) : l.all f = l.all g := by
  induction l with
  | nil => rfl
  | cons a l ih => rw [List.all_cons, List.all_cons, h a (by simp), ih fun x hx => h x (by simp [hx])]
theorem bools_sing (k : Int) (v : List Int) : (bools k (iot v.length)).all (fun x => tru (domAt (sing v) x)) = (bools k v).all bit := by
  have e : bools k v = (bools k (iot v.length)).map (valAt v) := by rw [← bools_map, iot_vals]
  rw [e, List.all_map]
  refine all_congr' fun x hx => ?_
  rw [tru_at (List.all_eq_true.1 (iot_in v.length) x (bools_mem hx))]; rfl
theorem con_sing (k : Int) (v a : List Int) (c : Int) : (v.all within && conOk (sing v) ⟨k, iot v.length, a, c⟩) = askV k v a c := by
  simp only [conOk, askV, iot_len, sing_len, iot_in, bools_sing, Bool.and_true, Bool.and_assoc]
/-- the sum of products -/
def smF : List (Int × Int) → Int
  | [] => 0
  | p :: l => p.1 * p.2 + smF l
def sm (a v : List Int) : Int := smF (a.zip v)
def lastV (v : List Int) : Int := v.getD (v.length - 1) 0
def flg (v : List Int) : Bool := lastV v == 1
def other (v : List Int) : List Int := v.take (v.length - 1)
def litE (p : Int × Int) : Bool := (p.2 == 1) == (p.1 == 1)
def lits (a v : List Int) : Bool := (a.zip v).any litE
def chosen (v l : List Int) : Bool := decide (1 ≤ v.getD 0 0) && decide (v.getD 0 0 ≤ l.length) && (l.getD (v.getD 0 0 - 1).toNat 0 == lastV v)
def allI (n : Nat) (f : Nat → Bool) : Bool := (List.range n).all f
def differ (v : List Int) : Bool := allI v.length fun i => !(v.take i).contains (v.getD i 0)
abbrev Tk3 := Int × Int × Int
def tks (v a : List Int) : List Tk3 := v.zip ((a.take v.length).zip (a.drop v.length))
def ldE (t : Int) (p : Tk3) : Int := if p.1 ≤ t ∧ t < p.1 + p.2.1 then p.2.2 else 0
def ld (l : List Tk3) (t : Int) : Int := match l with | [] => 0 | p :: l => ldE t p + ld l t
def never (v a : List Int) (c : Int) : Bool := allI v.length fun i => decide (ld (tks v a) (v.getD i 0) ≤ c)
/-- whether it holds, if it is asked rightly -/
def holdV (k : Int) (v a : List Int) (c : Int) : Bool :=
  if k = 1 then sm a v == c
  else if k = 2 then decide (sm a v ≤ c)
  else if k = 3 then sm a v != c
  else if k = 4 then flg v == (sm a v == c)
  else if k = 5 then flg v == decide (sm a v ≤ c)
  else if k = 6 then !flg v || decide (sm a v ≤ c)
  else if k = 7 then v.getD 0 0 * v.getD 1 0 == v.getD 2 0
  else if k = 8 then min (v.getD 0 0) (v.getD 1 0) == v.getD 2 0
  else if k = 9 then max (v.getD 0 0) (v.getD 1 0) == v.getD 2 0
  else if k = 10 then max (v.getD 0 0) (-v.getD 0 0) == v.getD 1 0
  else if k = 15 then v.getD 0 0 == v.getD 1 0
  else if k = 11 then lits a v
  else if k = 12 then flg v == !(other v).contains 0
  else if k = 13 then flg v == (other v).contains 1
  else if k = 14 then flg v == (v.getD 0 0 != v.getD 1 0)
  else if k = 16 then chosen v a
  else if k = 17 then chosen v ((other v).drop 1)
  else if k = 18 then differ v
  else if k = 19 then never v a c
  else false
def holds (c : Cn) (a : List Int) : Bool := asked c a && holdV c.k (vals c.x a) c.a c.c
end
end Go.Proofs.Ytalcgjkegohhgaa.Sn
end
