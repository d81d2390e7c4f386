/- Layer 10 (trail): what Changed tells, and what it leaves. No walk. -/
import Derived.Test.YtnojfeffmbdpmaaVk
import Derived.Test.YtnojfeffmbdpmaaFi
import Derived.Sort.OwnSorted
namespace Go.Proofs.Ytnojfeffmbdpmaa.Tr
open Go.RowKit
set_option linter.unusedVariables false
set_option linter.unusedSimpArgs false
open Go.Proofs.Ytnojfeffmbdpmaa.Dig Go.Proofs.Ytnojfeffmbdpmaa.Lx Go.Proofs.Ytnojfeffmbdpmaa.Tk Go.Proofs.Ytnojfeffmbdpmaa.Ti Go.Proofs.Ytnojfeffmbdpmaa.Zs

theorem sorted_ext : ∀ {l1 l2 : List Int}, l1.Pairwise (· < ·) → l2.Pairwise (· < ·) → (∀ x, x ∈ l1 ↔ x ∈ l2) → l1 = l2
  | [], [], _, _, _ => rfl
  | [], b :: l2, _, _, h => absurd ((h b).2 (by simp)) (by simp)
  | a :: l1, [], _, _, h => absurd ((h a).1 (by simp)) (by simp)
  | a :: l1, b :: l2, h1, h2, h => by
    obtain ⟨p1, p2⟩ := List.pairwise_cons.1 h1
    obtain ⟨q1, q2⟩ := List.pairwise_cons.1 h2
    have e : a = b := by
      rcases List.mem_cons.1 ((h a).1 (by simp)) with e | e
      · exact e
      · rcases List.mem_cons.1 ((h b).2 (by simp)) with e2 | e2
        · exact e2.symm
        · have := p1 b e2
          have := q1 a e
          omega
    subst e
    congr 1
    refine sorted_ext p2 q2 fun x => ⟨fun hx => ?_, fun hx => ?_⟩
    · rcases List.mem_cons.1 ((h x).1 (by simp [hx])) with e | e
      · have := p1 x hx; omega
      · exact e
    · rcases List.mem_cons.1 ((h x).2 (by simp [hx])) with e | e
      · have := q1 x hx; omega
      · exact e
theorem mem_told {i : Nat} {F : List Bool} {x : Int} : x ∈ told i F ↔ ∃ k : Nat, F[k]? = some true ∧ x = ((i + k : Nat) : Int) := by
  induction F generalizing i with
  | nil => simp [told]
  | cons b F ih =>
    rw [told, List.mem_append, ih]
    constructor
    · rintro (h | ⟨k, h1, h2⟩)
      · cases b with
        | false => simp at h
        | true => simp at h; exact ⟨0, rfl, by simpa using h⟩
      · exact ⟨k + 1, by simpa using h1, by rw [h2]; omega⟩
    · rintro ⟨k, h1, h2⟩
      cases k with
      | zero =>
        left
        have : b = true := by simpa using h1
        subst this
        simp; simpa using h2
      | succ k => exact .inr ⟨k, by simpa using h1, by rw [h2]; omega⟩
theorem told_sorted (i : Nat) (F : List Bool) : (told i F).Pairwise (· < ·) := by
  induction F generalizing i with
  | nil => exact List.Pairwise.nil
  | cons b F ih =>
    rw [told, List.pairwise_append]
    refine ⟨by cases b <;> simp, ih _, fun x hx y hy => ?_⟩
    obtain ⟨k, -, h2⟩ := mem_told.1 hy
    cases b with
    | false => simp at hx
    | true => simp at hx; omega
/-- the keys that have been met -/
def Coll (D : DataW Value) (left : Lit → Bool) (xs : List Int) : Prop := xs.Nodup ∧ ∀ x : Int, x ∈ xs ↔ (Maps.has D (.int .i64 x) = true ∧ left (.int .i64 x) = false)
theorem Coll.start (D : DataW Value) : Coll D (Maps.has D) [] := ⟨List.nodup_nil, fun x => by cases Maps.has D (.int .i64 x) <;> simp⟩
theorem Coll.step {D : DataW Value} {left : Lit → Bool} {xs : List Int} (h : Coll D left xs) {x0 : Int} (hl : left (.int .i64 x0) = true) {y : DataW Value} (hv : ∀ z, D.atKey (.int .i64 x0) z = y) : Coll D (fun z => left z && !z.sameKey (.int .i64 x0)) (xs ++ [x0]) := by
  have ks : (Lit.int .i64 x0).sameKey (.int .i64 x0) = true := WideAt.sameKey_self trivial
  refine ⟨?_, fun x => ?_⟩
  · rw [List.nodup_append]
    refine ⟨h.1, by simp, fun a ha c hc e => ?_⟩
    simp at hc
    subst hc e
    have := ((h.2 a).1 ha).2
    rw [hl] at this; cases this
  · rw [List.mem_append, h.2]
    by_cases e : x = x0
    · subst e
      have hh : Maps.has D (.int .i64 x) = true := Maps.has_true_of_atKey hv
      simp [hh, ks]
    · have e3 : (Lit.int .i64 x).sameKey (.int .i64 x0) = false := Maps.sameKey_ne (fun e2 => e (by injection e2))
      simp [e, e3]
theorem Coll.told {D : DataW Value} {left : Lit → Bool} {xs : List Int} {F : List Bool} (h : Coll D left xs) (hl : ∀ kl, left kl = false) (hF : ∀ kl, Maps.has D kl = true ↔ ∃ k : Nat, F[k]? = some true ∧ kl = ik k) {ys : List Int} (hp : ys.Perm xs) (hs : ys.Pairwise (· ≤ ·)) : ys = Tr.told 0 F := by
  refine sorted_ext ?_ (told_sorted 0 F) fun x => ?_
  · have nd : ys.Nodup := hp.nodup_iff.2 h.1
    exact hs.imp₂ (fun a b (h1 : a ≤ b) (h2 : a ≠ b) => by omega) nd
  · rw [hp.mem_iff, h.2, mem_told, hF, hl]
    simp only [and_true, Nat.zero_add]
    constructor
    · rintro ⟨k, h1, h2⟩; exact ⟨k, h1, by injection h2⟩
    · rintro ⟨k, h1, h2⟩; exact ⟨k, h1, by rw [h2]⟩
theorem Trl.cleared {G : Nat → Bool} {N : Nat} {w w' : World} {b : Nat} {s : Sto} {vD vL : Value} {mc : Nat} {ms : List Nat} {cs : List Value} (h : Trl G N (fun _ => True) w b s vD vL mc ms cs) (T : Turn G w w') (same : ∀ k, k < w.heap.size → k ≠ mc → w'.heap[k]? = w.heap[k]?)
    (hc : w'.ownsMap Try.prog 3 unitElem mc N (.map [] : DataW Value)) : Trl G N (fun _ => True) w' b ⟨s.D, s.W, List.replicate s.D.length false⟩ vD vL mc ms cs := by
  have V : Since (veil G w) (veil G w') := T.veil fun _ _ => rfl
  obtain ⟨D, hD, -⟩ := id h.chg
  refine ⟨?_, own_at h.rowD (Nat.le_refl _) fun g hg => same g (own_lt h.rowD hg) (own_map h.rowD hD hg), h.domD.since V, own_at h.rowL (Nat.le_refl _) fun g hg => same g (own_lt h.rowL hg) (own_map h.rowL hD hg), ?_, ⟨.map [], hc, fun kl => ⟨fun h => by simp [Maps.has] at h, fun ⟨k, h1, _⟩ => ?_⟩⟩, h.nod, h.gb, h.gD, h.gL, h.gM, ⟨h.ok.D, h.ok.n, h.ok.W, by simp, h.ok.lv⟩⟩
  · have := h.bx
    unfold Bx at *
    rw [same b h.bx.lt (bx_map h.bx hD)]; exact this
  · refine h.lvs.keep (Nat.le_refl _) V (fun _ h => h) fun m hm => ?_
    obtain ⟨f, hf⟩ := h.lvs.map m hm
    refine same m hf.lt fun e => ?_
    have := (List.nodup_cons.1 h.nod).1
    exact this (by rw [← e]; simpa using hm)
  · rw [List.getElem?_replicate] at h1
    split at h1 <;> simp at h1
section
open Go.RowKit
set_option linter.unusedVariables false
set_option linter.unusedSimpArgs false
open Go.Proofs.Ytnojfeffmbdpmaa.Dig Go.Proofs.Ytnojfeffmbdpmaa.Lx Go.Proofs.Ytnojfeffmbdpmaa.Tk Go.Proofs.Ytnojfeffmbdpmaa.Ti Go.Proofs.Ytnojfeffmbdpmaa.Zs
open Go.Maps (Keyed keyOf_int_mk)

/-- the sort's contract -/
abbrev SortSays : Prop := ∀ (base : Nat) (w : World) (v : Value) (xs : List Int), w.ownsRow base 3 1 v xs.length (xs.map (Value.int .i64)) → xs.length ≤ 1000000 →
  Calls Try.prog 38 #[v] w fun e w' => e = .returned (.tuple #[]) ∧ ∃ ys : List Int, ys.Perm xs ∧ ys.Pairwise (· ≤ ·) ∧ w'.ownsRow base 3 1 v xs.length (ys.map (Value.int .i64)) ∧ w.grownBy w' v.ownBlock
theorem unit_form (v : Value) (y : DataW Value × List MemPlace) (h : unitElem v = some y) : ∃ c : Unit, v = (fun _ => Value.agg #[]) c := ⟨(), (unitElem_inv h).1⟩
theorem rws_ints {w : World} {xs : List Int} {cs : List Value} (h : Rws 1 (QI w) xs cs) : cs = xs.map (Value.int .i64) := by
  induction h with
  | nil => rfl
  | snoc h k l ih => rw [List.map_append, ih]; unfold QI at k; rw [k]; rfl
theorem ints_rws (w : World) : ∀ xs : List Int, Rws 1 (QI w) xs (xs.map (Value.int .i64))
  | [] => .nil
  | x :: xs => by
    have h : Rws 1 (QI w) ([] ++ [x]) ([] ++ [Value.int .i64 x]) := Rws.snoc .nil rfl rfl
    exact h.append (ints_rws w xs)
set_option maxRecDepth 20000 in
set_option maxHeartbeats 4000000 in
theorem tchanged_any (SS : SortSays) {G : Nat → Bool} {N : Nat} {w : World} {b : Nat} {s : Sto} (h0 : TrailAt G N w b s) (hG : ∀ k, G k = true → k < w.heap.size) (hN : N ≤ 900000) :
    Calls Try.prog 20 #[.pointer (some ⟨b, 0, none⟩)] w fun e w' => ∃ v, e = .returned v ∧ Sl 1 QI (veil G w') v (changedD s).2 ∧ TrailAt G N w' b (changedD s).1 ∧ Turn G w w' := by
  obtain ⟨vD, vL, mc, ms, cs, h⟩ := h0
  have hb := h.bx
  have MD := Lib.hid (made_yes hb)
  have H := Lib.hid hb
  obtain ⟨D, hown, hF⟩ := id h.chg
  have OWN := Lib.hid hown
  have HF := Lib.hid hF
  have HT := Lib.hid h
  have HG := Lib.hid hG
  have HSS := Lib.hid SS
  have hsz : Maps.size D ≤ N := hown.size_le
  clear h hb hown hF hG SS
  go_enter Try.func20, Try.ntmps20
  go_wp2_with (first
    | (go_at_call 33; (with_reducible refine (MD.out).mono ?_); rintro e w1 ⟨rfl, k1⟩; obtain ⟨c0, c1, c2⟩ := bx3 (H.out.since k1))
    | (at_range; refine wpList_range_own _ rfl _ 60 rfl 3 70 keyI Try.underlying60 unitElem mc N D rfl (ownsMap_at OWN.out (k1.block _ OWN.out.lt)) ?_; intro w2 hrg2 hg2 hs2))
  go_frame
  obtain ⟨r, hr⟩ : ∃ r, r = w1.heap.size := ⟨_, rfl⟩
  rw [← hr] at hrg2 hs2 ⊢
  have hrw : w.heap.size ≤ r := by rw [hr]; exact k1.size
  have HRG2 := Lib.hid hrg2
  have S2 := Lib.hid (show Since w w2 from k1.grown hg2 k1.size fun k hk => by cases hk)
  clear hrg2 hg2 hs2 hr c0 c1 c2
  go_loopw [3] (fun s wr => ∃ (left : Lit → Bool) (cnt j : Nat) (A : Option Addr) (c : Nat) (xs : List Int), s = .slice A j c ∧ j + cnt ≤ N ∧ Hid (xs.length = j) ∧ Hid (wr.ranges Try.prog 3 unitElem mc r N D left cnt) ∧ Hid (Coll D left xs) ∧ Hid (Rq 3 (QI w) w wr (.slice A j c) xs)) (fun _ wr => wr.rangeLeft mc r)
  case atStart => exact ⟨_, _, 0, none, 0, [], rfl, by omega, rfl, HRG2.out, Coll.start D, Rq.nil _ _ S2.out⟩
  case round =>
    obtain ⟨left, cnt, j, A, c, xs, rfl, hj, HL, HRG, HCO, HR⟩ := hrel
    have bxr := H.out.since HR.out.s
    obtain ⟨c0, c1, c2⟩ := bx3 bxr
    clear bxr
    go_wp2_with (at_next; refine wpList_next_ranges _ rfl _ rfl 3 keyI unitElem (fun x : Int => Value.int .i64 x) (fun _ : Unit => Value.agg #[]) key_form unit_form mc r N D _ _ rfl HRG.out ?_ ?_)
    · intro _ hl0
      have MC := Lib.hid HRG.out.owns
      have hl9 : xs.length ≤ 1000000 := by have := HL.out; omega
      have ROW := Lib.hid (fun (wc : World) (ht : wr.mapTurned wc mc) => show wc.ownsRow w.heap.size 3 1 (.slice A j c) xs.length (xs.map (Value.int .i64)) from by
        obtain ⟨cs1, q1, q2, q3⟩ := HR.out
        have e := rws_ints q2
        subst e
        exact own_at q1 (Nat.le_refl _) fun g hg => ht.grown.block g (own_lt q1 hg) fun e => own_map q1 MC.out hg (by injection e))
      go_wp2_with (first
        | (refine wpList_clear _ rfl _ 60 rfl 3 70 Try.underlying60 unitElem mc N D rfl MC.out ?_; intro wc hc ht)
        | (go_at_call 38; (with_reducible refine (HSS.out w.heap.size wc (.slice A j c) xs (ROW.out wc ht) hl9).mono ?_); rintro e w5 ⟨rfl, ys, hp, hs, hrow, hg5⟩))
      go_ret
      have T : Turn G w w5 := (((Turn.of HR.out.s G).grown ht.grown fun b' hb _ => by injection hb with hb; subst hb; exact HT.out.gM mc (by simp))).grown hg5 fun b' hb hl => by
        have := (ROW.out wc ht).lt b' hb; omega
      have e := HCO.out.told hl0 HF.out hp hs
      subst e
      have hlen : (told 0 s.F).length = xs.length := hp.length_eq
      refine ⟨_, rfl, ?_, ⟨vD, vL, mc, ms, cs, HT.out.cleared T (fun k hk hne => ?_) ?_⟩, T⟩
      · refine Sl.veil (Q := QI) (Q' := QI) (fun _ _ h => h) (Sl.own hrow (ints_rws _ _) hlen.symm) fun b' hb hl => ?_
        exact off_new HG.out (Since.refl w) (hrow.lt b' hb).1
      · rw [hg5.block k (by have h1 := HR.out.s.size; have h2 := ht.grown.size; omega) (fun e => by have := (ROW.out wc ht).lt k e.symm; omega), ht.grown.block k (by have h1 := HR.out.s.size; omega) (fun e => hne (by injection e)), HR.out.s.block k hk]
      · exact ownsMap_at hc (hg5.block mc hc.lt fun e => own_map (ROW.out wc ht) hc e.symm rfl)
    · intro x kl yd yp w3 cnt3 hkey hlk hv hat hrg3 hlt hg3 hs3 hen
      obtain rfl := key_lit hkey
      have ne3 := row_ne_iter HR.out.choose_spec.1 HRG.out
      have R3 := Lib.hid (show Rq 3 (QI w) w w3 (.slice A j c) xs from by
        obtain ⟨cs1, q1, q2, q3⟩ := HR.out
        exact ⟨cs1, q1.kept hg3 (.inr fun e => row_ne_iter q1 HRG.out e.symm), q2, q3.grown hg3 q3.size fun k hk => by injection hk with hk; omega⟩)
      have hl9 : xs.length ≤ 1000000 := by have := HL.out; omega
      have RG3 := Lib.hid hrg3
      have CO3 := Lib.hid (HCO.out.step hlk hat)
      have HLT := Lib.hid hlt
      clear hkey hlk hv hat hrg3 hg3 hs3 ne3
      go_wp2_with (at_builtin; refine wpList_appW kI (R3.out.since (since_alloc _ _)) hl9 x (.int .i64 x) rfl rfl w3.heap.size 1 ((Bx.fresh w3 _ _).cell 0) (by rfl) _ _ rfl rfl rfl ?_; intro A3 c3 w4 h4 q4)
      obtain ⟨cs3, o3, -, -⟩ := id R3.out
      have rg4 := (RG3.out.alloc (.cells #[.int .i64 x] 3)).kept q4.1 (fun e => own_map o3 RG3.out.owns e.symm rfl) (row_ne_iter o3 RG3.out)
      go_roundw
      case rel => exact ⟨_, cnt3, j + 1, A3, c3, xs ++ [x], by rw [HL.out], by omega, Lib.hid (by rw [List.length_append, HL.out]; rfl), rg4, CO3.out, (by rw [HL.out] at h4; exact h4)⟩
      case measure => rw [rg4.left_eq, HRG.out.left_eq]; exact HLT.out
end
end Go.Proofs.Ytnojfeffmbdpmaa.Tr
