/- Texts and numbers of layer 3, back and forth. No code is spoken of. -/
import Derived.Test.YtmnankcllblgjaaDoorNt
namespace Go.Proofs.YtmnankcllblgjaaDoor.Tx
open Go.RowKit
set_option linter.unusedVariables false
open Go.Proofs.YtmnankcllblgjaaDoor.Dig
open Go.Proofs.YtmnankcllblgjaaDoor.Ref02 (parseD textD)
open Go.Proofs.YtmnankcllblgjaaDoor.Ref03 (parseZ textZ srightB sright_right)

theorem digs_self {xs : List Nat} (hd : IsDig xs) (h : rightB xs = true) : digs (num xs) = xs := digs_num hd (right_norm h).2
/-- a text that is read gives the text again -/
theorem text_parse {bs : List UInt8} {ds : List Nat} (h : parseD bs = (ds, 0)) : textD ds = (bs, 0) ∧ ds.length ≤ 256 := by
  unfold Ref02.parseD at h
  split at h
  · simp at h
  · rename_i h1
    split at h
    · simp at h
    · rename_i h2
      split at h
      · simp at h
      · have ha : allDec bs = true := by simpa using h2
        unfold fitD at h
        split at h
        · rename_i h4
          have e : ds = digs (undec bs) := by injection h with h _; exact h.symm
          subst e
          have hr : rightB (digs (undec bs)) = true := right_of h4 (norm_digs _)
          refine ⟨?_, h4⟩
          unfold Ref02.textD
          rw [if_pos hr, num_digs]
          congr 1
          unfold text
          split
          · rename_i h5
            by_cases hh : (bs.getD 0 0).toNat = 48
            · have hlen : bs.length = 1 := by omega
              match bs, hlen with
              | [b], _ =>
                simp at hh
                have : b = 48 := by
                  apply UInt8.toNat_inj.mp; simpa using hh
                rw [this]
            · have h6 := decs_undec ha (.inr hh)
              rw [h5, decs_zero] at h6
              exfalso; apply h1; left; rw [← h6]; rfl
          · rename_i h5
            by_cases hh : (bs.getD 0 0).toNat = 48
            · have hlen : bs.length = 1 := by omega
              match bs, hlen with
              | [b], _ =>
                simp at hh
                exfalso; apply h5
                simp [undec, hh]
            · exact decs_undec ha (.inr hh)
        · simp at h
/-- a number that is told gives the number again -/
theorem parse_text {xs : List Nat} (hd : IsDig xs) (hr : rightB xs = true) (hl : xs.length ≤ 40) : ∃ s : ByteArray, textD xs = (s.data.toList, 0) ∧ parseD s.data.toList = (xs, 0) ∧ s.size ≤ 400 := by
  refine ⟨⟨(text (num xs)).toArray⟩, ?_, ?_, ?_⟩
  · unfold Ref02.textD; rw [if_pos hr]
  · have hself := digs_self hd hr
    have hlen := decs_num_len hd
    show parseD (text (num xs)).toArray.toList = (xs, 0)
    rw [List.toList_toArray]
    by_cases h0 : num xs = 0
    · have e : xs = [] := by rw [h0, digs_zero] at hself; exact hself.symm
      subst e
      decide
    · unfold text
      rw [if_neg h0]
      unfold Ref02.parseD
      rw [if_neg (by
        rintro (h | ⟨_, h⟩)
        · exact decs_ne h0 h
        · exact head_decs h0 h), if_neg (by rw [allDec_decs]; simp), if_neg (by omega), undec_decs, fitD, hself, if_pos (right_norm hr).1]
  · have hlen := decs_num_len hd
    show (text (num xs)).toArray.size ≤ 400
    rw [List.size_toArray]
    unfold text
    split
    · simp
    · omega
theorem textZ_parseZ {bs : List UInt8} {n : Bool} {ds : List Nat} (h : parseZ bs = ((n, ds), 0)) : textZ n ds = (bs, 0) ∧ srightB n ds = true ∧ ds.length ≤ 256 := by
  have key : ∀ {cs : List UInt8} {es : List Nat}, parseD cs = (es, 0) → text (num es) = cs ∧ rightB es = true := by
    intro cs es hp
    have h1 := (text_parse hp).1
    unfold Ref02.textD at h1
    split at h1
    · rename_i hr; injection h1 with h1 _; exact ⟨h1, hr⟩
    · simp at h1
  unfold Ref03.parseZ at h
  split at h
  · rename_i h0
    split at h
    · rename_i h1
      split at h
      · simp at h
      · rename_i h2
        injection h with h _
        injection h with hn hds
        subst hn
        have hp : parseD (bs.drop 1) = (ds, 0) := Prod.ext hds h1
        obtain ⟨e1, e2⟩ := key hp
        have hl : ds.length ≠ 0 := by rw [← hds]; exact h2
        have hr : srightB true ds = true := by simp [srightB, e2]; intro h; exact hl (by rw [h]; rfl)
        refine ⟨?_, hr, (right_norm e2).1⟩
        unfold Ref03.textZ
        rw [if_pos hr, if_pos rfl, e1]
        congr 1
        obtain ⟨g1, g2⟩ := h0
        cases bs with
        | nil => simp at g1
        | cons b t =>
          simp at g2 ⊢
          exact (UInt8.toNat_inj.1 g2).symm
    · rename_i h1; injection h with _ h; exact absurd h h1
  · injection h with h h1
    injection h with hn hds
    subst hn
    have hp : parseD bs = (ds, 0) := Prod.ext hds h1
    obtain ⟨e1, e2⟩ := key hp
    have hr : srightB false ds = true := by simp [srightB, e2]
    refine ⟨?_, hr, (right_norm e2).1⟩
    unfold Ref03.textZ
    rw [if_pos hr, if_neg (by simp), e1]
theorem parseZ_textZ {n : Bool} {xs : List Nat} (hd : IsDig xs) (hr : srightB n xs = true) (hl : xs.length ≤ 40) : ∃ t : List UInt8, textZ n xs = (t, 0) ∧ parseZ t = ((n, xs), 0) ∧ t.length ≤ 401 := by
  obtain ⟨s, h1, h2, h3⟩ := parse_text hd (sright_right hr) hl
  have hs : s.data.toList.length = s.size := Array.length_toList
  have e : text (num xs) = s.data.toList := by
    unfold Ref02.textD at h1
    rw [if_pos (sright_right hr)] at h1
    injection h1
  cases n
  · refine ⟨text (num xs), ?_, ?_, by rw [e]; omega⟩
    · unfold Ref03.textZ; rw [if_pos hr, if_neg (by simp)]
    · rw [e]
      unfold Ref03.parseZ
      rw [if_neg, h2]
      rintro ⟨g1, g2⟩
      have hp := h2
      unfold Ref02.parseD at hp
      split at hp
      · simp at hp
      · split at hp
        · simp at hp
        · rename_i g3
          have ha : allDec s.data.toList = true := by simpa using g3
          unfold allDec at ha
          cases hb : s.data.toList with
          | nil => rw [hb] at g1; simp at g1
          | cons b t =>
            rw [hb] at ha g2
            simp at ha g2
            omega
  · have hne : xs.length ≠ 0 := by
      intro h0
      have : xs = [] := List.eq_nil_of_length_eq_zero h0
      subst this; simp [srightB] at hr
    refine ⟨45 :: text (num xs), ?_, ?_, by rw [e, List.length_cons]; omega⟩
    · unfold Ref03.textZ; rw [if_pos hr, if_pos rfl]
    · unfold Ref03.parseZ
      rw [if_pos ⟨by simp, by simp⟩]
      rw [show List.drop 1 (45 :: text (num xs)) = text (num xs) from rfl, e, h2]
      show (if (0 : Int) = 0 then (if xs.length = 0 then ((false, []), 5) else ((true, xs), 0)) else _) = _
      rw [if_pos rfl, if_neg hne]
end Go.Proofs.YtmnankcllblgjaaDoor.Tx
