/- Layer 10 (trail): the landed New. -/
import Derived.Test.YtnojfeffmbdpmaaVd
import Derived.Test.YtnojfeffmbdpmaaE0
namespace Go.Proofs.Ytnojfeffmbdpmaa.Tr
open Go.RowKit
set_option linter.unusedVariables false
set_option linter.unusedSimpArgs false
open Go.Proofs.Ytnojfeffmbdpmaa.Dig Go.Proofs.Ytnojfeffmbdpmaa.Lx Go.Proofs.Ytnojfeffmbdpmaa.Tk Go.Proofs.Ytnojfeffmbdpmaa.Ti Go.Proofs.Ytnojfeffmbdpmaa.Zs

theorem newD_ok {ds : Ds} (h : rightD ds = true) : Ok (newD ds) := by
  rw [rightD, Bool.and_eq_true, List.all_eq_true, decide_eq_true_eq] at h
  refine ⟨fun d hd => ?_, h.2, (fun ds hw => by cases hw), by simp [newD], Nat.zero_le _⟩
  have := h.1 d hd
  rw [Bool.and_eq_true] at this
  exact ⟨this.1, fun e => by subst e; simp at this, right_len this.1⟩
theorem rws_doms {w1 : World} {R : Value} {w W : World} (hQ : ∀ v d, Sl 2 QR w v d → (∀ b, v.ownBlock = some b → w1.heap.size ≤ b ∧ b < w.heap.size ∧ R.ownBlock ≠ some b ∧ ∀ j, w.frozen? ⟨b, j, none⟩ = false) → Sl 2 QR W v d) {ds : Ds} {cs : List Value} (h : Rws 1 (NewD w1 R w) ds cs) : Doms W ds cs := fun i d hd => by
  obtain ⟨u, ⟨v, rfl, h2, h3⟩, h4, h5⟩ := h.get i d hd
  exact ⟨v, by simpa using h5 0 v rfl, hQ v d h2 h3⟩
/-- the landed store's own blocks, when it is made -/
def gNew (b : Nat) (vD : Value) (mc : Nat) : Nat → Bool := fun k => k == b || k == mc || vD.ownBlock == some k
theorem rws_mem {α : Type} {Q : α → List Value → Prop} {xs : List α} {cs : List Value} (h : Rws 1 Q xs cs) : ∀ u ∈ cs, ∃ x, Q x [u] := by
  induction h with
  | nil => intro u hu; cases hu
  | @snoc xs cs x0 u0 h k l ih =>
    intro u hu
    rcases List.mem_append.1 hu with hu | hu
    · exact ih u hu
    · match u0, l, hu, k with
      | [a], _, hu, k =>
        have : u = a := by simpa using hu
        subst this
        exact ⟨x0, k⟩
theorem since_veil {G : Nat → Bool} {w w' : World} (h : Since w w') (hG : ∀ k, k < w.heap.size → G k = false) : Since w (veil G w') :=
  ⟨h.os, h.tape, h.output, by rw [veil_size]; exact h.size, fun k hk => by rw [veil_off w' (hG k hk)]; exact h.block k hk⟩
theorem new_end {w w1 w2 : World} {A2 : Option Addr} {c2 : Nat} {ds : Ds} {cs2 : List Value} (K : Since w w1) (k2 : Since w1 w2) (ho : w2.ownsRow w1.heap.size 33 1 (.slice A2 ds.length c2) ds.length cs2)
    (hr : Rws 1 (NewD w1 (.slice A2 ds.length c2) w2) ds cs2) (hok : rightD ds = true) :
    ∃ b G, (Ending.returned (.pointer (some ⟨w2.heap.size + 1, 0, none⟩)) = .returned (.pointer (some ⟨b, 0, none⟩))) ∧ (∃ vD vL mc cs, Trl G 0 (fun _ => True) ((w2.alloc (.map #[] 0)).alloc (.cells #[.slice A2 ds.length c2, .slice none 0 0, .map (some w2.heap.size)] 62)) b (newD ds) vD vL mc [] cs ∧ ∀ u ∈ cs, ∀ g, u.ownBlock = some g → w.heap.size ≤ g) ∧
      Since w (veil G ((w2.alloc (.map #[] 0)).alloc (.cells #[.slice A2 ds.length c2, .slice none 0 0, .map (some w2.heap.size)] 62))) ∧ Since w ((w2.alloc (.map #[] 0)).alloc (.cells #[.slice A2 ds.length c2, .slice none 0 0, .map (some w2.heap.size)] 62)) ∧
      (∀ k, G k = true → k < ((w2.alloc (.map #[] 0)).alloc (.cells #[.slice A2 ds.length c2, .slice none 0 0, .map (some w2.heap.size)] 62)).heap.size) ∧ ∀ k, k < w.heap.size → G k = false := by
  obtain ⟨w3, hw3⟩ : ∃ w3, w3 = (w2.alloc (.map #[] 0)).alloc (.cells #[.slice A2 ds.length c2, .slice none 0 0, .map (some w2.heap.size)] 62) := ⟨_, rfl⟩
  have k3 : Since w2 w3 := by rw [hw3]; exact ((Since.refl w2).alloc _).alloc _
  have k3' : Since (w2.alloc (.map #[] 0)) w3 := by rw [hw3]; exact since_alloc _ _
  have hb : Bx w3 (w2.heap.size + 1) #[.slice A2 ds.length c2, .slice none 0 0, .map (some w2.heap.size)] 62 := by rw [hw3]; exact Bx.new (Since.refl _) (by simp)
  have hz : w3.heap.size = w2.heap.size + 2 := by rw [hw3]; simp
  rw [← hw3]
  have lt : ∀ g, (Value.slice A2 ds.length c2).ownBlock = some g → w1.heap.size ≤ g ∧ g < w2.heap.size := fun g hg => ho.lt g hg
  have kz := K.size
  have kz2 := k2.size
  refine ⟨_, gNew (w2.heap.size + 1) (.slice A2 ds.length c2) w2.heap.size, rfl, ⟨.slice A2 ds.length c2, .slice none 0 0, w2.heap.size, cs2, ?_, fun u hu g hg => by obtain ⟨x, v, e, h1, h2⟩ := rws_mem hr u hu; injection e with e _; subst e; exact Nat.le_trans kz (h2 g hg).1⟩, ?_, (K.trans k2).trans k3, ?_, fun k hk => ?_⟩
  · refine ⟨hb, own_at (owns_since ho k3) (Nat.zero_le _) (fun _ _ => rfl), rws_doms (fun v d h2 h3 => sl_veil (h2.since stR k3) fun b hb _ => ?_) hr, World.ownsRow_nil _ _ _ _, trivial, ?_, by simp, by simp [gNew], fun g hg => by simp only [gNew, hg]; simp, fun g hg => by simp [Value.ownBlock] at hg, fun m hm => ?_, newD_ok hok⟩
    · obtain ⟨q1, q2, q3, -⟩ := h3 b hb
      simp only [gNew, Bool.or_eq_false_iff, beq_eq_false_iff_ne]
      exact ⟨⟨by omega, by omega⟩, q3⟩
    · refine SetAt.keep (SetAt.made 0 w2 ds.length) (Nat.le_refl _) ?_
      exact k3'.block _ (by simp)
    · obtain rfl : m = w2.heap.size := by simpa using hm
      simp [gNew]
  · refine since_veil ((K.trans k2).trans k3) fun k hk => ?_
    simp only [gNew, Bool.or_eq_false_iff, beq_eq_false_iff_ne]
    exact ⟨⟨by omega, by omega⟩, fun e => by have := (lt k e).1; omega⟩
  · intro k hk
    simp only [gNew, Bool.or_eq_true, beq_iff_eq] at hk
    rcases hk with (hk | hk) | hk
    · omega
    · omega
    · have := (lt k hk).2; omega
  · simp only [gNew, Bool.or_eq_false_iff, beq_eq_false_iff_ne]
    exact ⟨⟨by omega, by omega⟩, fun e => by have := (lt k e).1; omega⟩
set_option maxRecDepth 20000 in
set_option maxHeartbeats 2000000 in
theorem tnew_trl (v : Value) (ds : Ds) (w : World) (h : Sl 1 QD w v ds) (hl : ds.length ≤ 100000) (hb : BdD ds) :
    Calls Try.prog 9 #[v] w fun e w' => (rightD ds = false ∧ e = .returned (.pointer none) ∧ Since w w') ∨ (rightD ds = true ∧ ∃ b G, e = .returned (.pointer (some ⟨b, 0, none⟩)) ∧ (∃ vD vL mc cs, Trl G 0 (fun _ => True) w' b (newD ds) vD vL mc [] cs ∧ ∀ u ∈ cs, ∀ g, u.ownBlock = some g → w.heap.size ≤ g) ∧ Since w (veil G w') ∧ Since w w' ∧ (∀ k, G k = true → k < w'.heap.size) ∧ ∀ k, k < w.heap.size → G k = false) := by
  obtain ⟨A, c, rfl⟩ := h.form
  obtain ⟨n, hn⟩ : ∃ n, n = ds.length := ⟨_, rfl⟩
  have CP := Lib.hid (fun W (kk : Since w W) => copied_any _ ds W (h.since stD kk) hl (fun d hd => (hb d hd).2))
  rw [← hn] at h hl CP ⊢
  have H := Lib.hid h
  have HN := Lib.hid hn
  have HB := Lib.hid hb
  have HR : Hid (rightD ds = (ds.all (fun d => right d && !d.isEmpty) && decide (n ≤ 64))) := by unfold Hid; rw [hn]; rfl
  generalize hRR : rightD ds = R at HR ⊢
  have HRR := Lib.hid (fun (h : R = true) => show rightD ds = true from hRR.trans h)
  clear hRR
  clear h hn hb
  by_cases h64 : 64 < n
  · have HX := Lib.hid (show R = false by rw [HR.out, decide_eq_false (by omega), Bool.and_false])
    go_enter Try.func9, Try.ntmps9
    go_wp2
    go_ret
    exact .inl ⟨HX.out, rfl, Since.refl _⟩
  · have h64' : n ≤ 64 := by omega
    go_enter Try.func9, Try.ntmps9
    go_wp2
    go_loopw [10] (fun i wr => ∃ k : Nat, i = .int .i64 (k : Int) ∧ k ≤ n ∧ Hid ((ds.take k).all (fun d => right d && !d.isEmpty) = true) ∧ Hid (Since w wr)) (fun i _ => n - (intOf i).toNat)
    case atStart => exact ⟨0, rfl, Nat.zero_le _, rfl, Since.refl _⟩
    case round =>
      obtain ⟨k, rfl, hk, HE, HW⟩ := hrel
      by_cases hkn : k < n
      · have hkl : k < ds.length := by have := HN.out; omega
        obtain ⟨g, o, B, d, rfl, hS, e0⟩ := elD (H.out.since stD HW.out) hkl
        have hmem := List.getElem_mem hkl
        have hbz := HB.out ds[k] hmem
        have hst := List.take_succ_eq_append_getElem hkl
        generalize ds[k] = y at *
        obtain ⟨rb, hrb⟩ : ∃ rb, right y = rb := ⟨_, rfl⟩
        have RA := Lib.hid (right_at hS hbz.2 hbz.1 hrb)
        have ST := Lib.hid hst
        have HM := Lib.hid hmem
        obtain ⟨p, hp⟩ : ∃ p, y.length = p := ⟨_, rfl⟩
        rw [hp] at e0 RA
        have HNO := Lib.hid (fun (hh : (right y && !y.isEmpty) = false) => show R = false by
          rw [HR.out, show ds.all (fun d => right d && !d.isEmpty) = false from List.all_eq_false.2 ⟨y, HM.out, by simp [hh]⟩]; rfl)
        have HYES := Lib.hid (fun (hh : (right y && !y.isEmpty) = true) => show (ds.take (k + 1)).all (fun d => right d && !d.isEmpty) = true by
          rw [ST.out, List.all_append, HE.out]; simp [hh])
        rw [hrb] at HNO HYES
        clear hst hmem hbz hrb hS hkl
        by_cases hp0 : p = 0
        · have HE2 := Lib.hid (HNO.out (by rw [List.eq_nil_of_length_eq_zero (hp.trans hp0)]; cases rb <;> rfl))
          subst hp0
          clear HNO HYES hp
          go_wp2
          go_ret
          exact .inl ⟨HE2.out, rfl, HW.out⟩
        · have hz : ((p : Int) == 0) = false := by rw [beq_eq_false_iff_ne]; omega
          have hy : y.isEmpty = false := by cases y with | nil => exact absurd hp.symm hp0 | cons a l => rfl
          cases rb with
          | false =>
            have HE2 := Lib.hid (HNO.out rfl)
            clear HNO HYES hp hy
            go_wp2_with (go_at_call 28; (with_reducible refine (RA.out _ (Since.refl _)).mono ?_); rintro e w1 ⟨rfl, k1⟩)
            go_ret
            exact .inl ⟨HE2.out, rfl, HW.out.trans k1⟩
          | true =>
            have HE2 := Lib.hid (HYES.out (by rw [hy]; rfl))
            clear HNO HYES hp hy
            go_wp2_with (go_at_call 28; (with_reducible refine (RA.out _ (Since.refl _)).mono ?_); rintro e w1 ⟨rfl, k1⟩)
            go_roundw
            case rel => exact ⟨k + 1, by go_num, by omega, HE2.out, HW.out.trans k1⟩
            case measure => simp [intOf]; omega
      · obtain rfl : k = n := by omega
        have hall : ds.take k = ds := List.take_of_length_le (by have := HN.out; omega)
        have HX := Lib.hid (show R = true by
          have := HE.out
          rw [hall] at this
          rw [HR.out, this, decide_eq_true h64']; rfl)
        have hmm := @run_makeMap Try.prog
        clear hall
        go_wp2_with (go_at_call 31; (with_reducible refine (CP.out _ HW.out).mono ?_); rintro e w2 ⟨v, cs2, rfl, ho, hr, k2⟩; obtain ⟨A2, c2, rfl⟩ := owns_slice ho; have HO := Lib.hid ho; have HRW := Lib.hid hr; clear ho hr)
        go_ret
        have R1 := HX.out
        refine .inr ⟨R1, ?_⟩
        have e := HN.out
        subst e
        exact new_end HW.out k2 HO.out HRW.out (HRR.out R1)
theorem tnew_any (v : Value) (ds : Ds) (w : World) (h : Sl 1 QD w v ds) (hl : ds.length ≤ 100000) (hb : BdD ds) :
    Calls Try.prog 9 #[v] w fun e w' => (rightD ds = false ∧ e = .returned (.pointer none) ∧ Since w w') ∨ (rightD ds = true ∧ ∃ b G, e = .returned (.pointer (some ⟨b, 0, none⟩)) ∧ TrailAt G 0 w' b (newD ds) ∧ Since w (veil G w') ∧ Since w w' ∧ (∀ k, G k = true → k < w'.heap.size) ∧ ∀ k, k < w.heap.size → G k = false) :=
  (tnew_trl v ds w h hl hb).mono fun e w' hh => by
    rcases hh with hh | ⟨h1, b, G, h2, ⟨vD, vL, mc, cs, h3, -⟩, h4⟩
    · exact .inl hh
    · exact .inr ⟨h1, b, G, h2, ⟨vD, vL, mc, [], cs, h3⟩, h4⟩
section
open Go.RowKit
set_option linter.unusedVariables false
set_option linter.unusedSimpArgs false
open Go.Proofs.Ytnojfeffmbdpmaa.Dig Go.Proofs.Ytnojfeffmbdpmaa.Lx Go.Proofs.Ytnojfeffmbdpmaa.Tk Go.Proofs.Ytnojfeffmbdpmaa.Ti Go.Proofs.Ytnojfeffmbdpmaa.Zs
open Go.Maps (Keyed keyOf_int_mk)

theorem zeroS (w : World) : (zeroValue 33).run Try.prog w = .ok (.slice none 0 0) w := by kernel_rfl
theorem key_ik {k : Nat} (hk : k ≤ 1000000) : keyOf Try.prog 3 (.int .i64 (k : Int)) = some (ik k) := keyOf_int_mk Try.underlying3 (WalkArith.wf_i64 (by omega))
/-- the last level's map has turned, and nothing else -/
theorem Trl.mapped {G : Nat → Bool} {N : Nat} {Q : Kp → Prop} {w w' : World} {b m : Nat} {s : Sto} {vD vL : Value} {mc : Nat} {ms ms0 : List Nat} {cs : List Value} (h : Trl G N (fun _ => True) w b s vD vL mc ms cs) (hms : ms = ms0 ++ [m])
    {d : Ds} {ws : List Ds} (hws : s.W.reverse = d :: ws) {f' : Kp} (hk : w.grownBy w' (some m)) (hm : MapAt G (N + 1) s.D.length w' m f') (hr : restore s.D f' = d) (hq : Q f') : Trl G (N + 1) Q w' b s vD vL mc ms cs ∧ Turn G w w' := by
  have gm : G m = true := h.gM m (by rw [hms]; simp)
  have T : Turn G w w' := (Turn.refl G w).grown hk fun b' hb _ => by injection hb with hb; subst hb; exact gm
  have V : Since (veil G w) (veil G w') := T.veil fun _ _ => rfl
  have hlv := h.lvs
  rw [hws, hms] at hlv
  simp only [List.reverse_append, List.reverse_cons, List.reverse_nil, List.nil_append, List.cons_append] at hlv
  obtain ⟨⟨f, hf1, hf2, -⟩, htail⟩ := hlv
  obtain ⟨D0, hD0, -⟩ := id hf1
  have nod := h.nod
  rw [hms] at nod
  have hb : ∀ k, k < w.heap.size → k ≠ m → w'.heap[k]? = w.heap[k]? := fun k hk' hne => hk.block k hk' fun e => hne (by injection e)
  refine ⟨⟨?_, own_at h.rowD (Nat.le_refl _) fun g hg => hb g (own_lt h.rowD hg) (own_map h.rowD hD0 hg), h.domD.since V, own_at h.rowL (Nat.le_refl _) fun g hg => hb g (own_lt h.rowL hg) (own_map h.rowL hD0 hg), ?_, ?_, h.nod, h.gb, h.gD, h.gL, h.gM, h.ok⟩, T⟩
  · have := h.bx
    unfold Bx at *
    rw [hb b h.bx.lt (bx_map h.bx hD0)]; exact this
  · rw [hws, hms]
    simp only [List.reverse_append, List.reverse_cons, List.reverse_nil, List.nil_append, List.cons_append]
    refine ⟨⟨f', hm, hr, hq⟩, htail.keep (Nat.le_succ _) V (fun _ h => h) fun m' hm' => ?_⟩
    obtain ⟨f2, hf2⟩ := htail.map m' hm'
    refine hb m' hf2.lt fun e => ?_
    subst e
    have hm2 : m' ∈ ms0 := by simpa using hm'
    have := (List.nodup_cons.1 nod).2
    rw [List.nodup_append] at this
    exact this.2.2 m' hm2 m' (by simp) rfl
  · refine h.chg.keep (Nat.le_succ _) (hb mc h.chg.lt fun e => ?_)
    have := (List.nodup_cons.1 nod).1
    exact this (by rw [e]; simp)
theorem Lvs.nil {G : Nat → Bool} {N n : Nat} {w : World} {P : Kp → Prop} {cur : Ds} {ws : List Ds} (h : Lvs G N n w P cur ws []) : ws = [] := by
  cases ws with
  | nil => rfl
  | cons d ws => exact h.elim
set_option maxRecDepth 20000 in
set_option maxHeartbeats 2000000 in
theorem keep_any {G : Nat → Bool} {N : Nat} {w : World} {b : Nat} {s : Sto} {vD vL : Value} {mc : Nat} {ms : List Nat} {cs : List Value} (h : Trl G N (fun _ => True) w b s vD vL mc ms cs) (hN : N < 1000000) {k : Nat} (hk : k < s.D.length) :
    Calls Try.prog 36 #[.pointer (some ⟨b, 0, none⟩), .int .i64 (k : Int)] w fun e w' => e = .returned (.tuple #[]) ∧ Trl G (N + 1) (fun f => (f k).isSome = true) w' b s vD vL mc ms cs ∧ Turn G w w' := by
  obtain ⟨c0, c1, c2⟩ := bx3 h.bx
  have hk64 : k ≤ 1000000 := by have := h.ok.n; omega
  obtain ⟨AL, cL, rfl⟩ := owns_slice h.rowL
  rcases List.eq_nil_or_concat ms with rfl | ⟨ms0, m, rfl⟩
  · have E := Lib.hid (show Trl G (N + 1) (fun f => (f k).isSome = true) w b s vD (.slice AL ([] : List Nat).length cL) mc [] cs from by
      have hw := Lvs.nil h.lvs
      refine ⟨h.bx, h.rowD, h.domD, h.rowL, ?_, h.chg.keep (Nat.le_succ _) rfl, h.nod, h.gb, h.gD, h.gL, h.gM, h.ok⟩
      rw [hw]; trivial)
    have hz : ([] : List Nat).length = 0 := rfl
    rw [hz] at c1
    clear h
    go_enter Try.func36, Try.ntmps36
    go_wp2
    refine bodyPost_ret (results_none rfl _ _ _) rfl ?_
    exact ⟨rfl, E.out, Turn.refl _ _⟩
  · rw [List.concat_eq_append] at *
    obtain ⟨L, hL⟩ : ∃ L, L = ms0.length := ⟨_, rfl⟩
    have hl1 : (ms0 ++ [m]).length = L + 1 := by rw [hL]; simp
    obtain ⟨gL, rfl⟩ : ∃ gL, AL = some ⟨gL, 0, none⟩ := by
      rcases h.rowL.2 with ⟨e, e2⟩ | ⟨g, cap, cur, e, -⟩
      · omega
      · injection e with e1; exact ⟨g, e1⟩
    have c3 := h.rowL.cellAt L (by omega)
    rw [show ((ms0 ++ [m]).map fun m => Value.map (some m))[L]? = some (Value.map (some m)) by rw [hL]; simp] at c3
    have hL5 : L ≤ 512 := by
      have h1 := h.lvs.len
      have h2 := h.ok.lv
      simp only [List.length_reverse] at h1
      omega
    obtain ⟨d, ws, hws⟩ : ∃ d ws, s.W.reverse = d :: ws := by
      cases hw : s.W.reverse with
      | nil =>
        have h1 := h.lvs.len
        rw [hw] at h1; simp at h1
      | cons d ws => exact ⟨d, ws, rfl⟩
    have hlv := h.lvs
    rw [hws] at hlv
    simp only [List.reverse_append, List.reverse_cons, List.reverse_nil, List.nil_append, List.cons_append] at hlv
    obtain ⟨⟨f, hf1, hf2, -⟩, -⟩ := hlv
    obtain ⟨D, hown, hkeys, hat⟩ := id hf1
    have hhas := (hat k hk).1
    have hwk := key_ik hk64
    have hown2 := Lib.hid hown
    obtain ⟨AD, cD, rfl⟩ := owns_slice h.rowD
    obtain ⟨gD, o, B, p, rfl, hS, e1⟩ := elD h.sl hk
    have o0 : o = 0 := by
      rcases h.rowD.2 with ⟨e, e2⟩ | ⟨g, cap, cur, e, -⟩
      · omega
      · injection e with e1; injection e1 with e1; injection e1 with _ e3
    subst o0
    have hyk : s.D[k]? = some s.D[k] := List.getElem?_eq_getElem hk
    generalize s.D[k] = y at *
    obtain ⟨vk, hvk1, hvk2⟩ := h.domD k y hyk
    have hvk3 : vk = .slice B y.length p := by
      have h1 := h.rowD.cellAt k (by omega)
      rw [hvk1] at h1
      rw [show (⟨gD, 0 + k, none⟩ : Addr) = ⟨gD, k, none⟩ by rw [Nat.zero_add]] at e1
      rw [h1] at e1
      exact Option.some.inj e1
    subst hvk3
    rw [hl1] at c1
    rw [Nat.zero_add] at e1
    have z2 : ((L + 1 : Nat) : Int) - 1 = (L : Int) := by omega
    have z3 : (((L + 1 : Nat) : Int) == 0) = false := by rw [beq_eq_false_iff_ne]; omega
    obtain ⟨n, hn⟩ : ∃ n, n = s.D.length := ⟨_, rfl⟩
    rw [← hn] at c0
    have hkn : k < n := by omega
    obtain ⟨q, hq⟩ : ∃ q, q = y.length := ⟨_, rfl⟩
    rw [← hq] at e1 hvk2
    have H := Lib.hid h
    have HV := Lib.hid hvk2
    have HF := Lib.hid hf2
    have HWS := Lib.hid hws
    have HK := Lib.hid hk
    have HY := Lib.hid hyk
    have HM := Lib.hid hf1
    have HKY := Lib.hid hwk
    by_cases hf : (f k).isSome = true
    · have hyes : Maps.has D (ik k) = true := hhas.trans hf
      have YES := Lib.hid hf
      clear h hf1 hf2 hkeys hat hhas hown hS hvk1 hvk2 hws hq hn hf hL hl1 hk hwk hyk
      go_enter Try.func36, Try.ntmps36
      go_wp2
      go_region
      go_wp2_with (at_lookup; refine wpList_lookup_own_ok _ rfl _ _ 71 rfl 3 33 keyI Try.underlying71 heldR (zeroS _) (.held (.slice none 0 0)) [] rfl m N D rfl hown2.out _ (ik k) rfl HKY.out ?_; intro v ps hv; obtain ⟨-, A9, n9, c9, rfl⟩ := heldR_inv hv; clear hv)
      go_end0
      obtain ⟨h1, h2⟩ := H.out.mapped (w' := w.drew) rfl HWS.out ⟨rfl, rfl, rfl, Nat.le_refl _, fun _ _ _ => rfl⟩ (HM.out.keep (Nat.le_succ _) rfl (Since.veil (Since.drew (Since.refl w)) G)) HF.out (Q := fun f => (f k).isSome = true) YES.out
      exact ⟨rfl, h1, h2⟩
    · have hfn : f k = none := by cases hq : f k with | none => rfl | some x => rw [hq] at hf; exact absurd rfl hf
      have hyes : Maps.has D (ik k) = false := hhas.trans (by rw [hfn]; rfl)
      have NO := Lib.hid hfn
      clear h hf1 hf2 hkeys hat hhas hown hS hvk1 hvk2 hws hq hn hf hL hl1 hk hwk hyk hfn
      go_enter Try.func36, Try.ntmps36
      go_wp2
      go_region
      go_wp2_with (first
        | (at_lookup; refine wpList_lookup_own_ok _ rfl _ _ 71 rfl 3 33 keyI Try.underlying71 heldR (zeroS _) (.held (.slice none 0 0)) [] rfl m N D rfl hown2.out _ (ik k) rfl HKY.out ?_; intro v ps hv; obtain ⟨-, A9, n9, c9, rfl⟩ := heldR_inv hv; clear hv)
        | (at_mapUpdate; refine wpList_mapUpdate_own _ rfl _ _ _ 71 rfl 3 33 keyI Try.underlying71 heldR m N D rfl hown2.out (by unfold maxLen; omega) _ _ (ik k) rfl rfl HKY.out (.held (.slice B q p)) [] rfl ?_; intro w3 ho3 hg3; have HO3 := Lib.hid ho3; have HG3 := Lib.hid hg3; clear ho3 hg3))
      go_end0
      have hg : w.grownBy w3 (some m) := ⟨HG3.out.os, HG3.out.tape, HG3.out.output, HG3.out.size, HG3.out.block⟩
      have gm : G m = true := H.out.gM m (by simp)
      have V : Since (veil G w) (veil G w3) := ((Turn.refl G w).grown hg fun b' hb _ => by injection hb with hb; subst hb; exact gm).veil fun _ _ => rfl
      obtain ⟨h1, h2⟩ := H.out.mapped rfl HWS.out hg (HM.out.put V HK.out hown2.out HO3.out (HV.out.since stR V)) ((restore_keep HY.out NO.out).trans HF.out) (Q := fun f => (f k).isSome = true) (by simp)
      rw [show (ms0 ++ [m]).length = ms0.length + 1 by simp] at h1
      exact ⟨rfl, h1, h2⟩
end
end Go.Proofs.Ytnojfeffmbdpmaa.Tr
