/- Layer 10 (trail): the landed Push. -/
import Derived.Test.YtnojfeffmbdpmaaVh
namespace Go.Proofs.Ytnojfeffmbdpmaa.Tr
open Go.RowKit
set_option linter.unusedVariables false
set_option linter.unusedSimpArgs false
open Go.Proofs.Ytnojfeffmbdpmaa.Dig Go.Proofs.Ytnojfeffmbdpmaa.Lx Go.Proofs.Ytnojfeffmbdpmaa.Tk Go.Proofs.Ytnojfeffmbdpmaa.Ti Go.Proofs.Ytnojfeffmbdpmaa.Zs
open Go.Maps (Keyed keyOf_int_mk)

theorem info_map : (Try.prog.info? 71).map (fun i => (i.zero, i.size, i.bytes)) = some (some (.map none), 1, 8) := by kernel_rfl
theorem kM : Kind1 Try.prog 59 71 := kind1 Try.underlying59 info_map (by decide) rfl
/-- how an act that turns the store ends: it may have more blocks of its own -/
def RetAct (G : Nat → Bool) (N : Nat) (b : Nat) (s : Sto) (w : World) (w' : World) : Prop := ∃ G', TrailAt G' N w' b s ∧ (Turn G w w' ∧ ∀ k, k < w.heap.size → G' k = G k) ∧ ∀ k, G' k = true → k < w'.heap.size
/-- an append of a map to the levels -/
theorem wpList_appM {w : World} {v : Value} {ms : List Nat} (H : w.ownsRow 0 71 1 v ms.length (ms.map fun m => Value.map (some m))) (hl : ms.length ≤ 1000000) (m : Nat) (g d : Nat) (hb : w.cell? ⟨g, 0, none⟩ = some (.map (some m)))
    {ops : Array Oper} {rest : List Oper} {o : Oper} {a : Act} {R : Exit → Act → World → Prop} (hw : Region.wanted o (yielded ops a.tmps) = true) (s z : Operand)
    (ho : o.op = .call { callee := .builtin .append, args := #[s, z], argTypes := #[59, 59] }) (hs : a.eval s = v) (hx : a.eval z = .slice (some ⟨g, 0, none⟩) 1 d)
    (h : ∀ A c w', w'.ownsRow 0 71 1 (.slice A (ms.length + 1) c) (ms ++ [m]).length ((ms ++ [m]).map fun m => Value.map (some m)) → Wide v (.slice A (ms.length + 1) c) w w' → wpList Try.prog ops R rest (a.put o.dst (.slice A (ms.length + 1) c)) w') : wpList Try.prog ops R (o :: rest) a w := by
  refine BigFrame.wpList_want hw fun K hK => ?_
  obtain ⟨i, zv, bytes, hi, hz0, hz1, hz2, hz3, hz4⟩ := kM.inf
  have hmul : (ms.length + 1) * bytes ≤ (ms.length + 1) * 24 := Nat.mul_le_mul_left _ hz3
  refine wp_append_at w s z _ ho 0 71 i zv 1 bytes kM.ht hi hz0 hz1 hz2 hz4 (by decide) v ms.length _ hs H ⟨g, 0, none⟩ 1 d [.map (some m)] hx rfl ?_ ?_ ?_ ?_ (Nat.zero_le _) fun v' w' h2 h3 h4 => ?_
  · intro j u hj
    rw [add_at, Nat.zero_add]
    match j, hj with
    | 0, hj => cases hj; exact hb
    | j + 1, hj => simp at hj
  · intro u hu; simp at hu; subst hu; rfl
  · unfold maxLen; omega
  · omega
  · obtain ⟨A, c', rfl⟩ := owns_slice h2
    refine hK _ _ (h A c' w' ?_ ⟨h3, h4⟩)
    rw [List.length_append, List.map_append]; exact h2
theorem pushD_no {s : Sto} (h : 512 ≤ s.W.length) : pushD s = (s, 3) := by rw [pushD, if_pos h]
theorem pushD_yes {s : Sto} (h : ¬ 512 ≤ s.W.length) : pushD s = (⟨s.D, s.W ++ [s.D], s.F⟩, 0) := by rw [pushD, if_neg h]
theorem restore_none (cur : Ds) : restore cur (fun _ => none) = cur := by
  apply List.ext_getElem?
  intro i
  rw [restore_at]
  cases cur[i]? <;> rfl
theorem push_end {G : Nat → Bool} {N : Nat} {w w3 : World} {b : Nat} {s : Sto} {vD vL : Value} {mc : Nat} {ms : List Nat} {cs : List Value} (h : Trl G N (fun _ => True) w b s vD vL mc ms cs) (hG : ∀ k, G k = true → k < w.heap.size) (hlv : ¬ 512 ≤ s.W.length)
    {w2 : World} (hw2 : w2 = (w.alloc (.map #[] 0)).alloc (.cells #[.map (some w.heap.size)] 71)) {A : Option Addr} {c : Nat} (ho : w3.ownsRow 0 71 1 (.slice A (ms.length + 1) c) (ms ++ [w.heap.size]).length ((ms ++ [w.heap.size]).map fun m => Value.map (some m)))
    (hw : Wide vL (.slice A (ms.length + 1) c) w2 w3) : RetAct G N b ⟨s.D, s.W ++ [s.D], s.F⟩ w (w3.setCell ⟨b, 1, none⟩ (.slice A (ms.length + 1) c)) := by
  obtain ⟨w4, hw4⟩ : ∃ w4, w4 = w3.setCell ⟨b, 1, none⟩ (.slice A (ms.length + 1) c) := ⟨_, rfl⟩
  rw [← hw4]
  have S2 : Since w w2 := by rw [hw2]; exact ((Since.refl w).alloc _).alloc _
  have z2 : w2.heap.size = w.heap.size + 2 := by rw [hw2]; simp
  have z4 : w4.heap.size = w3.heap.size := by rw [hw4]; simp [World.setCell]
  have z3 := hw.1.size
  have T3 : Turn G w w3 := (Turn.of S2 G).grown hw.1 fun g hg _ => h.gL g hg
  have T : Turn G w w4 := by rw [hw4]; exact T3.set (fun _ => h.gb) _
  have hG4 : ∀ k, k < w.heap.size → (G k || (decide (w.heap.size ≤ k) && decide (k < w4.heap.size))) = G k := fun k hk => by
    rw [decide_eq_false (by omega)]; simp
  have V : Since (veil G w) (veil (fun k => G k || (decide (w.heap.size ≤ k) && decide (k < w4.heap.size))) w4) := T.veil hG4
  have hbL : ∀ g, vL.ownBlock = some g → g ≠ b := fun g hg => own_bx h.rowL h.bx (by decide) hg
  have hblt := h.bx.lt
  have same : ∀ k, k < w.heap.size → k ≠ b → vL.ownBlock ≠ some k → w4.heap[k]? = w.heap[k]? := fun k hk h1 h2 => by
    rw [hw4, Below.heap_setCell _ _ _ _ (by simpa using h1), hw.1.block k (by omega) (fun e => h2 e.symm), S2.block k hk]
  have hb3 : Bx w3 b #[vD, vL, .map (some mc)] 62 := by
    have h1 := h.bx.since S2
    unfold Bx at *
    rw [hw.1.block b (by omega) (fun e => hbL b e.symm rfl)]; exact h1
  have newG : ∀ k, w.heap.size ≤ k → k < w4.heap.size → (G k || (decide (w.heap.size ≤ k) && decide (k < w4.heap.size))) = true := fun k h1 h2 => by
    rw [decide_eq_true h1, decide_eq_true h2]; simp
  have oldG : ∀ k, G k = true → (G k || (decide (w.heap.size ≤ k) && decide (k < w4.heap.size))) = true := fun k h1 => by rw [h1]; rfl
  have hmm : w4.heap[w.heap.size]? = some (.map #[] 0) := by
    have h1 : w2.heap[w.heap.size]? = some (.map #[] 0) := by rw [hw2]; exact ((since_alloc (w.alloc (.map #[] 0)) _).block _ (by simp)).trans (MapKept.heap_alloc w _).1
    rw [hw4, Below.heap_setCell _ _ _ _ (by show w.heap.size ≠ b; omega), hw.1.block _ (by omega) (fun e => by
      have := own_lt h.rowL e.symm; omega)]
    exact h1
  have mlt : ∀ m ∈ mc :: ms, m < w.heap.size := fun m hm => by
    rcases List.mem_cons.1 hm with rfl | hm2
    · exact h.chg.lt
    · obtain ⟨f, hf⟩ := h.lvs.map m (by simpa using hm2)
      exact hf.lt
  refine ⟨_, ⟨vD, .slice A (ms.length + 1) c, mc, ms ++ [w.heap.size], cs, ?_⟩, ⟨T, hG4⟩, fun k hk => ?_⟩
  · refine ⟨by rw [hw4]; exact bxset hb3 1 _ rfl, own_at h.rowD (Nat.le_refl _) fun g hg => same g (own_lt h.rowD hg) (own_bx h.rowD h.bx (by decide) hg) (fun e => own_ne h.rowD h.rowL (by decide) hg e rfl), h.domD.since V, own_at ho (Nat.le_refl _) fun g hg => ?_, ?_, ?_, ?_, oldG b h.gb, fun g hg => oldG g (h.gD g hg), fun g hg => ?_, fun m hm => ?_, ?_⟩
    · rw [hw4]
      refine Below.heap_setCell _ _ _ _ ?_
      rcases hw.2 with e | e
      · exact hbL g (e ▸ hg)
      · rw [hg] at e; injection e with e; show g ≠ b; omega
    · simp only [List.reverse_append, List.reverse_cons, List.reverse_nil, List.nil_append, List.cons_append]
      refine ⟨⟨fun _ => none, ⟨.map [], ownsMap_at ((World.ownsMap_made w _ _ _).mono (Nat.zero_le _)) (hmm.trans (MapKept.heap_alloc w _).1.symm), fun kl h => by simp [Maps.has] at h, fun k hk => ⟨rfl, fun d hd => by cases hd⟩⟩, restore_none _, trivial⟩, h.lvs.keep (Nat.le_refl _) V (fun _ _ => trivial) fun m hm => ?_⟩
      obtain ⟨f, D0, hD0, -⟩ := h.lvs.map m hm
      exact same m hD0.lt (fun e => bx_map h.bx hD0 e.symm) (fun e => own_map h.rowL hD0 e rfl)
    · obtain ⟨D0, hD0, -⟩ := id h.chg
      exact h.chg.keep (Nat.le_refl _) (same mc hD0.lt (fun e => bx_map h.bx hD0 e.symm) (fun e => own_map h.rowL hD0 e rfl))
    · have h1 := h.nod
      rw [← List.cons_append, List.nodup_append]
      refine ⟨h1, by simp, fun a ha c hc => ?_⟩
      simp at hc
      subst hc
      have := mlt a ha
      omega
    · rcases hw.2 with e | e
      · exact oldG g (h.gL g (e ▸ hg))
      · have hlt := (ho.lt g hg).2
        rw [hg] at e; injection e with e
        exact newG g (by omega) (by omega)
    · rw [← List.cons_append, List.mem_append] at hm
      rcases hm with hm | hm
      · exact oldG m (h.gM m hm)
      · simp at hm
        subst hm
        exact newG _ (Nat.le_refl _) (by omega)
    · refine ⟨h.ok.D, h.ok.n, fun ds hds => ?_, h.ok.F, by simp; omega⟩
      rcases List.mem_append.1 hds with h1 | h1
      · exact h.ok.W ds h1
      · simp at h1
        subst h1
        exact ⟨rfl, h.ok.D⟩
  · simp only [Bool.or_eq_true, Bool.and_eq_true, decide_eq_true_eq] at hk
    rcases hk with hk | ⟨-, hk⟩
    · have := hG k hk; omega
    · exact hk
set_option maxRecDepth 20000 in
set_option maxHeartbeats 2000000 in
theorem tpush_any {G : Nat → Bool} {N : Nat} {w : World} {b : Nat} {s : Sto} (h0 : TrailAt G N w b s) (hG : ∀ k, G k = true → k < w.heap.size) :
    Calls Try.prog 15 #[.pointer (some ⟨b, 0, none⟩)] w fun e w' => e = .returned (.int .i64 (pushD s).2) ∧ RetAct G N b (pushD s).1 w w' := by
  have UP0 := Lib.hid (fun (W : World) (k : Since w W) => show RetAct G N b s w W from ⟨G, h0.since k, ⟨.of k G, fun _ _ => rfl⟩, fun j hj => Nat.lt_of_lt_of_le (hG j hj) k.size⟩)
  obtain ⟨vD, vL, mc, ms, cs, h⟩ := h0
  obtain ⟨AL, cL, rfl⟩ := owns_slice h.rowL
  have hlen := h.lvs.len
  simp only [List.length_reverse] at hlen
  obtain ⟨L, hL⟩ : ∃ L, L = ms.length := ⟨_, rfl⟩
  have hb := h.bx
  rw [← hL] at hb
  have MD := Lib.hid (made_yes hb)
  have H := Lib.hid hb
  by_cases hlv : 512 ≤ s.W.length
  · rw [pushD_no hlv]
    have hL5 : 512 ≤ L := by omega
    clear h hb hlen hlv hL hG
    go_enter Try.func15, Try.ntmps15
    go_wp2_with (go_at_call 33; (with_reducible refine (MD.out).mono ?_); rintro e w1 ⟨rfl, k1⟩; obtain ⟨c0, c1, c2⟩ := bx3 (H.out.since k1))
    go_ret
    exact ⟨rfl, UP0.out _ k1⟩
  · rw [pushD_yes hlv]
    have hL5 : L < 512 := by omega
    have HT := Lib.hid h
    have HL := Lib.hid hL
    have HV := Lib.hid hlv
    have HG := Lib.hid hG
    have hmm := @run_makeMap Try.prog
    have HB3 := Lib.hid (fun (w1 w3 : World) (k1 : Since w w1) (q : ((w1.alloc (.map #[] 0)).alloc (.cells #[.map (some w1.heap.size)] 71)).grownBy w3 (Value.slice AL L cL).ownBlock) => show Bx w3 b #[vD, .slice AL L cL, .map (some mc)] 62 from by
      have h1 := (H.out.since k1).since (((Since.refl w1).alloc (.map #[] 0)).alloc (.cells #[.map (some w1.heap.size)] 71))
      have h2 := h1.lt
      unfold Bx at *
      rw [q.block b h2 (fun e => own_bx HT.out.rowL HT.out.bx (by decide) (v := .slice AL ms.length cL) (g := b) (by rw [e, HL.out]) rfl)]; exact h1)
    have RL := Lib.hid (show w.ownsRow 0 71 1 (.slice AL L cL) ms.length (ms.map fun m => Value.map (some m)) by rw [hL]; exact h.rowL)
    clear h hb hlen hlv hL hG UP0
    go_enter Try.func15, Try.ntmps15
    go_wp2_with (first
      | (go_at_call 33; (with_reducible refine (MD.out).mono ?_); rintro e w1 ⟨rfl, k1⟩; obtain ⟨c0, c1, c2⟩ := bx3 (H.out.since k1))
      | (at_builtin; refine wpList_appM (owns_since RL.out (k1.trans (((Since.refl _).alloc _).alloc _))) (by have := HL.out; omega) w1.heap.size (w1.heap.size + 1) 1 ((Bx.new (W := w1.alloc (.map #[] 0)) (Since.refl _) (by simp)).cell 0) (by rfl) _ _ rfl rfl rfl ?_; intro A3 c3 w3 h3 q3; have b3 := HB3.out w1 w3 k1 q3.1; obtain ⟨d0, d1, d2⟩ := bx3 b3; obtain ⟨f0, f1, f2⟩ := bx3' b3))
    go_ret
    have q4 := q3
    rw [HL.out] at q4
    obtain ⟨G', t1, t2, t3⟩ := push_end (HT.out.since k1) (fun k hk => Nat.lt_of_lt_of_le (HG.out k hk) k1.size) HV.out rfl h3 q4
    exact ⟨rfl, G', t1, ⟨(Turn.of k1 G).trans t2.1, fun k hk => t2.2 k (Nat.lt_of_lt_of_le hk k1.size)⟩, t3⟩
end Go.Proofs.Ytnojfeffmbdpmaa.Tr
