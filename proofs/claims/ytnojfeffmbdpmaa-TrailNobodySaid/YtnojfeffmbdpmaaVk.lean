/- Layer 10 (trail): clear of a map; what Pop leaves. -/
import Derived.Test.YtnojfeffmbdpmaaVj
namespace Go.Proofs.Ytnojfeffmbdpmaa.Tr
open Go.RowKit
set_option linter.unusedVariables false
set_option linter.unusedSimpArgs false
open Go.Proofs.Ytnojfeffmbdpmaa.Dig Go.Proofs.Ytnojfeffmbdpmaa.Lx Go.Proofs.Ytnojfeffmbdpmaa.Tk Go.Proofs.Ytnojfeffmbdpmaa.Ti Go.Proofs.Ytnojfeffmbdpmaa.Zs
open Go.Maps (Keyed keyOf_int_mk)

/-- clear(m) -/
theorem ownsMap_clear {H : Type} {P : Program} {k : TypeId} {R : Value → Option (DataW H × List MemPlace)} {w : World} {b n : Nat} {D : DataW H} (h : w.ownsMap P k R b n D) {t e : TypeId} (ht : P.underlying t = some (.map k e)) (ty : TypeId) :
    ∃ w', (Builtin.clear_ #[t] ty #[.map (some b)]).run P w = .ok (.tuple #[]) w' ∧ w'.ownsMap P k R b n (.map []) ∧ w.mapTurned w' b := by
  obtain ⟨es, clock, hb, F, hs, rfl⟩ := h
  refine ⟨ChangeMaps.setBlock w b (.map #[] clock), ?_, ⟨#[], clock, ?_, ⟨by simp, MapKept.stamped_empty clock, by simp⟩, Nat.zero_le _, rfl⟩, ⟨es, clock, #[], clock, hb, rfl⟩⟩
  · simp [Builtin.clear_, run_underlying ht, MapKept.run_getObj_map hb, MapKept.run_setObj_map _ hb, Result.andThen, ChangeMaps.setBlock]
  · exact ChangeMaps.heap_setBlock_same hb _
theorem wpList_clear {H : Type} {P : Program} (w : World) {ops : Array Oper} {rest : List Oper} {o : Oper} {a : Act} {Q : Exit → Act → World → Prop} (hg : o.guard = none) (m : Operand) (t : TypeId) (hop : o.op = Op.call { callee := Callee.builtin Builtin.clear, args := #[m], argTypes := #[t] })
    (k e : TypeId) (ht : P.underlying t = some (.map k e)) (R : Value → Option (DataW H × List MemPlace)) (b n : Nat) (D : DataW H) (hm : a.eval m = .map (some b)) (hown : w.ownsMap P k R b n D)
    (hK : ∀ w', w'.ownsMap P k R b n (.map []) → w.mapTurned w' b → wpList P ops Q rest (a.put o.dst (.tuple #[])) w') :
    wpList P ops Q (o :: rest) a w := by
  refine wpList_plain hg fun K' hK' => ?_
  obtain ⟨w', hrun, r1, r2⟩ := ownsMap_clear hown ht o.type
  unfold Oper.wp
  simp [execOp, hop, resolve, invoke, builtin, hm, hrun, Result.andThen]
  exact hK' _ _ (hK w' r1 r2)
theorem own_init {w : World} {base : Nat} {e : TypeId} {g L c : Nat} {xs : List Value} (h : w.ownsRow base e 1 (.slice (some ⟨g, 0, none⟩) (L + 1) c) (L + 1) xs) : w.ownsRow base e 1 (.slice (some ⟨g, 0, none⟩) L c) L (xs.take L) := by
  have hl := h.1
  rcases h.2 with ⟨h1, -⟩ | ⟨a, cap, cur, h1, h2, h3, h4, h5, h6, h7⟩
  · cases h1
  · injection h1 with e1 e2 e3
    injection e1 with e1
    injection e1 with e1
    subst e1 e3
    refine ⟨by simp; omega, .inr ⟨g, c, cur, rfl, h2, h3, by omega, h5, h6, ?_⟩⟩
    rw [← h7, List.take_take]
    congr 1
    omega
theorem popD_none {s : Sto} (h : s.W = []) : popD s = (s, 11) := by unfold popD; rw [h]; rfl
theorem popD_some' {s : Sto} {d : Ds} {ws : List Ds} (h : s.W.reverse = d :: ws) : popD s = (⟨d, s.W.dropLast, List.replicate d.length false⟩, 0) ∧ s.W.dropLast.reverse = ws ∧ s.W.length = ws.length + 1 ∧ d ∈ s.W ∧ ∀ x ∈ s.W.dropLast, x ∈ s.W := by
  have e : s.W = ws.reverse ++ [d] := by
    have := congrArg List.reverse h
    simpa using this
  refine ⟨?_, ?_, ?_, ?_, ?_⟩
  · unfold popD; rw [e]; simp
  · rw [e]; simp
  · rw [e]; simp
  · rw [e]; simp
  · intro x hx; exact List.dropLast_subset _ hx
/-- the row of domains while a level is taken back -/
def valAt (D : DataW Value) (i : Nat) : Value := match D.atKey (ik i) .nil with | .held v => v | _ => undef
def Back (cs cr : List Value) (D : DataW Value) (left : Lit → Bool) : Prop := cr.length = cs.length ∧ ∀ i : Nat, i < cs.length → cr[i]? = if (Maps.has D (ik i) && !left (ik i)) = true then some (valAt D i) else cs[i]?
theorem Back.start (cs : List Value) (D : DataW Value) : Back cs cs D (Maps.has D) := ⟨rfl, fun i hi => by cases Maps.has D (ik i) <;> simp⟩
theorem Back.step {cs cr : List Value} {D : DataW Value} {left : Lit → Bool} (h : Back cs cr D left) {k : Nat} (hk : k < cs.length) {v : Value} (hv : ∀ z, D.atKey (ik k) z = .held v) : Back cs (cr.set k v) D (fun z => left z && !z.sameKey (ik k)) := by
  refine ⟨by simp; exact h.1, fun i hi => ?_⟩
  by_cases e : k = i
  · subst e
    have hh : Maps.has D (ik k) = true := Maps.has_true_of_atKey hv
    rw [List.getElem?_set]
    simp only [if_true]
    rw [if_pos (by rw [h.1]; exact hk)]
    have e2 : valAt D k = v := by unfold valAt; rw [hv]
    have e3 := WideAt.sameKey_self (ik_key k)
    simp only [hh, e3, e2, Bool.not_true, Bool.and_false, Bool.not_false, Bool.and_self, if_true]
  · have e3 : (ik i).sameKey (ik k) = false := Maps.sameKey_ne (fun e2 => e (ik_inj e2).symm)
    rw [List.getElem?_set_ne e, h.2 i hi]
    simp only [e3, Bool.not_false, Bool.and_true]
theorem Back.doms {G : Nat → Bool} {N n m : Nat} {w w' : World} {cs cr : List Value} {D : DataW Value} {left : Lit → Bool} {f : Kp} {cur : Ds} (h : Back cs cr D left) (hl : ∀ kl, left kl = false) (hcs : Doms (veil G w) cur cs) (hn : cur.length = n) (hc : cs.length = n)
    (hat : ∀ k, k < n → Maps.has D (ik k) = (f k).isSome ∧ ∀ d, f k = some d → ∃ v, (∀ z, D.atKey (ik k) z = .held v) ∧ Sl 2 QR (veil G w) v d) (k : Since (veil G w) w') : Doms w' (restore cur f) cr := fun i d hd => by
  rw [restore_at] at hd
  have hi : i < cur.length := by
    apply Decidable.byContradiction; intro hne
    rw [List.getElem?_eq_none (by omega)] at hd; cases hd
  have hb := h.2 i (by omega)
  rw [hl, (hat i (by omega)).1] at hb
  cases hf : f i with
  | some d2 =>
    obtain ⟨v, h1, h2⟩ := (hat i (by omega)).2 d2 hf
    rw [hf] at hb hd
    have e : valAt D i = v := by unfold valAt; rw [h1]
    simp only [Option.isSome_some, Bool.not_false, Bool.and_self, if_true, e] at hb
    rw [List.getElem?_eq_getElem hi] at hd
    simp at hd
    subst hd
    exact ⟨v, hb, h2.since stR k⟩
  | none =>
    rw [hf] at hb hd
    simp at hb hd
    obtain ⟨v, h1, h2⟩ := hcs i d hd
    exact ⟨v, hb.trans h1, h2.since stR k⟩
theorem Ok.pop {s : Sto} (h : Ok s) {d : Ds} {ws : List Ds} (hw : s.W.reverse = d :: ws) : Ok ⟨d, s.W.dropLast, List.replicate d.length false⟩ := by
  obtain ⟨-, h1, h2, h3, h4⟩ := popD_some' hw
  obtain ⟨h5, h6⟩ := h.W d h3
  refine ⟨h6, by show d.length ≤ 64; rw [h5]; exact h.n, fun ds hds => ?_, by simp, ?_⟩
  · obtain ⟨h7, h8⟩ := h.W ds (h4 ds hds)
    exact ⟨by rw [h7]; exact h5.symm, h8⟩
  · have := h.lv
    show s.W.dropLast.length ≤ 512
    rw [List.length_dropLast]; omega
theorem pop_end {G : Nat → Bool} {N L gL cL : Nat} {w wr wc : World} {b m : Nat} {s : Sto} {vD : Value} {mc : Nat} {ms0 : List Nat} {cs cr : List Value} (h : Trl G N (fun _ => True) w b s vD (.slice (some ⟨gL, 0, none⟩) (L + 1) cL) mc (ms0 ++ [m]) cs) (hL : ms0.length = L)
    {d : Ds} {ws : List Ds} (hws : s.W.reverse = d :: ws) (T : Turn G w wr) (hsame : ∀ k, k < w.heap.size → vD.ownBlock ≠ some k → wr.heap[k]? = w.heap[k]?) (hrow : wr.ownsRow 0 33 1 vD s.D.length cr) (hdom : Doms (veil G wr) d cr)
    (hc : wc.ownsMap Try.prog 3 unitElem mc N (.map [] : DataW Value)) (ht : ((wr.setCell ⟨gL, L, none⟩ (.map none)).setCell ⟨b, 1, none⟩ (.slice (some ⟨gL, 0, none⟩) L cL)).mapTurned wc mc) :
    TrailAt G N wc b ⟨d, s.W.dropLast, List.replicate d.length false⟩ ∧ Turn G w wc := by
  obtain ⟨wa, hwa⟩ : ∃ wa, wa = wr.setCell ⟨gL, L, none⟩ (.map none) := ⟨_, rfl⟩
  obtain ⟨wb, hwb⟩ : ∃ wb, wb = wa.setCell ⟨b, 1, none⟩ (.slice (some ⟨gL, 0, none⟩) L cL) := ⟨_, rfl⟩
  rw [← hwa, ← hwb] at ht
  have gg : G gL = true := h.gL gL rfl
  have gm : G mc = true := h.gM mc (by simp)
  have Ta : Turn G wr wa := by rw [hwa]; exact (Turn.refl G wr).set (fun _ => gg) _
  have Tb : Turn G wr wb := by rw [hwb]; exact Ta.set (fun _ => h.gb) _
  have hg := ht.grown
  have Tc : Turn G wr wc := Tb.grown hg fun b' hb _ => by injection hb with hb; subst hb; exact gm
  have V : Since (veil G wr) (veil G wc) := Tc.veil fun _ _ => rfl
  have TT := T.trans Tc
  have VV : Since (veil G w) (veil G wc) := TT.veil fun _ _ => rfl
  obtain ⟨DC, hDC, -⟩ := id h.chg
  have hlv := h.lvs
  rw [hws] at hlv
  simp only [List.reverse_append, List.reverse_cons, List.reverse_nil, List.nil_append, List.cons_append] at hlv
  obtain ⟨⟨f, hf1, hf2, -⟩, htail⟩ := hlv
  have hdl : d.length = s.D.length := by rw [← hf2, restore_len]
  have zb : wb.heap.size = wr.heap.size := by rw [hwb, hwa]; simp [World.setCell]
  have hbL : gL ≠ b := own_bx h.rowL h.bx (by decide) rfl
  have hbc : b ≠ mc := bx_map h.bx hDC
  have hLc : gL ≠ mc := own_map h.rowL hDC rfl
  have far : ∀ k, k < wr.heap.size → k ≠ gL → k ≠ b → k ≠ mc → wc.heap[k]? = wr.heap[k]? := fun k hk h1 h2 h3 => by
    rw [hg.block k (by omega) (fun e => h3 (by injection e)), hwb, Below.heap_setCell _ _ _ _ (by simpa using h2), hwa, Below.heap_setCell _ _ _ _ (by simpa using h1)]
  have bw : b < w.heap.size := h.bx.lt
  have Lw : gL < w.heap.size := own_lt h.rowL rfl
  have sz := T.size
  have rowr : wr.ownsRow 0 71 1 (.slice (some ⟨gL, 0, none⟩) (L + 1) cL) (ms0 ++ [m]).length ((ms0 ++ [m]).map fun m => Value.map (some m)) :=
    own_at h.rowL (Nat.le_refl _) fun g hg => hsame g (own_lt h.rowL hg) fun e => own_ne h.rowD h.rowL (by decide) e hg rfl
  rw [show (ms0 ++ [m]).length = L + 1 by simp [hL]] at rowr
  have rowa := (rowr.stored L (.map none)).1
  rw [← hwa] at rowa
  have rowi := own_init rowa
  rw [List.take_set_of_le (Nat.le_refl _), List.map_append, List.take_left' (by simp [hL])] at rowi
  have bxr : Bx wr b #[vD, .slice (some ⟨gL, 0, none⟩) (L + 1) cL, .map (some mc)] 62 := by
    have := h.bx
    unfold Bx at *
    rw [hsame b bw fun e => own_bx h.rowD h.bx (by decide) e rfl]; exact this
  have bxb : Bx wb b #[vD, .slice (some ⟨gL, 0, none⟩) L cL, .map (some mc)] 62 := by
    rw [hwb]
    exact bxset (by rw [hwa]; exact bxr.other (b' := gL) (Ne.symm hbL) L _) 1 _ rfl
  obtain ⟨-, hwd, -, -, -⟩ := popD_some' hws
  refine ⟨⟨vD, .slice (some ⟨gL, 0, none⟩) L cL, mc, ms0, cr, ?_⟩, TT⟩
  refine ⟨?_, ?_, hdom.since V, ?_, ?_, ⟨.map [], hc, fun kl => ⟨fun h => by simp [Maps.has] at h, fun ⟨k, h1, _⟩ => ?_⟩⟩, ?_, h.gb, h.gD, fun g hg => h.gL g hg, fun m' hm => h.gM m' (by
    rcases List.mem_cons.1 hm with rfl | hm
    · simp
    · simp [hm]), h.ok.pop hws⟩
  · have := bxb
    unfold Bx at *
    rw [hg.block b (by omega) fun e => hbc (by injection e)]; exact this
  · show wc.ownsRow 0 _ 1 vD d.length cr
    rw [hdl]
    exact own_at hrow (Nat.le_refl _) fun g hg => far g (own_lt hrow hg) (fun e => own_ne hrow rowr (by decide) hg rfl e) (fun e => own_bx hrow bxr (by decide) hg e) (fun e => own_map h.rowD hDC hg e)
  · rw [show ms0.length = L from hL]
    refine own_at rowi (Nat.le_refl _) fun g hg2 => ?_
    have e : gL = g := by simpa [Value.ownBlock] using hg2
    subst e
    rw [hg.block gL (by omega) fun e => hLc (by injection e), hwb, Below.heap_setCell _ _ _ _ (by simpa using hbL)]
  · show Lvs G N d.length wc _ d s.W.dropLast.reverse ms0.reverse
    rw [hwd, hdl]
    refine htail.keep (Nat.le_refl _) VV (fun _ h => h) fun m' hm' => ?_
    obtain ⟨f2, hf2'⟩ := htail.map m' hm'
    obtain ⟨D2, hD2, -⟩ := id hf2'
    rw [far m' (by have := hD2.lt; omega) (fun e => own_map h.rowL hD2 rfl e.symm) (fun e => bx_map h.bx hD2 e.symm) (fun e => ?_), hsame m' hD2.lt fun e => own_map h.rowD hD2 e rfl]
    have := (List.nodup_cons.1 h.nod).1
    exact this (by rw [← e]; simp at hm'; simp [hm'])
  · rw [List.getElem?_replicate] at h1
    split at h1 <;> simp at h1
  · have h1 := h.nod
    rw [← List.cons_append, List.nodup_append] at h1
    exact h1.1
section
open Go.RowKit
set_option linter.unusedVariables false
set_option linter.unusedSimpArgs false
open Go.Proofs.Ytnojfeffmbdpmaa.Dig Go.Proofs.Ytnojfeffmbdpmaa.Lx Go.Proofs.Ytnojfeffmbdpmaa.Tk Go.Proofs.Ytnojfeffmbdpmaa.Ti Go.Proofs.Ytnojfeffmbdpmaa.Zs
open Go.Maps (Keyed keyOf_int_mk)

/-- a slice's three parts -/
structure SlV where
  A : Option Addr
  n : Nat
  c : Nat
def SlV.v (s : SlV) : Value := .slice s.A s.n s.c
theorem heldR_form (v : Value) (y : DataW Value × List MemPlace) (h : heldR v = some y) : ∃ c : SlV, v = c.v := by
  obtain ⟨-, A, n, c, rfl⟩ := heldR_inv h
  exact ⟨⟨A, n, c⟩, rfl⟩
theorem key_form (key : Value) (kl : Lit) (h : keyOf Try.prog 3 key = some kl) : ∃ x : Int, key = .int .i64 x := by
  obtain ⟨x, h1, -, -⟩ := Maps.keyOf_int_inv Try.underlying3 h
  exact ⟨x, h1⟩
theorem key_lit {x : Int} {kl : Lit} (h : keyOf Try.prog 3 (.int .i64 x) = some kl) : kl = .int .i64 x := by
  obtain ⟨y, h1, h2, -⟩ := Maps.keyOf_int_inv Try.underlying3 h
  injection h1 with _ h1
  rw [h2, h1]
set_option maxRecDepth 20000 in
set_option maxHeartbeats 4000000 in
theorem tpop_any {G : Nat → Bool} {N : Nat} {w : World} {b : Nat} {s : Sto} (h0 : TrailAt G N w b s) (hG : ∀ k, G k = true → k < w.heap.size) :
    Calls Try.prog 17 #[.pointer (some ⟨b, 0, none⟩)] w fun e w' => e = .returned (.int .i64 (popD s).2) ∧ TrailAt G N w' b (popD s).1 ∧ Turn G w w' := by
  have UP0 := Lib.hid (fun (W : World) (k : Since w W) => show TrailAt G N W b s ∧ Turn G w W from ⟨h0.since k, .of k G⟩)
  obtain ⟨vD, vL, mc, ms, cs, h⟩ := h0
  obtain ⟨AL, cL, rfl⟩ := owns_slice h.rowL
  rcases List.eq_nil_or_concat ms with rfl | ⟨ms0, m, rfl⟩
  · have hw : s.W = [] := by have := Lvs.nil h.lvs; simpa using this
    rw [popD_none hw]
    have hb := h.bx
    rw [show ([] : List Nat).length = 0 from rfl] at hb
    have MD := Lib.hid (made_yes hb)
    have H := Lib.hid hb
    clear h hb hw hG
    go_enter Try.func17, Try.ntmps17
    go_wp2_with (go_at_call 33; (with_reducible refine (MD.out).mono ?_); rintro e w1 ⟨rfl, k1⟩; obtain ⟨c0, c1, c2⟩ := bx3 (H.out.since k1))
    go_ret
    exact ⟨rfl, UP0.out _ k1⟩
  · rw [List.concat_eq_append] at *
    obtain ⟨L, hL⟩ : ∃ L, L = ms0.length := ⟨_, rfl⟩
    have hl1 : (ms0 ++ [m]).length = L + 1 := by rw [hL]; simp
    obtain ⟨gL, rfl⟩ : ∃ gL, AL = some ⟨gL, 0, none⟩ := by
      rcases h.rowL.2 with ⟨e, e2⟩ | ⟨g, cap, cur, e, -⟩
      · omega
      · injection e with e1; exact ⟨g, e1⟩
    have hcap : L + 1 ≤ cL := by
      rcases h.rowL.2 with ⟨e, e2⟩ | ⟨g, cap, cur, e, h1, h2, h3, h4⟩
      · omega
      · injection e with e1 e2 e3; omega
    have c3 := h.rowL.cellAt L (by omega)
    rw [show ((ms0 ++ [m]).map fun m => Value.map (some m))[L]? = some (Value.map (some m)) by rw [hL]; simp] at c3
    rw [hl1] at h
    have hL5 : L ≤ 512 := by
      have h1 := h.lvs.len
      have h2 := h.ok.lv
      simp only [List.length_reverse] at h1
      omega
    obtain ⟨d, ws, hws⟩ : ∃ d ws, s.W.reverse = d :: ws := by
      cases hw : s.W.reverse with
      | nil =>
        have h1 := h.lvs.len
        rw [hw] at h1; simp at h1
      | cons d ws => exact ⟨d, ws, rfl⟩
    rw [(popD_some' hws).1]
    have hlv := h.lvs
    rw [hws] at hlv
    simp only [List.reverse_append, List.reverse_cons, List.reverse_nil, List.nil_append, List.cons_append] at hlv
    obtain ⟨⟨f, hf1, hf2, -⟩, -⟩ := hlv
    obtain ⟨D, hown, hkeys, hat⟩ := id hf1
    obtain ⟨AD, cD, rfl⟩ := owns_slice h.rowD
    obtain ⟨n, hn⟩ : ∃ n, n = s.D.length := ⟨_, rfl⟩
    have hb := h.bx
    rw [← hn] at hb
    have MD := Lib.hid (made_yes hb)
    have H := Lib.hid hb
    have OWN := Lib.hid hown
    have KEYS := Lib.hid hkeys
    have HAT := Lib.hid hat
    have HF := Lib.hid hf2
    have HT := Lib.hid h
    have HL := Lib.hid hL
    have HN := Lib.hid hn
    have HWS := Lib.hid hws
    have HG := Lib.hid hG
    have C3 := Lib.hid (fun W (kk : Since w W) => (kk.cell _ (World.block_lt_of_cell? _ _ c3)).trans c3)
    have z2 : ((L + 1 : Nat) : Int) - 1 = (L : Int) := by omega
    have ROW := Lib.hid (show w.ownsRow 0 33 1 (.slice AD n cD) n cs by rw [hn]; exact h.rowD)
    clear h hown hkeys hat hf1 hf2 hb hL hl1 hn hws hG UP0 c3
    go_enter Try.func17, Try.ntmps17
    go_wp2_with (first
      | (go_at_call 33; (with_reducible refine (MD.out).mono ?_); rintro e w1 ⟨rfl, k1⟩; obtain ⟨c0, c1, c2⟩ := bx3 (H.out.since k1); have c3 := C3.out _ k1)
      | (at_range; refine wpList_range_own _ rfl _ 71 rfl 3 33 keyI Try.underlying71 heldR m N D rfl (ownsMap_at OWN.out (k1.block _ OWN.out.lt)) ?_; intro w2 hrg2 hg2 hs2))
    go_frame
    obtain ⟨r, hr⟩ : ∃ r, r = w1.heap.size := ⟨_, rfl⟩
    rw [← hr] at hrg2 hs2 ⊢
    have hrw : w.heap.size ≤ r := by rw [hr]; exact k1.size
    have HRG2 := Lib.hid hrg2
    have T2 := Lib.hid (show Turn G w w2 from (Turn.of k1 G).grown hg2 fun b hb => by cases hb)
    have S2 := Lib.hid (show Since w w2 from k1.grown hg2 k1.size fun k hk => by cases hk)
    clear hrg2 hg2 hs2 hr c0 c1 c2 c3
    go_loopw [5] (fun _ wr => ∃ (left : Lit → Bool) (cnt : Nat) (cr : List Value), Hid (wr.ranges Try.prog 3 heldR m r N D left cnt) ∧ Hid (Back cs cr D left) ∧ Hid (wr.ownsRow 0 33 1 (.slice AD n cD) n cr) ∧ Hid (Turn G w wr) ∧ Hid (∀ k, k < w.heap.size → (Value.slice AD n cD).ownBlock ≠ some k → wr.heap[k]? = w.heap[k]?)) (fun _ wr => wr.rangeLeft m r)
    case atStart => exact ⟨_, _, cs, HRG2.out, Back.start cs D, owns_since ROW.out S2.out, T2.out, fun k hk _ => S2.out.block k hk⟩
    case round =>
      obtain ⟨left, cnt, cr, HRG, HBK, HRW, HTU, HS⟩ := hrel
      have bxr : Bx wr b #[.slice AD n cD, .slice (some ⟨gL, 0, none⟩) (L + 1) cL, .map (some mc)] 62 := by
        have h1 := H.out
        have hblt := h1.lt
        unfold Bx at h1 ⊢
        rw [HS.out b hblt fun e => own_bx ROW.out H.out (by decide) e rfl]; exact h1
      obtain ⟨c0, c1, c2⟩ := bx3 bxr
      have BXR := Lib.hid bxr
      clear bxr
      go_wp2_with (at_next; refine wpList_next_ranges _ rfl _ rfl 3 keyI heldR (fun x : Int => Value.int .i64 x) SlV.v key_form heldR_form m r N D _ _ rfl HRG.out ?_ ?_)
      · intro _ hl0
        have rowr : wr.ownsRow 0 71 1 (.slice (some ⟨gL, 0, none⟩) (L + 1) cL) (L + 1) ((ms0 ++ [m]).map fun m => Value.map (some m)) := by
          have h1 := HT.out.rowL
          rw [show (ms0 ++ [m]).length = L + 1 by rw [HL.out]; simp] at h1
          exact own_at h1 (Nat.le_refl _) fun g hg => HS.out g (own_lt h1 hg) fun e => own_ne ROW.out h1 (by decide) e hg rfl
        have l0 : wr.cell? ⟨gL, L, none⟩ = some (.map (some m)) := by
          have h1 := rowr.cellAt L (by omega)
          rw [show ((ms0 ++ [m]).map fun m => Value.map (some m))[L]? = some (Value.map (some m)) by rw [HL.out]; simp] at h1
          exact h1
        have l1 := rowr.frozenAt L
        have hbL : gL ≠ b := own_bx HT.out.rowL H.out (by decide) rfl
        have bxa : Bx (wr.setCell ⟨gL, L, none⟩ (.map none)) b #[.slice AD n cD, .slice (some ⟨gL, 0, none⟩) (L + 1) cL, .map (some mc)] 62 := BXR.out.other (b' := gL) (Ne.symm hbL) L _
        obtain ⟨a0, a1, a2⟩ := bx3 bxa
        obtain ⟨p0, p1, p2⟩ := bx3' bxa
        obtain ⟨b0, b1, b2⟩ := bx3 (bxset bxa 1 (.slice (some ⟨gL, 0, none⟩) L cL) rfl)
        obtain ⟨DC, hDC, -⟩ := id HT.out.chg
        have hMC : wr.ownsMap Try.prog 3 unitElem mc N DC := ownsMap_at hDC (HS.out mc hDC.lt fun e => own_map ROW.out hDC e rfl)
        have MC := Lib.hid ((hMC.setCell (a := ⟨gL, L, none⟩) (fun e => own_map HT.out.rowL hDC rfl e.symm) (.map none)).setCell (a := ⟨b, 1, none⟩) (fun e => bx_map H.out hDC e.symm) (.slice (some ⟨gL, 0, none⟩) L cL))
        clear rowr bxa hMC hDC
        go_wp2_with (refine wpList_clear _ rfl _ 60 rfl 3 70 Try.underlying60 unitElem mc N DC rfl MC.out ?_; intro wc hc ht)
        go_ret
        have e := HN.out
        subst e
        have hdom : Doms (veil G wr) d cr := by
          rw [← HF.out]
          exact HBK.out.doms (N := 0) (m := 0) hl0 HT.out.domD rfl (by have := HT.out.rowD.1; omega) HAT.out (HTU.out.veil fun _ _ => rfl)
        obtain ⟨t1, t2⟩ := pop_end HT.out HL.out.symm HWS.out HTU.out HS.out HRW.out hdom hc ht
        exact ⟨rfl, t1, t2⟩
      · intro x c kl yd yp w3 cnt3 hkey hlk hv hat hrg3 hlt hg3 hs3 hen
        obtain ⟨Ac, nc, cc⟩ := c
        obtain rfl := key_lit hkey
        obtain ⟨k, hk, e⟩ := KEYS.out _ (Maps.has_true_of_atKey hat)
        obtain rfl : x = (k : Int) := by injection e
        have hvv : ∀ z, D.atKey (ik k) z = .held (.slice Ac nc cc) := fun z => (hat z).trans (heldR_inv hv).1
        have hkn : k < n := by have := HN.out; omega
        obtain ⟨gD, rfl⟩ : ∃ g, AD = some ⟨g, 0, none⟩ := by
          rcases ROW.out.2 with ⟨e, e2⟩ | ⟨g, cap, cur, e, -⟩
          · omega
          · injection e with e1; exact ⟨g, e1⟩
        have gDw : gD < w.heap.size := own_lt ROW.out rfl
        have bw := H.out.lt
        have bx3w : Bx w3 b #[.slice (some ⟨gD, 0, none⟩) n cD, .slice (some ⟨gL, 0, none⟩) (L + 1) cL, .map (some mc)] 62 := by
          have h1 := BXR.out
          have h2 := h1.lt
          unfold Bx at *
          rw [hg3.block b h2 fun e => by injection e with e; omega]; exact h1
        obtain ⟨d0, d1, d2⟩ := bx3 bx3w
        have row3 : w3.ownsRow 0 33 1 (.slice (some ⟨gD, 0, none⟩) n cD) n cr := own_at HRW.out (Nat.le_refl _) fun g hg => hg3.block g (own_lt HRW.out hg) fun e => by
          injection e with e
          have : gD = g := by simpa [Value.ownBlock] using hg
          omega
        have q0 := row3.frozenAt k
        have q1 : ∃ u, w3.cell? ⟨gD, k, none⟩ = some u := by
          have h1 := row3.cellAt k (by omega)
          have h2 := row3.1
          rw [List.getElem?_eq_getElem (by omega)] at h1
          exact ⟨_, h1⟩
        obtain ⟨u0, q1⟩ := q1
        have st3 := Lib.hid (row3.stored k (.slice Ac nc cc))
        have RG3 := Lib.hid hrg3
        have HG3 := Lib.hid hg3
        have HVV := Lib.hid hvv
        have HLT := Lib.hid hlt
        clear hkey hlk hv hat hrg3 hlt hg3 hs3 e hvv row3 bx3w
        simp only [SlV.v] at hen ⊢
        go_wp2
        have rg4 := RG3.out.kept st3.out.2 (fun e => by injection e with e; exact own_map ROW.out OWN.out rfl e.symm) (fun e => by injection e with e; omega)
        go_roundw
        case rel =>
          have T4 : Turn G w (w3.setCell ⟨gD, k, none⟩ (.slice Ac nc cc)) := (HTU.out.grown HG3.out fun b' hb hl => by injection hb with hb; omega).set (fun _ => HT.out.gD gD rfl) _
          have hcl : k < cs.length := by have h1 := ROW.out.1; omega
          refine ⟨_, cnt3, cr.set k (.slice Ac nc cc), rg4, HBK.out.step hcl HVV.out, st3.out.1, T4, fun j hj hne => ?_⟩
          have hj2 : j ≠ gD := fun e => hne (by rw [e]; rfl)
          rw [Below.heap_setCell _ _ _ _ (by simpa using hj2), HG3.out.block j (by have := HTU.out.size; omega) fun e => by injection e with e; omega]
          exact HS.out j hj hne
        case measure => rw [rg4.left_eq, HRG.out.left_eq]; exact HLT.out
end
end Go.Proofs.Ytnojfeffmbdpmaa.Tr
