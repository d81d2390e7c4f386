/- Layer 10 (trail): the landed store: what stays; made, Len, Level, has. -/
import Derived.Test.YtnojfeffmbdpmaaVa
import Derived.Test.YtnojfeffmbdpmaaVc
import Derived.Test.YtnojfeffmbdpmaaFh
import Derived.WalkSpells
import Derived.Test.YtnojfeffmbdpmaaE0
namespace Go.Proofs.Ytnojfeffmbdpmaa.Tr
open Go.RowKit
set_option linter.unusedVariables false
set_option linter.unusedSimpArgs false
open Go.Proofs.Ytnojfeffmbdpmaa.Dig Go.Proofs.Ytnojfeffmbdpmaa.Lx Go.Proofs.Ytnojfeffmbdpmaa.Tk Go.Proofs.Ytnojfeffmbdpmaa.Ti Go.Proofs.Ytnojfeffmbdpmaa.Zs
open Go.Maps (has Keyed)

theorem SetAt.lt {N : Nat} {w : World} {m : Nat} {F : List Bool} (h : SetAt N w m F) : m < w.heap.size := by
  obtain ⟨D, h1, -⟩ := h; exact h1.lt
theorem MapAt.lt {G : Nat → Bool} {N n : Nat} {w : World} {m : Nat} {f : Kp} (h : MapAt G N n w m f) : m < w.heap.size := by
  obtain ⟨D, h1, -⟩ := h; exact h1.lt
/-- nothing of the store's own has turned -/
theorem Trl.keep {G G' : Nat → Bool} {N N' : Nat} {P Q : Kp → Prop} {w w' : World} {b : Nat} {s : Sto} {vD vL : Value} {mc : Nat} {ms : List Nat} {cs : List Value} (h : Trl G N P w b s vD vL mc ms cs) (hN : N ≤ N') (hq : ∀ f, P f → Q f)
    (e : ∀ k, k < w.heap.size → G k = true → w'.heap[k]? = w.heap[k]?) (k : Since (veil G w) (veil G' w')) (hG : ∀ k, k < w.heap.size → G k = true → G' k = true) : Trl G' N' Q w' b s vD vL mc ms cs where
  bx := by have := h.bx; unfold Bx at *; rw [e b h.bx.lt h.gb]; exact this
  rowD := own_at h.rowD (Nat.le_refl _) fun g hg => e g (own_lt h.rowD hg) (h.gD g hg)
  domD := h.domD.since k
  rowL := own_at h.rowL (Nat.le_refl _) fun g hg => e g (own_lt h.rowL hg) (h.gL g hg)
  lvs := h.lvs.keep hN k hq fun m hm => by
    obtain ⟨f, hf⟩ := h.lvs.map m hm
    exact e m hf.lt (h.gM m (by simp at hm; simp [hm]))
  chg := h.chg.keep hN (e mc h.chg.lt (h.gM mc (by simp)))
  nod := h.nod
  gb := hG b h.bx.lt h.gb
  gD := fun g hg => hG g (own_lt h.rowD hg) (h.gD g hg)
  gL := fun g hg => hG g (own_lt h.rowL hg) (h.gL g hg)
  gM := fun m hm => hG m (by
    rcases List.mem_cons.1 hm with rfl | hm2
    · exact h.chg.lt
    · obtain ⟨f, hf⟩ := h.lvs.map m (by simpa using hm2)
      exact hf.lt) (h.gM m hm)
  ok := h.ok
theorem Trl.since {G : Nat → Bool} {N : Nat} {P : Kp → Prop} {w w' : World} {b : Nat} {s : Sto} {vD vL : Value} {mc : Nat} {ms : List Nat} {cs : List Value} (h : Trl G N P w b s vD vL mc ms cs) (k : Since w w') : Trl G N P w' b s vD vL mc ms cs :=
  h.keep (Nat.le_refl _) (fun _ h => h) (fun i hi _ => k.block i hi) (Since.veil k G) fun _ _ h => h
theorem Trl.up {G : Nat → Bool} {N N' : Nat} {P : Kp → Prop} {w : World} {b : Nat} {s : Sto} {vD vL : Value} {mc : Nat} {ms : List Nat} {cs : List Value} (h : Trl G N P w b s vD vL mc ms cs) (k : N ≤ N') : Trl G N' P w b s vD vL mc ms cs :=
  h.keep k (fun _ h => h) (fun i hi _ => rfl) (Since.refl _) fun _ _ h => h
theorem TrailAt.since {G : Nat → Bool} {N : Nat} {w w' : World} {b : Nat} {s : Sto} (h : TrailAt G N w b s) (k : Since w w') : TrailAt G N w' b s := by
  obtain ⟨vD, vL, mc, ms, cs, h⟩ := h
  exact ⟨vD, vL, mc, ms, cs, h.since k⟩
theorem TrailAt.up {G : Nat → Bool} {N N' : Nat} {w : World} {b : Nat} {s : Sto} (h : TrailAt G N w b s) (k : N ≤ N') : TrailAt G N' w b s := by
  obtain ⟨vD, vL, mc, ms, cs, h⟩ := h
  exact ⟨vD, vL, mc, ms, cs, h.keep k (fun _ h => h) (fun i hi _ => rfl) (Since.refl _) fun _ _ h => h⟩
theorem TrailAt.ok {G : Nat → Bool} {N : Nat} {w : World} {b : Nat} {s : Sto} (h : TrailAt G N w b s) : Ok s := by
  obtain ⟨vD, vL, mc, ms, cs, h⟩ := h; exact h.ok
/-- the row of domains, as a list of domains -/
theorem doms_sl {w w' : World} {base : Nat} {vD : Value} {ds : Ds} {cs : List Value} (h : w.ownsRow base 33 1 vD ds.length cs) (hd : Doms w' ds cs) (hQ : ∀ v d, Sl 2 QR w' v d → Sl 2 QR w v d) : Sl 1 QD w vD ds := by
  have hl := h.1
  rw [Nat.mul_one] at hl
  have hc := fun g => h.cells (g := g)
  rcases h.2 with ⟨h1, h2⟩ | ⟨g, cap, cur, h1, h2, h3, h4, h5⟩
  · refine ⟨none, 0, by rw [h1, h2], by omega, fun h0 => by omega⟩
  · refine ⟨some ⟨g, 0, none⟩, cap, h1, h4, fun _ => ⟨g, 0, rfl, fun i x hx => ?_⟩⟩
    obtain ⟨v, h6, h7⟩ := hd i x hx
    refine ⟨[v], ⟨v, rfl, hQ v x h7⟩, rfl, fun j y hy => ?_⟩
    match j, hy with
    | 0, hy =>
      have hv : v = y := Option.some.inj hy
      subst hv
      have := hc g (by rw [h1]; rfl) i v h6
      simpa [add_block] using this
    | j + 1, hy => simp at hy
theorem Trl.sl {G : Nat → Bool} {N : Nat} {P : Kp → Prop} {w : World} {b : Nat} {s : Sto} {vD vL : Value} {mc : Nat} {ms : List Nat} {cs : List Value} (h : Trl G N P w b s vD vL mc ms cs) : Sl 1 QD w vD s.D := doms_sl h.rowD h.domD fun v d hd => sl_unveil hd
/-- a pointer to no store, or to one that no call made -/
def Unmade (w : World) (p : Option Addr) : Prop := p = none ∨ ∃ b, p = some ⟨b, 0, none⟩ ∧ Bx w b #[.slice none 0 0, .slice none 0 0, .map none] 62
theorem Unmade.since {w w' : World} {p : Option Addr} (h : Unmade w p) (k : Since w w') : Unmade w' p := by
  rcases h with h | ⟨b, h1, h2⟩
  · exact .inl h
  · exact .inr ⟨b, h1, h2.since k⟩
theorem map_ne (w : World) (m : Option Nat) : (binOp .neq 60 (.map m) (.map none)).run Try.prog w = .ok (.bool (!m.isNone)) w := run_neq_map_nil w 60 3 70 m Try.underlying60
theorem made_yes {w : World} {b : Nat} {vD vL : Value} {mc : Nat} (h : Bx w b #[vD, vL, .map (some mc)] 62) : Calls Try.prog 33 #[.pointer (some ⟨b, 0, none⟩)] w (RetT true w) := by
  obtain ⟨c0, c1, c2⟩ := bx3 h
  have hmn := map_ne
  go_enter Try.func33, Try.ntmps33
  go_wp2
  go_ret
  exact ⟨rfl, Since.refl _⟩
theorem made_no {w : World} {p : Option Addr} (h : Unmade w p) : Calls Try.prog 33 #[.pointer p] w (RetT false w) := by
  rcases h with rfl | ⟨b, rfl, h⟩
  · go_enter Try.func33, Try.ntmps33
    go_wp2
    go_ret
    exact ⟨rfl, Since.refl _⟩
  · obtain ⟨c0, c1, c2⟩ := bx3 h
    have hmn := map_ne
    go_enter Try.func33, Try.ntmps33
    go_wp2
    go_ret
    exact ⟨rfl, Since.refl _⟩
theorem len_yes {w : World} {b : Nat} {A : Option Addr} {n c : Nat} {vL : Value} {mc : Nat} (h : Bx w b #[.slice A n c, vL, .map (some mc)] 62) : Calls Try.prog 24 #[.pointer (some ⟨b, 0, none⟩)] w fun e w' => e = .returned (.int .i64 (n : Int)) ∧ Since w w' := by
  have M := Lib.hid (made_yes h)
  have H := Lib.hid h
  clear h
  go_enter Try.func24, Try.ntmps24
  go_wp2_with (go_at_call 33; (with_reducible refine (M.out).mono ?_); rintro e w1 ⟨rfl, k1⟩; obtain ⟨c0, c1, c2⟩ := bx3 (H.out.since k1))
  go_ret
  exact ⟨rfl, k1⟩
theorem len_no {w : World} {p : Option Addr} (h : Unmade w p) : Calls Try.prog 24 #[.pointer p] w fun e w' => e = .returned (.int .i64 0) ∧ Since w w' := by
  have M := Lib.hid (made_no h)
  clear h
  go_enter Try.func24, Try.ntmps24
  go_wp2_with (go_at_call 33; (with_reducible refine (M.out).mono ?_); rintro e w1 ⟨rfl, k1⟩)
  go_ret
  exact ⟨rfl, k1⟩
theorem level_yes {w : World} {b : Nat} {A : Option Addr} {n c : Nat} {vD : Value} {mc : Nat} (h : Bx w b #[vD, .slice A n c, .map (some mc)] 62) : Calls Try.prog 23 #[.pointer (some ⟨b, 0, none⟩)] w fun e w' => e = .returned (.int .i64 (n : Int)) ∧ Since w w' := by
  have M := Lib.hid (made_yes h)
  have H := Lib.hid h
  clear h
  go_enter Try.func23, Try.ntmps23
  go_wp2_with (go_at_call 33; (with_reducible refine (M.out).mono ?_); rintro e w1 ⟨rfl, k1⟩; obtain ⟨c0, c1, c2⟩ := bx3 (H.out.since k1))
  go_ret
  exact ⟨rfl, k1⟩
theorem level_no {w : World} {p : Option Addr} (h : Unmade w p) : Calls Try.prog 23 #[.pointer p] w fun e w' => e = .returned (.int .i64 0) ∧ Since w w' := by
  have M := Lib.hid (made_no h)
  clear h
  go_enter Try.func23, Try.ntmps23
  go_wp2_with (go_at_call 33; (with_reducible refine (M.out).mono ?_); rintro e w1 ⟨rfl, k1⟩)
  go_ret
  exact ⟨rfl, k1⟩
/-- is there such a place? -/
def inD (n : Nat) (x : Int) : Bool := decide (0 ≤ x) && decide (x < (n : Int))
theorem has_yes {w : World} {b : Nat} {A : Option Addr} {n c : Nat} {vL : Value} {mc : Nat} (h : Bx w b #[.slice A n c, vL, .map (some mc)] 62) (x : Int) : Calls Try.prog 34 #[.pointer (some ⟨b, 0, none⟩), .int .i64 x] w (RetT (inD n x) w) := by
  have L := Lib.hid (len_yes h)
  clear h
  by_cases c0 : 0 ≤ x
  · have hx : decide (0 ≤ x) = true := by simpa using c0
    obtain ⟨R, hR⟩ : ∃ R, R = decide (x < (n : Int)) := ⟨_, rfl⟩
    have E := Lib.hid (show R = inD n x by rw [hR, inD, hx]; rfl)
    rw [← E.out]
    have HR := Lib.hid hR
    clear hR hx
    go_enter Try.func34, Try.ntmps34
    go_wp2_with (go_at_call 24; (with_reducible refine (L.out).mono ?_); rintro e w1 ⟨rfl, k1⟩)
    go_ret
    exact .of HR.out.symm k1
  · have E := Lib.hid (show false = inD n x by rw [inD, decide_eq_false c0]; rfl)
    rw [← E.out]
    go_enter Try.func34, Try.ntmps34
    go_wp2
    go_ret
    exact ⟨rfl, Since.refl _⟩
theorem has_no {w : World} {p : Option Addr} (h : Unmade w p) (x : Int) : Calls Try.prog 34 #[.pointer p, .int .i64 x] w (RetT false w) := by
  have L := Lib.hid (len_no h)
  clear h
  by_cases c0 : 0 ≤ x
  · have c1 : ¬ x < 0 := by omega
    go_enter Try.func34, Try.ntmps34
    go_wp2_with (go_at_call 24; (with_reducible refine (L.out).mono ?_); rintro e w1 ⟨rfl, k1⟩)
    go_ret
    exact ⟨by show Ending.returned (.bool (decide (x < 0))) = _; rw [decide_eq_false (by omega)], k1⟩
  · go_enter Try.func34, Try.ntmps34
    go_wp2
    go_ret
    exact ⟨rfl, Since.refl _⟩
section
open Go.RowKit
set_option linter.unusedVariables false
set_option linter.unusedSimpArgs false
open Go.Proofs.Ytnojfeffmbdpmaa.Dig Go.Proofs.Ytnojfeffmbdpmaa.Lx Go.Proofs.Ytnojfeffmbdpmaa.Tk Go.Proofs.Ytnojfeffmbdpmaa.Ti Go.Proofs.Ytnojfeffmbdpmaa.Zs

theorem off_new {G : Nat → Bool} {w w1 : World} (hG : ∀ k, G k = true → k < w.heap.size) (k1 : Since w w1) {b : Nat} (hb : w1.heap.size ≤ b) : G b = false := by
  cases hg : G b with
  | false => rfl
  | true =>
    have h1 := hG b hg
    have h3 := k1.size
    omega
theorem getD_in {s : Sto} {x : Int} {k : Nat} (hx : x = (k : Int)) (hk : k < s.D.length) : getD' s x = s.D[k] := by
  subst hx
  rw [getD', if_neg (by omega)]
  simp [hk]
theorem getD_out {s : Sto} {x : Int} (h : inD s.D.length x = false) : getD' s x = [] := by
  rw [inD, Bool.and_eq_false_iff, decide_eq_false_iff_not, decide_eq_false_iff_not] at h
  rw [getD', if_pos (by omega)]
theorem tget_new {G : Nat → Bool} {N : Nat} {w : World} {b : Nat} {s : Sto} (h : TrailAt G N w b s) (hG : ∀ k, G k = true → k < w.heap.size) (x : Int) :
    Calls Try.prog 26 #[.pointer (some ⟨b, 0, none⟩), .int .i64 x] w fun e w' => ∃ v, e = .returned v ∧ Sl 2 QR (veil G w') v (getD' s x) ∧ Since w w' ∧ ∀ b, v.ownBlock = some b → w.heap.size ≤ b ∧ ∀ j, w'.frozen? ⟨b, j, none⟩ = false := by
  obtain ⟨vD, vL, mc, ms, cs, h⟩ := h
  have hsl := h.sl
  obtain ⟨AD, cD, rfl⟩ := hsl.form
  obtain ⟨n, hn⟩ : ∃ n, n = s.D.length := ⟨_, rfl⟩
  have hb := h.bx
  rw [← hn] at hb hsl
  have HH := Lib.hid (fun R (hR : inD n x = R) => by have := has_yes hb x; rw [hR] at this; exact this)
  have H := Lib.hid hb
  have HG := Lib.hid hG
  have HN := Lib.hid hn
  have OK := Lib.hid h.ok
  cases hx : inD n x with
  | false =>
    have HH1 := Lib.hid (HH.out _ hx)
    have E := Lib.hid (show getD' s x = [] from getD_out (hn ▸ hx))
    clear h hsl hn hb hx HH hG
    go_enter Try.func26, Try.ntmps26
    go_wp2_with (go_at_call 34; (with_reducible refine (HH1.out).mono ?_); rintro e w1 ⟨rfl, k1⟩)
    go_ret
    exact ⟨_, rfl, by rw [E.out]; exact Sl.nil _ _ _, k1, fun b hb => by simp [Value.ownBlock] at hb⟩
  | true =>
    have HH1 := Lib.hid (HH.out _ hx)
    rw [inD, Bool.and_eq_true, decide_eq_true_eq, decide_eq_true_eq] at hx
    obtain ⟨k, rfl⟩ : ∃ k : Nat, x = (k : Int) := ⟨x.toNat, by omega⟩
    have hkl : k < s.D.length := by omega
    have hkn : k < n := by omega
    have E := Lib.hid (getD_in (s := s) rfl hkl)
    obtain ⟨g, o, B, d, rfl, hS, e1⟩ := elD hsl hkl
    have hbig := (h.ok.D _ (List.getElem_mem hkl)).2.2
    generalize s.D[k] = y at *
    obtain ⟨p, hp⟩ : ∃ p, p = y.length := ⟨_, rfl⟩
    rw [← hp] at hS e1
    have UP := Lib.hid (fun W (kk : Since w W) => (kk.cell _ (World.block_lt_of_cell? _ _ e1)).trans e1)
    have CL := Lib.hid (fun W (kk : Since w W) => rclone_any _ y W (hS.since stR kk) hbig)
    clear h hsl hn hb hx HH hG hS e1 hbig hp hkl
    go_enter Try.func26, Try.ntmps26
    go_wp2_with (first
      | (go_at_call 34; (with_reducible refine (HH1.out).mono ?_); rintro e w1 ⟨rfl, k1⟩; obtain ⟨c0, c1, c2⟩ := bx3 (H.out.since k1); have x1 := UP.out _ k1)
      | (go_at_call 39; (with_reducible refine (CL.out _ k1).mono ?_); rintro e w2 ⟨A2, m2, c2', rfl, hm2, hS2, k2, hf2⟩))
    go_ret
    refine ⟨Value.slice A2 m2 c2', rfl, ?_, k1.trans k2, fun b hb => ⟨Nat.le_trans k1.size (hf2 b hb).1, (hf2 b hb).2.2⟩⟩
    rw [E.out]
    exact sl_veil hS2 fun b hb hl => off_new HG.out k1 (hf2 b hb).1
theorem tget_any {G : Nat → Bool} {N : Nat} {w : World} {b : Nat} {s : Sto} (h : TrailAt G N w b s) (hG : ∀ k, G k = true → k < w.heap.size) (x : Int) :
    Calls Try.prog 26 #[.pointer (some ⟨b, 0, none⟩), .int .i64 x] w fun e w' => ∃ v, e = .returned v ∧ Sl 2 QR (veil G w') v (getD' s x) ∧ Since w w' := (tget_new h hG x).mono fun e w' ⟨v, h1, h2, h3, h4⟩ => ⟨v, h1, h2, h3⟩
theorem tget_no {w : World} {p : Option Addr} (h : Unmade w p) (x : Int) : Calls Try.prog 26 #[.pointer p, .int .i64 x] w fun e w' => e = .returned (.slice none 0 0) ∧ Since w w' := by
  have HH1 := Lib.hid (has_no h x)
  clear h
  go_enter Try.func26, Try.ntmps26
  go_wp2_with (go_at_call 34; (with_reducible refine (HH1.out).mono ?_); rintro e w1 ⟨rfl, k1⟩)
  go_ret
  exact ⟨rfl, k1⟩
theorem all_new {G : Nat → Bool} {N : Nat} {w : World} {b : Nat} {s : Sto} (h : TrailAt G N w b s) (hG : ∀ k, G k = true → k < w.heap.size) :
    Calls Try.prog 22 #[.pointer (some ⟨b, 0, none⟩)] w fun e w' => ∃ v, e = .returned v ∧ Sl 1 QD (veil G w') v s.D ∧ Since w w' ∧ (∀ b, v.ownBlock = some b → w.heap.size ≤ b) ∧ Sl 1 (fun _ => NewD w v w') w' v s.D := by
  obtain ⟨vD, vL, mc, ms, cs, h⟩ := h
  have hsl := h.sl
  obtain ⟨AD, cD, rfl⟩ := hsl.form
  have hb := h.bx
  have M := Lib.hid (made_yes hb)
  have H := Lib.hid hb
  have HG := Lib.hid hG
  have OK := Lib.hid h.ok
  have CP := Lib.hid (fun W (kk : Since w W) => copied_any _ s.D W (hsl.since stD kk) (by have := h.ok.n; omega) (fun d hd => (h.ok.D d hd).2.2))
  obtain ⟨n, hn⟩ : ∃ n, n = s.D.length := ⟨_, rfl⟩
  rw [← hn] at H CP
  clear h hsl hn hb hG
  go_enter Try.func22, Try.ntmps22
  go_wp2_with (first
    | (go_at_call 33; (with_reducible refine (M.out).mono ?_); rintro e w1 ⟨rfl, k1⟩; obtain ⟨c0, c1, c2⟩ := bx3 (H.out.since k1))
    | (go_at_call 31; (with_reducible refine (CP.out _ k1).mono ?_); rintro e w2 ⟨v, cs2, rfl, ho, hr, k2⟩; have HO := Lib.hid ho; have HR := Lib.hid hr; clear ho hr))
  go_ret
  have off : ∀ b, w1.heap.size ≤ b → G b = false := fun b hb => off_new HG.out k1 hb
  refine ⟨_, rfl, ?_, k1.trans k2, fun b hb => Nat.le_trans k1.size (HO.out.lt b hb).1, Sl.own HO.out (HR.out.mono fun x u ⟨v', h1, h2, h3⟩ => ⟨v', h1, h2, fun b hb => ⟨Nat.le_trans k1.size (h3 b hb).1, (h3 b hb).2⟩⟩) rfl⟩
  refine Sl.veil (Q := fun _ => NewD w1 v w2) (Q' := QD) (fun x u hu => ?_) (Sl.own HO.out HR.out rfl) fun b hb _ => off b (HO.out.lt b hb).1
  obtain ⟨v', h1, h2, h3⟩ := hu
  exact ⟨v', h1, sl_veil h2 fun b hb _ => off b (h3 b hb).1⟩
theorem all_any {G : Nat → Bool} {N : Nat} {w : World} {b : Nat} {s : Sto} (h : TrailAt G N w b s) (hG : ∀ k, G k = true → k < w.heap.size) :
    Calls Try.prog 22 #[.pointer (some ⟨b, 0, none⟩)] w fun e w' => ∃ v, e = .returned v ∧ Sl 1 QD (veil G w') v s.D ∧ Since w w' ∧ (∀ b, v.ownBlock = some b → w.heap.size ≤ b) := (all_new h hG).mono fun e w' ⟨v, h1, h2, h3, h4, h5⟩ => ⟨v, h1, h2, h3, h4⟩
theorem all_no {w : World} {p : Option Addr} (h : Unmade w p) : Calls Try.prog 22 #[.pointer p] w fun e w' => e = .returned (.slice none 0 0) ∧ Since w w' := by
  have M := Lib.hid (made_no h)
  clear h
  go_enter Try.func22, Try.ntmps22
  go_wp2_with (go_at_call 33; (with_reducible refine (M.out).mono ?_); rintro e w1 ⟨rfl, k1⟩)
  go_ret
  exact ⟨rfl, k1⟩
end
end Go.Proofs.Ytnojfeffmbdpmaa.Tr
