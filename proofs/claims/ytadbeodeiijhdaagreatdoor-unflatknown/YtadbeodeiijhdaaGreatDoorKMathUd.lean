
import Derived.Test.YtadbeodeiijhdaaGreatDoorKUnC
import Derived.Test.YtadbeodeiijhdaaGreatDoorKMathUc
/- unflat: a leaf's way laid. -/
namespace Go.Proofs.YtadbeodeiijhdaaGreatDoor
open Go.RowKit Go.Maps

theorem Kp.bel {B : Nat} {W0 w w' : World} (h : Kp B w w') (h0 : W0.heap.size = B) (hb : Below B W0 w) : Below B W0 w' := h W0 h0 hb
theorem stp_of {w W : World} {a b c : Value} (h : W = w.alloc (.cells #[a, b, c] 76)) : W.cell? ⟨w.heap.size, 0, none⟩ = some a ∧ W.cell? ⟨w.heap.size, 1, none⟩ = some b ∧ W.cell? ⟨w.heap.size, 2, none⟩ = some c ∧ Below w.heap.size w W := by
  subst h
  exact ⟨by simp, by simp, by simp, valloc_bel (Below.refl _ _) _⟩
theorem hol_kd {p : List PStep} {d : Nat} {s : PStep} (h : p[d]? = some s) : hol s = kdP p d := (kd_mid h).symm
/-- the tree that grows, all of it -/
structure TT (B : Nat) (w : World) (tb m : Nat) (Ev : Evd) (X : List (List PStep)) (g c : Nat) (E : List NE) (M : Ways) : Prop where
  tm : TM B w tb m (.slice (some ⟨g, 0, none⟩) E.length c) E M
  tri : Trw Ev X (E.map NE.d) M
  cap : E.length ≤ c
theorem TT.sh {B : Nat} {w : World} {tb m g c : Nat} {Ev : Evd} {X : List (List PStep)} {E : List NE} {M : Ways} (h : TT B w tb m Ev X g c E M) {a : Nat} {e : NE} (he : E[a]? = some e) : 0 ≤ e.d.sh ∧ e.d.sh ≤ 3 := by
  have hn : (E.map NE.d)[a]? = some e.d := by rw [List.getElem?_map, he]; rfl
  obtain ⟨q, hq⟩ : ∃ q, X[a]? = some q := ⟨_, List.getElem?_eq_getElem (by rw [h.tri.len]; exact lt_of_some hn)⟩
  by_cases h0 : e.d.sh = 0
  · omega
  · obtain ⟨x, -, j, -, -, -, hk⟩ := h.tri.sh2 a e.d q hn hq h0
    rcases kd_val x.1 j with e1 | e1 | e1 <;> rw [hk, e1] <;> decide
theorem map_set {E : List NE} {a : Nat} (e : NE) : (E.set a e).map NE.d = (E.map NE.d).set a e.d := by
  rw [List.map_set]
theorem TT.ps {B : Nat} {w : World} {tb m g c : Nat} {Ev : Evd} {X : List (List PStep)} {E : List NE} {M : Ways} (h : TT B w tb m Ev X g c E M) {a : Nat} {e : NE} (he : E[a]? = some e) : e.d.ps.length ≤ E.length := by
  have hn : (E.map NE.d)[a]? = some e.d := by rw [List.getElem?_map, he]; rfl
  obtain ⟨q, hq⟩ : ∃ q, X[a]? = some q := ⟨_, List.getElem?_eq_getElem (by rw [h.tri.len]; exact lt_of_some hn)⟩
  obtain ⟨h1, h2⟩ := h.tri.ps a e.d q hn hq
  have h3 : e.d.ps ⊆ List.range E.length := fun b hb => by
    obtain ⟨s, h4⟩ := (h2 b).1 hb
    have := lt_of_some h4
    rw [h.tri.len, List.length_map] at this
    rw [List.mem_range]; exact this
  have := List.Nodup.length_le_of_subset h1 h3
  rwa [List.length_range] at this
/-- a step down, in memory and in what is known -/
theorem part_tt (B : Nat) (w : World) (tb m : Nat) (Ev : Evd) (X : List (List PStep)) (g c : Nat) (E : List NE) (M : Ways) (p : List PStep) (d : Nat) (s : PStep) (hp : p[d]? = some s) (a : Nat) (e : NE) (he : E[a]? = some e) (hx : X[a]? = some (p.take d)) (hT : Trw (Ev ++ [(p, d)]) X (E.map NE.d) M) (hs : e.d.sh = 0 ∨ e.d.sh = kdP p d)
    (h : TM B w tb m (.slice (some ⟨g, 0, none⟩) E.length c) (E.set a ⟨{e.d with sh := kdP p d}, e.u⟩) M) (hc : E.length ≤ c) (hpsl : e.d.ps.length ≤ E.length) (hok : OkS s) (hcn : Cn s) (hl : E.length ≤ 9000000) (lf : Nat) (hlf : lf = Ev.length) (hlb : lf ≤ 9000000) :
    Calls Tryz.prog 80 #[.pointer (some ⟨tb, 0, none⟩), .int .i64 (a : Int), pv s, .int .i64 (lf : Int)] w fun r w' => Kp B w w' ∧ ∃ (b : Nat) (X' : List (List PStep)) (g' c' : Nat) (E' : List NE) (M' : Ways), r = .returned (.int .i64 (b : Int)) ∧ TT B w' tb m (Ev ++ [(p, d + 1)]) X' g' c' E' M' ∧ X'[b]? = some (p.take (d + 1)) ∧ E'.length ≤ E.length + 1 ∧ b < E'.length ∧ (∀ k, k < w.heap.size → Off tb m g E k → w'.heap[k]? = w.heap[k]? ∧ Off tb m g' E' k) ∧ w.heap.size ≤ w'.heap.size := by
  have hem : (E.map NE.d)[a]? = some e.d := by rw [List.getElem?_map, he]; rfl
  obtain ⟨E1, hE1⟩ : ∃ E1, E.set a ⟨{e.d with sh := kdP p d}, e.u⟩ = E1 := ⟨_, rfl⟩
  have hl1 : E1.length = E.length := by rw [← hE1, List.length_set]
  have he1 : E1[a]? = some ⟨{e.d with sh := kdP p d}, e.u⟩ := by rw [← hE1, List.getElem?_set_self (lt_of_some he)]
  rw [hE1, ← hl1] at h
  have hml : M.length ≤ 10000000 := by have := hT.ml; rw [List.length_map] at this; omega
  have hgw : ¬ g = w.heap.size := fun e0 => by have := (h.ns.lt g rfl).2; omega
  have hoff : ∀ k, Off tb m g E k → Off tb m g E1 k := fun k hk => ⟨hk.1, hk.2.1, hk.2.2.1, fun e' he' => by
    rw [← hE1] at he'
    rcases List.mem_or_eq_of_mem_set he' with he' | rfl
    · exact hk.2.2.2 e' he'
    · exact hk.2.2.2 e (List.mem_of_getElem? he)⟩
  have hmap : E1.map NE.d = (E.map NE.d).set a {e.d with sh := kdP p d} := by rw [← hE1, map_set]
  cases hf : mpF M (a, s) with
  | some b =>
    obtain ⟨h1, h2⟩ := hT.step_old hp hem hx hs hf
    rw [← hmap] at h1
    have fin : ∀ (r : Ending) (w' : World), (r = .returned (.int .i64 (b : Int)) ∧ TM B w' tb m (.slice (some ⟨g, 0, none⟩) E1.length c) E1 M ∧ Kp B w w' ∧ Below w.heap.size w w') → Kp B w w' ∧ ∃ (b : Nat) (X' : List (List PStep)) (g' c' : Nat) (E' : List NE) (M' : Ways), r = .returned (.int .i64 (b : Int)) ∧ TT B w' tb m (Ev ++ [(p, d + 1)]) X' g' c' E' M' ∧ X'[b]? = some (p.take (d + 1)) ∧ E'.length ≤ E.length + 1 ∧ b < E'.length ∧ (∀ k, k < w.heap.size → Off tb m g E k → w'.heap[k]? = w.heap[k]? ∧ Off tb m g' E' k) ∧ w.heap.size ≤ w'.heap.size := by
      rintro r w' ⟨h3, h4, h5, h6⟩
      exact ⟨h5, b, X, g, c, E1, M, h3, ⟨h4, h1, by omega⟩, h2, by omega, by have := lt_of_some h2; rw [h1.len, List.length_map] at this; exact this, fun k hk ho => ⟨h6.block k hk, hoff k ho⟩, h6.size⟩
    cases hpl : s.place with
    | true =>
      have hno : s.key = ⟨#[]⟩ := by rcases hcn with h | h; exact h.2.1; rw [hpl] at h; cases h.1
      exact (part_oldP B w tb m g c E1 M h a _ he1 s lf hok hpl hno (by omega) (by omega) hml (by show e.d.ps.length ≤ _; omega) (by omega) b hf).mono fin
    | false =>
      have hno : s.at_ = 0 := by rcases hcn with h | h; rw [hpl] at h; cases h.1; exact h.2
      exact (part_oldK B w tb m g c E1 M h a _ he1 s lf hok hpl hno (by omega) (by omega) hml (by show e.d.ps.length ≤ _; omega) (by omega) b hf).mono fin
  | none =>
    obtain ⟨h1, h2⟩ := hT.step_new hp hem hx hs hf
    rw [List.length_map] at h1 h2
    have fin : ∀ (r : Ending) (w' : World), (r = .returned (.int .i64 (E1.length : Int)) ∧ PartNew B w tb m g E1 M a ⟨{e.d with sh := kdP p d}, e.u⟩ s lf w') → Kp B w w' ∧ ∃ (b : Nat) (X' : List (List PStep)) (g' c' : Nat) (E' : List NE) (M' : Ways), r = .returned (.int .i64 (b : Int)) ∧ TT B w' tb m (Ev ++ [(p, d + 1)]) X' g' c' E' M' ∧ X'[b]? = some (p.take (d + 1)) ∧ E'.length ≤ E.length + 1 ∧ b < E'.length ∧ (∀ k, k < w.heap.size → Off tb m g E k → w'.heap[k]? = w.heap[k]? ∧ Off tb m g' E' k) ∧ w.heap.size ≤ w'.heap.size := by
      rintro r w' ⟨h3, g', c', u', h4, h5, h6, h8, h7⟩
      obtain ⟨E2, hE2⟩ : ∃ E2, (E1.set a ⟨{({e.d with sh := kdP p d} : Nd) with ps := e.d.ps ++ [E1.length]}, u'⟩) ++ [⟨⟨0, s, lf, []⟩, .slice none 0 0⟩] = E2 := ⟨_, rfl⟩
      have hl2 : E2.length = E1.length + 1 := by rw [← hE2]; simp
      rw [hE2, ← hl2] at h4
      rw [hE2] at h7
      refine ⟨h6, E1.length, X ++ [p.take (d + 1)], g', c', E2, _, h3, ⟨h4, ?_, by omega⟩, by rw [hl1]; exact h2, by omega, by omega, fun k hk ho => h7 k hk (hoff k ho), h8⟩
      have e3 : E2.map NE.d = ((E.map NE.d).set a ⟨kdP p d, e.d.st, e.d.lf, e.d.ps ++ [E.length]⟩) ++ [⟨0, s, Ev.length, []⟩] := by
        rw [← hE2, List.map_append, map_set, hmap, List.set_set, hl1, hlf]; rfl
      rw [e3, hl1]; exact h1
    cases hpl : s.place with
    | true =>
      have hno : s.key = ⟨#[]⟩ := by rcases hcn with h | h; exact h.2.1; rw [hpl] at h; cases h.1
      exact (part_newP B w tb m g c E1 M h a _ he1 s lf hok hpl hno (by omega) (by omega) hml (by show e.d.ps.length ≤ _; omega) (by omega) hf hgw).mono fin
    | false =>
      have hno : s.at_ = 0 := by rcases hcn with h | h; rw [hpl] at h; cases h.1; exact h.2
      exact (part_newK B w tb m g c E1 M h a _ he1 s lf hok hpl hno (by omega) (by omega) hml (by show e.d.ps.length ≤ _; omega) (by omega) hf hgw).mono fin
/-- what laying a path says -/
def LayP (B : Nat) (W0 w : World) (tb m : Nat) (g0 : Nat) (E0 : List NE) (Ev : Evd) (p : List PStep) (n : Nat) (r : Ending) (w' : World) : Prop :=
  Below B W0 w' ∧ (((∃ x ∈ Ev, clP x.1 p = true) ∧ r = .returned (.bool false)) ∨ ((∀ x ∈ Ev, clP x.1 p = false) ∧ r = .returned (.bool true) ∧ ∃ X g c E M, TT B w' tb m (Ev ++ [(p, p.length + 1)]) X g c E M ∧ E.length ≤ n + p.length ∧ 0 < E.length ∧ ∀ k, k < w.heap.size → Off tb m g0 E0 k → w'.heap[k]? = w.heap[k]?))
set_option maxRecDepth 100000 in
set_option maxHeartbeats 4000000 in
theorem lay_any (B : Nat) (W0 w : World) (h0 : W0.heap.size = B) (hb0 : Below B W0 w) (tb m : Nat) (Ev : Evd) (X : List (List PStep)) (g c : Nat) (E : List NE) (M : Ways) (h : TT B w tb m Ev X g c E M) (p : List PStep) (pv' : Value) (hp : InP W0 p pv') (hok : ∀ s ∈ p, OkS s) (hcn : ∀ s ∈ p, Cn s) (hbd : E.length + p.length ≤ 9000000) (hev : ∀ x ∈ Ev, x.2 = x.1.length + 1) (lf : Nat) (hlf : lf = Ev.length) (hlb : lf ≤ 9000000) (hE0 : 0 < E.length) :
    Calls Tryz.prog 50 #[.pointer (some ⟨tb, 0, none⟩), pv', .int .i64 (lf : Int)] w (LayP B W0 w tb m g E Ev p E.length) := by
  obtain ⟨ap, ⟨op, cp, rfl, hp1, hp2, hp3⟩, hpc⟩ := hp
  have HPC := hid hpc
  have HP3 := hid hp3
  have HT := hid h
  have HOK := hid hok
  have HCN := hid hcn
  have HEV := hid hev
  have HLF := hid hlf
  have HB0 := hid hb0
  obtain ⟨g0, hg0⟩ : ∃ n, g = n := ⟨_, rfl⟩
  obtain ⟨E0, hEE⟩ : ∃ n, E = n := ⟨_, rfl⟩
  have HG0 := hid hg0
  have HEE := hid hEE
  obtain ⟨n0, hn0⟩ : ∃ n, E.length = n := ⟨_, rfl⟩
  rw [hn0] at hbd hE0 ⊢
  rw [show LayP B W0 w tb m g E Ev p n0 = LayP B W0 w tb m g0 E0 Ev p n0 by rw [hg0, hEE]]
  have HN0 := hid hn0
  obtain ⟨np, hnp⟩ : ∃ n, p.length = n := ⟨_, rfl⟩
  rw [hnp] at hbd hp1 hp3 ⊢
  have HNP := hid hnp
  have H0 := hid h0
  clear h hok hcn hev hlf hb0 hp3 hpc hn0 hnp h0 hg0 hEE
  go_enter Tryz.func50, Tryz.ntmps50
  go_wp2_with fail
  go_loopw [7, 13] (fun av i wr => ∃ (d a : Nat) (X : List (List PStep)) (g c : Nat) (E : List NE) (M : Ways), i = .int .i64 d ∧ av = .int .i64 a ∧ d ≤ np ∧ Hid (TT B wr tb m (Ev ++ [(p, d)]) X g c E M) ∧ Hid (X[a]? = some (p.take d)) ∧ Hid (Below B W0 wr) ∧ Hid (E.length ≤ n0 + d) ∧ a < E.length ∧ Hid (∀ k, k < w.heap.size → Off tb m g0 E0 k → wr.heap[k]? = w.heap[k]? ∧ Off tb m g E k) ∧ Hid (w.heap.size ≤ wr.heap.size)) (fun _ i _ => np - (intOf i).toNat)
  case atStart => exact ⟨0, 0, X, g, c, E, M, rfl, rfl, Nat.zero_le _, hid ⟨HT.out.tm, HT.out.tri.start p, HT.out.cap⟩, hid (by rw [List.take_zero]; exact HT.out.tri.root), HB0, hid (by rw [HN0.out]; omega), by rw [HN0.out]; omega, hid (fun k _ hk => ⟨rfl, by rw [HG0.out, HEE.out]; exact hk⟩), hid (Nat.le_refl _)⟩
  case round =>
    clear HT HB0
    obtain ⟨d, a, X, g, c, E, M, rfl, rfl, hd, HT, HX, HB, HL, ha, HOF, HWS⟩ := hrel
    have hEl : E.length ≤ 9000000 := by have := HL.out; omega
    have hcE := HT.out.cap
    obtain ⟨e, he⟩ : ∃ e, E[a]? = some e := ⟨E[a], List.getElem?_eq_getElem ha⟩
    have HE := hid he
    have hem : (E.map NE.d)[a]? = some e.d := by rw [List.getElem?_map, he]; rfl
    have HEM := hid hem
    clear hem he
    by_cases hlt : d < np
    · obtain ⟨s, hs⟩ : ∃ s, p[d]? = some s := ⟨p[d]'(by rw [HNP.out]; exact hlt), List.getElem?_eq_getElem _⟩
      have hsm := List.mem_of_getElem? hs
      have hso := HOK.out s hsm
      have hsc := HCN.out s hsm
      obtain ⟨c0, c1, c2, c3⟩ := HPC.out d s hs
      have hbb : Below W0.heap.size W0 wr := by have := HB.out; rwa [← H0.out] at this
      have c0 := keepCell hbb c0
      have c1 := keepCell hbb c1
      have c2 := keepCell hbb c2
      obtain rfl := HP3.out (by rw [HNP.out]; omega)
      have HS := hid hs
      have HSO := hid hso
      have HSC := hid hsc
      have HDB := hid (show d ≤ p.length by rw [HNP.out]; omega)
      clear hs hsm hso hsc hbb
      go_upto_region 5 with fail
      refine cewp_gen ?_
      intro W hW
      obtain ⟨b0, b1, b2, hbW⟩ := stp_of hW
      have HT1 := hid (HT.out.tm.onto hbW)
      have HB1 := hid ((Kp.of (B := B) hbW).bel H0.out HB.out)
      have HH := hid (holds_any B W tb m g c E M HT1.out a e HE.out s (by omega) hcE (HT.out.sh HE.out))
      have HBW := hid hbW
      clear hW hbW c0 c1 c2
      unfold pv at HH
      go_wp2_with fail
      go_at_call 79
      refine HH.out.mono ?_
      rintro r w1 ⟨rfl, hT2, hK2, hfar, hsz1⟩
      have HSZ := hid hsz1
      clear hsz1
      have hgl := (HT.out.tm.ns.lt g rfl).2
      have HFAR := hid hfar
      have hne : ¬ wr.heap.size = g := by omega
      have c0 := (World.cell?_of_block (a := ⟨wr.heap.size, 0, none⟩) (hfar wr.heap.size (World.block_lt_of_cell? W ⟨wr.heap.size, 0, none⟩ b0) hne)).trans b0
      have c1 := (World.cell?_of_block (a := ⟨wr.heap.size, 1, none⟩) (hfar wr.heap.size (World.block_lt_of_cell? W ⟨wr.heap.size, 0, none⟩ b0) hne)).trans b1
      have c2 := (World.cell?_of_block (a := ⟨wr.heap.size, 2, none⟩) (hfar wr.heap.size (World.block_lt_of_cell? W ⟨wr.heap.size, 0, none⟩ b0) hne)).trans b2
      clear b0 b1 b2 hfar hgl hne
      have HB2 := hid (hK2.bel H0.out HB1.out)
      have HKD := hid (hol_kd HS.out)
      by_cases hcl : nsh e.d.sh s = hol s
      · have hdec : decide (nsh e.d.sh s = hol s) = true := decide_eq_true hcl
        have HSH := hid (show e.d.sh = 0 ∨ e.d.sh = kdP p d by
          unfold nsh at hcl
          by_cases h0 : e.d.sh = 0
          · exact .inl h0
          · rw [if_neg h0] at hcl
            exact .inr (hcl.trans HKD.out))
        rw [hcl, HKD.out] at hT2
        rw [hdec]
        have HT2 := hid hT2
        have HP := hid (part_tt B w1 tb m Ev X g c E M p d s HS.out a e HE.out HX.out HT.out.tri HSH.out HT2.out hcE (HT.out.ps HE.out) HSO.out HSC.out hEl lf HLF.out hlb)
        clear hdec hcl hT2
        unfold pv at HP
        go_wp2_with fail
        go_at_call 80
        refine HP.out.mono ?_
        rintro r w2 ⟨hK3, b, X', g', c', E', M', rfl, hTT, hX', hE', hb', hof', hsz'⟩
        have HOF2 := hid (show ∀ k, k < w.heap.size → Off tb m g0 E0 k → w2.heap[k]? = w.heap[k]? ∧ Off tb m g' E' k from fun k hk ho => by
          obtain ⟨f1, f2⟩ := HOF.out k hk ho
          have s1 := HWS.out
          have s2 := HBW.out.size
          have s3 := HSZ.out
          have e1 := (HFAR.out k (by omega) f2.2.2.1).trans (HBW.out.block k (by omega))
          obtain ⟨f3, f4⟩ := hof' k (by omega) f2
          exact ⟨f3.trans (e1.trans f1), f4⟩)
        have HWS2 := hid (show w.heap.size ≤ w2.heap.size from by have s1 := HWS.out; have s2 := HBW.out.size; have s3 := HSZ.out; have s4 := hsz'; omega)
        have HB3 := hid (hK3.bel H0.out HB2.out)
        have HTT := hid hTT
        have HX2 := hid hX'
        have HL2 := hid (show E'.length ≤ n0 + (d + 1) by have := HL.out; omega)
        have HBL := hid hb'
        clear hK3 hTT hX' hE' hb' hof' hsz' c0 c1 c2
        go_wp2_with fail
        go_roundw
        case rel => exact ⟨d + 1, b, X', g', c', E', M', val_int (by omega), rfl, hlt, HTT, HX2, HB3, HL2, HBL.out, HOF2, HWS2⟩
        case measure => simp [intOf]; omega
      · have hdec : decide (nsh e.d.sh s = hol s) = false := decide_eq_false hcl
        rw [hdec]
        have HCL := hid (show ∃ x ∈ Ev, clP x.1 p = true from by
          have h0 : e.d.sh ≠ 0 := fun h0 => hcl (by unfold nsh; rw [if_pos h0])
          refine HT.out.tri.clash HDB.out HEM.out HX.out h0 (.inl fun h1 => hcl ?_)
          unfold nsh
          rw [if_neg h0, h1, HKD.out])
        clear hdec hcl hT2
        go_wp2_with fail
        go_ret
        exact ⟨HB2.out, .inl ⟨HCL.out, rfl⟩⟩
    · have hdn : d = np := by omega
      subst hdn
      have HXP := hid (show X[a]? = some p by have := HX.out; rw [← HNP.out, List.take_length] at this; exact this)
      have HTP := hid (show Trw (Ev ++ [(p, p.length)]) X (E.map NE.d) M by have := HT.out.tri; rw [← HNP.out] at this; exact this)
      obtain ⟨q, hq⟩ : ∃ k, e.d.sh = k := ⟨_, rfl⟩
      have hsh := HT.out.sh HE.out
      rw [hq] at hsh
      have HQ := hid hq
      obtain ⟨q0, -, -⟩ := HT.out.tm.cells
      have q1 := HT.out.tm.at_ HE.out 0 _ rfl
      rw [hq, Nat.add_zero] at q1
      have qf : wr.frozen? ⟨g, a * 6, none⟩ = false := HT.out.tm.ns.frozenAt (a * 6)
      have HTW := hid (HT.out.tm)
      clear hq
      by_cases h0 : q = 0
      · subst h0
        obtain ⟨hT3, hK3⟩ := HTW.out.set HE.out 1
        have hdone := HTP.out.done HEM.out HXP.out HQ.out
        have HDN := hid (show ∀ x ∈ Ev, clP x.1 p = false from fun x hx => hdone.2 x hx (HEV.out x hx))
        have HT4 := hid (show TT B (wr.setCell ⟨g, a * 6, none⟩ (.int .i64 1)) tb m (Ev ++ [(p, p.length + 1)]) X g c (E.set a ⟨{e.d with sh := 1}, e.u⟩) M from
          ⟨by rw [List.length_set]; exact hT3, by rw [map_set]; exact hdone.1, by rw [List.length_set]; exact hcE⟩)
        have HB4 := hid (hK3.bel H0.out HB.out)
        have HL4 := hid (show (E.set a ⟨{e.d with sh := 1}, e.u⟩).length ≤ n0 + p.length ∧ 0 < (E.set a ⟨{e.d with sh := 1}, e.u⟩).length by rw [List.length_set, HNP.out]; have := HL.out; omega)
        clear hT3 hK3 hdone
        go_wp2_with fail
        go_ret
        exact ⟨HB4.out, .inr ⟨HDN.out, rfl, X, g, c, _, M, HT4.out, HL4.out.1, HL4.out.2, fun k hk ho => ((set_grownW wr g (a * 6) _).block k (by have := HWS.out; omega) (fun e0 => (HOF.out k hk ho).2.2.2.1 (by injection e0))).trans (HOF.out k hk ho).1⟩⟩
      · have HCL := hid (show ∃ x ∈ Ev, clP x.1 p = true from HTP.out.clash (Nat.le_refl _) HEM.out (by rw [List.take_length]; exact HXP.out) (by rw [HQ.out]; exact h0) (.inr (by unfold kdP; rw [List.getElem?_eq_none (Nat.le_refl _)])))
        have t0 : (q != 0) = true := by simpa using h0
        clear h0
        go_wp2_with fail
        go_ret
        exact ⟨HB.out, .inl ⟨HCL.out, rfl⟩⟩
end Go.Proofs.YtadbeodeiijhdaaGreatDoor
/- Plain mathematics of the tree that has grown: its nodes' trees, its gaps. -/
namespace Go.Proofs.YtadbeodeiijhdaaGreatDoor
open Go.RowKit

/-- the tree of the leaves below a path -/
def SubOf (l : Lvs) (q : List PStep) (T : VT) : Prop := Nrm T ∧ ∀ r t, AllCn r → (LeafAt T r t ↔ (q ++ r, t) ∈ l)
theorem sub_tree {l : Lvs} {T : VT} (h : SubOf l [] T) : TreeOf l T := ⟨h.1, fun r t hr => by have := h.2 r t hr; simpa using this⟩
theorem AllCn.tail {s : PStep} {r : List PStep} (h : AllCn (s :: r)) : Cn s ∧ AllCn r := ⟨h s (by simp), fun x hx => h x (by simp [hx])⟩
theorem bare_get {k n : Int} {s : ByteArray} {K : List ByteArray} {x : PStep} {r : List PStep} (hx : Cn x) : getP (.mk k n s [] K []) (x :: r) = none := by
  rcases hx.cases with ⟨i, rfl⟩ | ⟨c, rfl⟩
  · by_cases hk : k = 5
    · subst hk; rw [get_lpl]; rfl
    · exact get_lpl_no hk _ _ _ _ _ _ _
  · by_cases hk : k = 6
    · subst hk
      rw [getP_cons, idx_lky]
      cases firstI (keyIs c) K with
      | none => rfl
      | some j =>
        have e2 : kidT (.mk 6 n s [] K []) (lky c) j = none := by unfold kidT; rw [if_neg (lky_pl c)]; rfl
        rw [Option.bind_some, e2]; rfl
    · exact get_lky_no hk _ _ _ _ _ _ _
theorem sub_leaf {l : Lvs} {q : List PStep} {T : VT} (h1 : T.ls = []) (h2 : T.vs = []) (hin : (q, T) ∈ l) (hone : ∀ r t, AllCn r → (q ++ r, t) ∈ l → r = [] ∧ t = T) : SubOf l q T := by
  refine ⟨.leaf h1 h2, fun r t hr => ⟨?_, fun h => ?_⟩⟩
  · rintro ⟨h3, -⟩
    cases r with
    | nil =>
      simp only [getP, Option.some.injEq] at h3
      subst h3; simpa using hin
    | cons x r =>
      exfalso
      obtain ⟨k, n, s, L, K, V⟩ := T
      simp only [VT.ls, VT.vs] at h1 h2
      subst h1 h2
      rw [bare_get hr.tail.1] at h3
      cases h3
  · obtain ⟨rfl, rfl⟩ := hone r t hr h
    exact ⟨rfl, h1, h2⟩
theorem sub_list {l : Lvs} {q : List PStep} {L : List VT} (hL : L ≠ []) (hk : ∀ (i : Nat) (t : VT), L[i]? = some t → SubOf l (q ++ [lpl i]) t) (hall : ∀ r t, AllCn r → (q ++ r, t) ∈ l → ∃ i r', r = lpl i :: r' ∧ i < L.length) : SubOf l q (.mk 5 0 ⟨#[]⟩ L [] []) := by
  refine ⟨.list hL (fun t ht => ?_), fun r t hr => ⟨?_, fun h => ?_⟩⟩
  · obtain ⟨i, hi⟩ := List.getElem?_of_mem ht
    exact (hk i t hi).1
  · rintro ⟨h3, h4, h5⟩
    cases r with
    | nil =>
      simp only [getP, Option.some.injEq] at h3
      subst h3
      exact absurd h4 hL
    | cons x r =>
      rcases hr.tail.1.cases with ⟨i, rfl⟩ | ⟨c, rfl⟩
      · rw [get_lpl] at h3
        cases hi : L[i]? with
        | none => rw [hi] at h3; cases h3
        | some u =>
          rw [hi] at h3
          have := ((hk i u hi).2 r t hr.tail.2).1 ⟨h3, h4, h5⟩
          simpa using this
      · rw [get_lky_no (by decide)] at h3; cases h3
  · obtain ⟨i, r', rfl, hi⟩ := hall r t hr h
    have hu : L[i]? = some L[i] := List.getElem?_eq_getElem hi
    have h1 := ((hk i _ hu).2 r' t hr.tail.2).2 (by simpa using h)
    exact ⟨by rw [get_lpl, hu]; exact h1.1, h1.2⟩
theorem sub_map {l : Lvs} {q : List PStep} {K : List ByteArray} {V : List VT} (hV : V ≠ []) (hlen : K.length = V.length) (hs : Strict K) (hk : ∀ (j : Nat) (c : ByteArray) (t : VT), K[j]? = some c → V[j]? = some t → SubOf l (q ++ [lky c]) t) (hall : ∀ r t, AllCn r → (q ++ r, t) ∈ l → ∃ c r', r = lky c :: r' ∧ c ∈ K) : SubOf l q (.mk 6 0 ⟨#[]⟩ [] K V) := by
  have kof : ∀ (j : Nat) (t : VT), V[j]? = some t → ∃ c, K[j]? = some c := fun j t hj => ⟨_, List.getElem?_eq_getElem (by have := lt_of_some hj; omega)⟩
  refine ⟨.map hV hlen hs (fun t ht => ?_), fun r t hr => ⟨?_, fun h => ?_⟩⟩
  · obtain ⟨i, hi⟩ := List.getElem?_of_mem ht
    obtain ⟨c, hc⟩ := kof i t hi
    exact (hk i c t hc hi).1
  · rintro ⟨h3, h4, h5⟩
    cases r with
    | nil =>
      simp only [getP, Option.some.injEq] at h3
      subst h3
      exact absurd h5 hV
    | cons x r =>
      rcases hr.tail.1.cases with ⟨i, rfl⟩ | ⟨c, rfl⟩
      · rw [get_lpl_no (by decide)] at h3; cases h3
      · by_cases hc : c ∈ K
        · obtain ⟨j, hj⟩ := List.getElem?_of_mem hc
          have hv : V[j]? = some (V[j]'(by have := lt_of_some hj; omega)) := List.getElem?_eq_getElem _
          rw [get_lky 0 _ _ hs hj hv] at h3
          have := ((hk j c _ hj hv).2 r t hr.tail.2).1 ⟨h3, h4, h5⟩
          simpa using this
        · rw [get_lky_out 0 _ _ hc] at h3; cases h3
  · obtain ⟨c, r', rfl, hc⟩ := hall r t hr h
    obtain ⟨j, hj⟩ := List.getElem?_of_mem hc
    have hv : V[j]? = some (V[j]'(by have := lt_of_some hj; omega)) := List.getElem?_eq_getElem _
    have h1 := ((hk j c _ hj hv).2 r' t hr.tail.2).2 (by simpa using h)
    exact ⟨by rw [get_lky 0 _ _ hs hj hv]; exact h1.1, h1.2⟩
/-- all leaves laid -/
def evL (l : Lvs) : Evd := l.map fun e => (e.1, e.1.length + 1)
theorem evL_at {l : Lvs} {j : Nat} {x : List PStep × Nat} (h : (evL l)[j]? = some x) : ∃ e, l[j]? = some e ∧ x = (e.1, e.1.length + 1) := by
  unfold evL at h
  rw [List.getElem?_map] at h
  obtain ⟨e, he, rfl⟩ := Option.map_eq_some_iff.1 h
  exact ⟨e, he, rfl⟩
theorem evL_mem {l : Lvs} {x : List PStep × Nat} (h : x ∈ evL l) : ∃ e ∈ l, x = (e.1, e.1.length + 1) := by
  obtain ⟨e, he, rfl⟩ := List.mem_map.1 h
  exact ⟨e, he, rfl⟩
theorem evL_in {l : Lvs} {e : List PStep × VT} (h : e ∈ l) : (e.1, e.1.length + 1) ∈ evL l := List.mem_map.2 ⟨e, h, rfl⟩
theorem tk_app (q r : List PStep) : (q ++ r).take q.length = q := by simp
def kdR : List PStep → Int | [] => 1 | s :: _ => if s.place = true then 2 else 3
theorem kd_app (q r : List PStep) : kdP (q ++ r) q.length = kdR r := by
  unfold kdP
  rw [List.getElem?_append_right (Nat.le_refl _), Nat.sub_self]
  cases r with
  | nil => rfl
  | cons s r => rfl
/-- no leaf is wrong -/
def Fine (l : Lvs) : Prop := ∀ k, badE l k = 0
theorem Fine.bare {l : Lvs} (h : Fine l) {e : List PStep × VT} (he : e ∈ l) : e.2.ls = [] ∧ e.2.vs = [] := by
  obtain ⟨i, hi⟩ := List.getElem?_of_mem he
  have := h i
  unfold badE at this
  rw [hi] at this
  simp only at this
  by_cases hp : partsB e.2 = true
  · rw [if_pos hp] at this; cases this
  · unfold partsB at hp
    simp at hp
    exact hp
theorem Fine.apart {l : Lvs} (h : Fine l) {i j : Nat} {e e' : List PStep × VT} (hi : l[i]? = some e) (hj : l[j]? = some e') (hij : i < j) : clP e.1 e'.1 = false := by
  have := h j
  unfold badE at this
  rw [hj] at this
  simp only at this
  by_cases hp : partsB e'.2 = true
  · rw [if_pos hp] at this; cases this
  · rw [if_neg hp] at this
    cases hc : clP e.1 e'.1 with
    | false => rfl
    | true =>
      rw [if_pos (List.any_eq_true.2 ⟨e, by
        rw [List.mem_iff_getElem?]
        exact ⟨i, by rw [List.getElem?_take, if_pos hij]; exact hi⟩, hc⟩)] at this
      cases this
theorem clP_comm (p q : List PStep) : clP p q = clP q p := by
  have key : ∀ p q : List PStep, clP p q = true → clP q p = true := fun p q h => by
    obtain ⟨j, h1, h2, h3, h4⟩ := (clP_iff _ _).1 h
    refine (clP_iff _ _).2 ⟨j, h2, h1, h3.symm, ?_⟩
    rcases h4 with h4 | h4
    · exact .inl (fun e => h4 e.symm)
    · by_cases e : kdP q j = 1
      · exact .inr e
      · exact .inl (by rw [h4]; exact e)
  cases h1 : clP p q <;> cases h2 : clP q p
  · rfl
  · rw [key _ _ h2] at h1; cases h1
  · rw [key _ _ h1] at h2; cases h2
  · rfl
/-- of two leaves neither goes on behind the other -/
theorem Fine.pre {l : Lvs} (h : Fine l) {e e' : List PStep × VT} (he : e ∈ l) (he' : e' ∈ l) {r : List PStep} (hr : e'.1 = e.1 ++ r) : r = [] ∧ e' = e := by
  obtain ⟨i, hi⟩ := List.getElem?_of_mem he
  obtain ⟨j, hj⟩ := List.getElem?_of_mem he'
  have hcl : clP e.1 e'.1 = true := (clP_iff _ _).2 ⟨e.1.length, Nat.le_refl _, by rw [hr]; simp, by rw [hr]; simp, by
    right
    unfold kdP; rw [List.getElem?_eq_none (Nat.le_refl _)]⟩
  rcases Nat.lt_trichotomy i j with h1 | h1 | h1
  · rw [h.apart hi hj h1] at hcl; cases hcl
  · subst h1
    rw [hi] at hj; injection hj with hj
    subst hj
    have := congrArg List.length hr
    simp at this
    exact ⟨this, rfl⟩
  · rw [clP_comm, h.apart hj hi h1] at hcl; cases hcl
structure Grown (l : Lvs) (X : List (List PStep)) (N : List Nd) (M : List ((Nat × PStep) × Nat)) : Prop where
  tri : Trw (evL l) X N M
  ne : l ≠ []
  fine : Fine l
  cn : ∀ e ∈ l, AllCn e.1
theorem Grown.kind {l : Lvs} {X : List (List PStep)} {N : List Nd} {M : List ((Nat × PStep) × Nat)} (h : Grown l X N M) {a : Nat} {n : Nd} {q : List PStep} (hn : N[a]? = some n) (hq : X[a]? = some q) {e : List PStep × VT} (he : e ∈ l) {r : List PStep} (hr : e.1 = q ++ r) : n.sh = kdR r := by
  rw [← kd_app q r, ← hr]
  refine h.tri.sh1 a n q _ hn hq ⟨_, evL_in he, q.length, ?_, ?_, ?_, rfl⟩
  · simp only; rw [hr]; simp; omega
  · simp only; rw [hr]; simp
  · simp only; rw [hr, tk_app]
theorem Grown.any_ {l : Lvs} {X : List (List PStep)} {N : List Nd} {M : List ((Nat × PStep) × Nat)} (h : Grown l X N M) {q : List PStep} (hq : q ∈ X) : ∃ e ∈ l, ∃ r, e.1 = q ++ r := by
  rcases (h.tri.mem q).1 hq with rfl | ⟨x, hx, j, h1, h2, rfl⟩
  · obtain ⟨e, t, rfl⟩ := List.exists_cons_of_ne_nil h.ne
    exact ⟨e, by simp, e.1, rfl⟩
  · obtain ⟨e, he, rfl⟩ := evL_mem hx
    exact ⟨e, he, e.1.drop j, (List.take_append_drop j e.1).symm⟩
theorem Grown.node {l : Lvs} {X : List (List PStep)} {N : List Nd} {M : List ((Nat × PStep) × Nat)} (h : Grown l X N M) {e : List PStep × VT} (he : e ∈ l) {q r : List PStep} (hr : e.1 = q ++ r) : q ∈ X :=
  (h.tri.mem q).2 (.inr ⟨_, evL_in he, q.length, by simp only; rw [hr]; simp; omega, by simp only; rw [hr]; simp, by simp only; rw [hr, tk_app]⟩)
theorem Grown.ix_ {l : Lvs} {X : List (List PStep)} {N : List Nd} {M : List ((Nat × PStep) × Nat)} (h : Grown l X N M) {q : List PStep} (hq : q ∈ X) : ∃ (a : Nat) (n : Nd), X[a]? = some q ∧ N[a]? = some n := by
  obtain ⟨a, ha⟩ := List.getElem?_of_mem hq
  exact ⟨a, _, ha, List.getElem?_eq_getElem (by rw [← h.tri.len]; exact lt_of_some ha)⟩
/-- a leaf's node -/
theorem Grown.leaf {l : Lvs} {X : List (List PStep)} {N : List Nd} {M : List ((Nat × PStep) × Nat)} (h : Grown l X N M) {a : Nat} {n : Nd} {q : List PStep} (hn : N[a]? = some n) (hq : X[a]? = some q) (hs : n.sh = 1) : ∃ e, l[n.lf]? = some e ∧ e.1 = q := by
  rcases h.tri.lf a n q hn hq with ⟨rfl, h0⟩ | ⟨x, hx, ⟨j, h1, h2, rfl⟩, -⟩
  · have : q = [] := by have := h.tri.root; rw [hq] at this; injection this
    subst this
    obtain ⟨e, t, rfl⟩ := List.exists_cons_of_ne_nil h.ne
    refine ⟨e, by rw [h0]; rfl, ?_⟩
    have := h.kind hn hq (e := e) (by simp) (r := e.1) rfl
    rw [hs] at this
    cases he : e.1 with
    | nil => rfl
    | cons s r => rw [he] at this; simp only [kdR] at this; split at this <;> cases this
  · obtain ⟨e, he, rfl⟩ := evL_at hx
    refine ⟨e, he, ?_⟩
    simp only at h2 hq ⊢
    have := h.kind hn hq (List.mem_of_getElem? he) (r := e.1.drop j) (List.take_append_drop j e.1).symm
    rw [hs] at this
    cases hd : e.1.drop j with
    | nil =>
      have h5 := List.take_append_drop j e.1
      rw [hd, List.append_nil] at h5
      exact h5.symm
    | cons s r => rw [hd] at this; simp only [kdR] at this; split at this <;> cases this
theorem Grown.leaf_sub {l : Lvs} {X : List (List PStep)} {N : List Nd} {M : List ((Nat × PStep) × Nat)} (h : Grown l X N M) {a : Nat} {n : Nd} {q : List PStep} (hn : N[a]? = some n) (hq : X[a]? = some q) (hs : n.sh = 1) {e : List PStep × VT} (he : l[n.lf]? = some e) : SubOf l q e.2 := by
  obtain ⟨e', he', hq'⟩ := h.leaf hn hq hs
  rw [he] at he'; injection he' with he'; subst he'
  have hm := List.mem_of_getElem? he
  obtain ⟨h1, h2⟩ := h.fine.bare hm
  refine sub_leaf h1 h2 (by rw [← hq']; exact hm) (fun r t hr ht => ?_)
  obtain ⟨h3, h4⟩ := h.fine.pre hm ht (r := r) (by rw [hq'])
  exact ⟨h3, by rw [← h4]⟩
/-- a node's parts -/
theorem Grown.part {l : Lvs} {X : List (List PStep)} {N : List Nd} {M : List ((Nat × PStep) × Nat)} (h : Grown l X N M) {a : Nat} {n : Nd} {q : List PStep} (hn : N[a]? = some n) (hq : X[a]? = some q) {b : Nat} (hb : b ∈ n.ps) : ∃ nb, N[b]? = some nb ∧ X[b]? = some (q ++ [nb.st]) ∧ Cn nb.st ∧ nb.st.place = decide (n.sh = 2) ∧ n.sh ≠ 1 := by
  obtain ⟨s, hs⟩ := ((h.tri.ps a n q hn hq).2 b).1 hb
  obtain ⟨nb, hnb⟩ : ∃ nb, N[b]? = some nb := ⟨_, List.getElem?_eq_getElem (by rw [← h.tri.len]; exact lt_of_some hs)⟩
  have hst := h.tri.st b nb q s hnb hs
  obtain ⟨e, he, r, hr⟩ := h.any_ (List.mem_of_getElem? hs)
  have hk := h.kind hn hq he (r := s :: r) (by rw [hr]; simp)
  simp only [kdR] at hk
  subst hst
  refine ⟨nb, hnb, hs, h.cn e he _ (by rw [hr]; simp), ?_, ?_⟩
  · rw [hk]; cases nb.st.place <;> rfl
  · rw [hk]; split <;> decide
theorem Grown.has {l : Lvs} {X : List (List PStep)} {N : List Nd} {M : List ((Nat × PStep) × Nat)} (h : Grown l X N M) {a : Nat} {n : Nd} {q : List PStep} (hn : N[a]? = some n) (hq : X[a]? = some q) {e : List PStep × VT} (he : e ∈ l) {s : PStep} {r : List PStep} (hr : e.1 = q ++ s :: r) : ∃ b ∈ n.ps, ∃ nb, N[b]? = some nb ∧ X[b]? = some (q ++ [s]) ∧ nb.st = s := by
  have hx : q ++ [s] ∈ X := h.node he (r := r) (by rw [hr]; simp)
  obtain ⟨b, nb, h1, h2⟩ := h.ix_ hx
  exact ⟨b, ((h.tri.ps a n q hn hq).2 b).2 ⟨s, h1⟩, nb, h2, h1, h.tri.st b nb q s h2 h1⟩
/-- a node with parts has one -/
theorem Grown.ps_ne {l : Lvs} {X : List (List PStep)} {N : List Nd} {M : List ((Nat × PStep) × Nat)} (h : Grown l X N M) {a : Nat} {n : Nd} {q : List PStep} (hn : N[a]? = some n) (hq : X[a]? = some q) (hs : n.sh ≠ 1) : n.ps ≠ [] := by
  obtain ⟨e, he, r, hr⟩ := h.any_ (List.mem_of_getElem? hq)
  cases r with
  | nil => exact absurd (h.kind hn hq he hr) hs
  | cons s r =>
    obtain ⟨b, hb, -⟩ := h.has hn hq he hr
    intro e0; rw [e0] at hb; simp at hb
theorem Grown.sh {l : Lvs} {X : List (List PStep)} {N : List Nd} {M : List ((Nat × PStep) × Nat)} (h : Grown l X N M) {a : Nat} {n : Nd} {q : List PStep} (hn : N[a]? = some n) (hq : X[a]? = some q) : n.sh = 1 ∨ n.sh = 2 ∨ n.sh = 3 := by
  obtain ⟨e, he, r, hr⟩ := h.any_ (List.mem_of_getElem? hq)
  rw [h.kind hn hq he hr]
  cases r with
  | nil => exact .inl rfl
  | cons s r => simp only [kdR]; split; exact .inr (.inl rfl); exact .inr (.inr rfl)
/-- places of a list's node -/
def plN (N : List Nd) (b : Nat) : Nat := ((N[b]?).map fun n => n.st.at_.toNat).getD 0
theorem Grown.place {l : Lvs} {X : List (List PStep)} {N : List Nd} {M : List ((Nat × PStep) × Nat)} (h : Grown l X N M) {a : Nat} {n : Nd} {q : List PStep} (hn : N[a]? = some n) (hq : X[a]? = some q) (hs : n.sh = 2) {b : Nat} (hb : b ∈ n.ps) : ∃ nb, N[b]? = some nb ∧ X[b]? = some (q ++ [lpl (plN N b)]) ∧ nb.st = lpl (plN N b) := by
  obtain ⟨nb, h1, h2, h3, h4, -⟩ := h.part hn hq hb
  rw [hs] at h4
  rcases h3.cases with ⟨i, hi⟩ | ⟨c, hc⟩
  · have : plN N b = i := by unfold plN; rw [h1]; simp [hi, lpl]
    rw [this]
    exact ⟨nb, h1, by rw [← hi]; exact h2, hi⟩
  · rw [hc] at h4; cases h4
theorem lpl_inj {i j : Nat} (h : lpl i = lpl j) : i = j := by
  unfold lpl at h
  injection h with h1 h2
  omega
theorem Grown.pl_nodup {l : Lvs} {X : List (List PStep)} {N : List Nd} {M : List ((Nat × PStep) × Nat)} (h : Grown l X N M) {a : Nat} {n : Nd} {q : List PStep} (hn : N[a]? = some n) (hq : X[a]? = some q) (hs : n.sh = 2) : (n.ps.map (plN N)).Nodup := by
  have h1 := (h.tri.ps a n q hn hq).1
  have key : ∀ L : List Nat, L.Nodup → (∀ b ∈ L, b ∈ n.ps) → (L.map (plN N)).Nodup := fun L => by
    induction L with
    | nil => intro _ _; exact List.nodup_nil
    | cons b L ih =>
      intro h2 h3
      rw [List.map_cons, List.nodup_cons]
      obtain ⟨h4, h5⟩ := List.nodup_cons.1 h2
      refine ⟨fun hm => ?_, ih h5 (fun c hc => h3 c (by simp [hc]))⟩
      obtain ⟨c, hc, e⟩ := List.mem_map.1 hm
      obtain ⟨nb, -, h6, -⟩ := h.place hn hq hs (h3 b (by simp))
      obtain ⟨nc, -, h7, -⟩ := h.place hn hq hs (h3 c (by simp [hc]))
      rw [e] at h7
      have := ix_inj h.tri.nd h6 h7
      subst this
      exact h4 hc
  exact key n.ps h1 (fun _ h => h)
/-- a list's node is well just if its list has no gap -/
theorem Grown.whole {l : Lvs} {X : List (List PStep)} {N : List Nd} {M : List ((Nat × PStep) × Nat)} (h : Grown l X N M) {a : Nat} {n : Nd} {q : List PStep} (hn : N[a]? = some n) (hq : X[a]? = some q) (hs : n.sh = 2) : (∀ b ∈ n.ps, plN N b < n.ps.length) ↔ WholeAt l q := by
  have hpl : ∀ x : Int, PlaceAt l q x ↔ ∃ b ∈ n.ps, ((plN N b : Nat) : Int) = x := fun x => by
    constructor
    · rintro ⟨e, he, s, ⟨r, hr⟩, rfl⟩
      obtain ⟨b, hb, nb, h1, h2, h3⟩ := h.has hn hq he (s := s) (r := r) (by rw [← hr]; simp)
      obtain ⟨nb', h1', -, h3'⟩ := h.place hn hq hs hb
      rw [h1] at h1'; injection h1' with h1'; subst h1'
      exact ⟨b, hb, by rw [← h3, h3']; rfl⟩
    · rintro ⟨b, hb, rfl⟩
      obtain ⟨nb, h1, h2, h3⟩ := h.place hn hq hs hb
      obtain ⟨e, he, r, hr⟩ := h.any_ (List.mem_of_getElem? h2)
      exact ⟨e, he, _, ⟨r, hr.symm⟩, rfl⟩
  have hF := full_iff (h.pl_nodup hn hq hs)
  rw [List.length_map] at hF
  constructor
  · intro h1 x hx k hk0 hk
    obtain ⟨b, hb, rfl⟩ := (hpl x).1 hx
    have h2 := hF.2 (fun y hy => by
      obtain ⟨c, hc, rfl⟩ := List.mem_map.1 hy
      exact h1 c hc)
    have := h2 (plN N b) (List.mem_map.2 ⟨b, hb, rfl⟩) k.toNat (by omega)
    obtain ⟨c, hc, hck⟩ := List.mem_map.1 this
    exact (hpl k).2 ⟨c, hc, by omega⟩
  · intro h1 b hb
    refine hF.1 (fun y hy k hk => ?_) _ (List.mem_map.2 ⟨b, hb, rfl⟩)
    obtain ⟨c, hc, rfl⟩ := List.mem_map.1 hy
    obtain ⟨c', hc', e⟩ := (hpl (k : Int)).1 (h1 _ ((hpl _).2 ⟨c, hc, rfl⟩) k (by omega) (by omega))
    exact List.mem_map.2 ⟨c', hc', by omega⟩
/-- a node that is well -/
def Well (N : List Nd) (n : Nd) : Prop := n.sh = 2 → ∀ b ∈ n.ps, plN N b < n.ps.length
theorem Grown.no_gap {l : Lvs} {X : List (List PStep)} {N : List Nd} {M : List ((Nat × PStep) × Nat)} (h : Grown l X N M) (hw : ∀ n ∈ N, Well N n) (k : Nat) : ¬ GapAt l k := by
  rintro ⟨e, he, q, s, ⟨r, hr⟩, hp, hg⟩
  have hm := List.mem_of_getElem? he
  obtain ⟨a, n, h1, h2⟩ := h.ix_ (h.node hm (q := q) (r := s :: r) (by rw [← hr]; simp))
  have hk := h.kind h2 h1 hm (r := s :: r) (by rw [← hr]; simp)
  simp only [kdR, hp, if_true] at hk
  exact hg ((h.whole h2 h1 hk).1 (hw n (List.mem_of_getElem? h2) hk))
theorem Grown.gap {l : Lvs} {X : List (List PStep)} {N : List Nd} {M : List ((Nat × PStep) × Nat)} (h : Grown l X N M) {a : Nat} {n : Nd} (hn : N[a]? = some n) (hw : ∀ (c : Nat) (m : Nd), c < a → N[c]? = some m → Well N m) (hb : ¬ Well N n) : GapAt l n.lf ∧ ∀ k, k < n.lf → ¬ GapAt l k := by
  obtain ⟨q, hq⟩ : ∃ q, X[a]? = some q := ⟨_, List.getElem?_eq_getElem (by rw [h.tri.len]; exact lt_of_some hn)⟩
  have hs : n.sh = 2 := by
    by_cases e : n.sh = 2
    · exact e
    · exact absurd (fun h0 => absurd h0 e) hb
  have hnw : ¬ WholeAt l q := fun hwh => hb (fun _ => (h.whole hn hq hs).2 hwh)
  refine ⟨?_, fun k hk => ?_⟩
  · have fin : ∀ (e : List PStep × VT) (r : List PStep), l[n.lf]? = some e → e.1 = q ++ r → GapAt l n.lf := fun e r he hr => by
      have hkk := h.kind hn hq (List.mem_of_getElem? he) hr
      rw [hs] at hkk
      cases r with
      | nil => cases hkk
      | cons s r =>
        refine ⟨e, he, q, s, ⟨r, by rw [hr]; simp⟩, ?_, hnw⟩
        simp only [kdR] at hkk
        cases hp : s.place with
        | true => rfl
        | false => rw [hp] at hkk; simp at hkk
    rcases h.tri.lf a n q hn hq with ⟨rfl, h0⟩ | ⟨x, hx, ⟨j, h1, h2, h3⟩, -⟩
    · have : q = [] := by have := h.tri.root; rw [hq] at this; injection this
      subst this
      obtain ⟨e, t, hl⟩ := List.exists_cons_of_ne_nil h.ne
      exact fin e e.1 (by rw [h0, hl]; rfl) rfl
    · obtain ⟨e, he, rfl⟩ := evL_at hx
      exact fin e (e.1.drop j) he (by rw [h3]; exact (List.take_append_drop j e.1).symm)
  · rintro ⟨e, he, q', s, ⟨r, hr⟩, hp, hg⟩
    have hm := List.mem_of_getElem? he
    obtain ⟨c, m, h1, h2⟩ := h.ix_ (h.node hm (q := q') (r := s :: r) (by rw [← hr]; simp))
    have hkk := h.kind h2 h1 hm (r := s :: r) (by rw [← hr]; simp)
    simp only [kdR, hp, if_true] at hkk
    have hnm : ¬ Well N m := fun hwm => hg ((h.whole h2 h1 hkk).1 (hwm hkk))
    have hca : a ≤ c := by
      rcases Nat.lt_or_ge c a with h3 | h3
      · exact absurd (hw c m h3 h2) hnm
      · exact h3
    have hmono := h.tri.mono a c n m hca hn h2
    rcases h.tri.lf c m q' h2 h1 with ⟨-, h0⟩ | ⟨x, hx, -, h3⟩
    · omega
    · have hy : (evL l)[k]? = some (e.1, e.1.length + 1) := by unfold evL; rw [List.getElem?_map, he]; rfl
      exact h3 k _ (by omega) hy ⟨q'.length, by simp only; rw [← hr]; simp; omega, by simp only; rw [← hr]; simp, by simp only; rw [← hr]; simp⟩
end Go.Proofs.YtadbeodeiijhdaaGreatDoor
