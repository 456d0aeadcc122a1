/- The library's Clone and SortFunc at pairs, laid at this translation. -/
import Derived.Test.YteimbjamnfkapaaGreatDoorCUnC
import Derived.Test.YteimbjamnfkapaaGreatDoorCMathUc
import Derived.Test.YteimbjamnfkapaaGreatDoorCPathFind
import Derived.Shelf.SlSortCmp.WholeK
import Derived.Shelf.SlSortCmp.NoneTotal
import Derived.Test.YteimbjamnfkapaaGreatDoorProg
import Derived.Test.YteimbjamnfkapaaGreatDoorCVBase
import Derived.Test.YteimbjamnfkapaaGreatDoorCPathDoc
import Derived.Test.YteimbjamnfkapaaGreatDoorCShelf
import Derived.Test.YteimbjamnfkapaaGreatDoorCMathDecAll
/- unflat: a leaf's way laid. -/
namespace Go.Proofs.YteimbjamnfkapaaGreatDoor
open Go.RowKit Go.Maps
theorem Kp.bel {B : Nat} {W0 w w' : World} (h : Kp B w w') (h0 : W0.heap.size = B) (hb : Below B W0 w) : Below B W0 w' := h W0 h0 hb
theorem stp_of {w W : World} {a b c : Value} (h : W = w.alloc (.cells #[a, b, c] 78)) : W.cell? ⟨w.heap.size, 0, none⟩ = some a ∧ W.cell? ⟨w.heap.size, 1, none⟩ = some b ∧ W.cell? ⟨w.heap.size, 2, none⟩ = some c ∧ Below w.heap.size w W := by
 subst h
 exact ⟨by simp, by simp, by simp, valloc_bel (Below.refl _ _) _⟩
theorem hol_kd {p : List PStep} {d : Nat} {s : PStep} (h : p[d]? = some s) : hol s = kdP p d := (kd_mid h).symm
structure TT (B : Nat) (w : World) (tb m : Nat) (Ev : Evd) (X : List (List PStep)) (g c : Nat) (E : List NE) (M : Ways) : Prop where
 tm : TM B w tb m (.slice (some ⟨g, 0, none⟩) E.length c) E M
 tri : Trw Ev X (E.map NE.d) M
 cap : E.length ≤ c
theorem TT.sh {B : Nat} {w : World} {tb m g c : Nat} {Ev : Evd} {X : List (List PStep)} {E : List NE} {M : Ways} (h : TT B w tb m Ev X g c E M) {a : Nat} {e : NE} (he : E[a]? = some e) : 0 ≤ e.d.sh ∧ e.d.sh ≤ 3 := by
 have hn : (E.map NE.d)[a]? = some e.d := by rw [List.getElem?_map, he]; rfl
 obtain ⟨q, hq⟩ : ∃ q, X[a]? = some q := ⟨_, List.getElem?_eq_getElem (by rw [h.tri.len]; exact lt_of_some hn)⟩
 by_cases h0 : e.d.sh = 0
 ·omega
 ·obtain ⟨x, -, j, -, -, -, hk⟩ := h.tri.sh2 a e.d q hn hq h0
  rcases kd_val x.1 j with e1 | e1 | e1 <;> rw [hk, e1] <;> decide
theorem map_set {E : List NE} {a : Nat} (e : NE) : (E.set a e).map NE.d = (E.map NE.d).set a e.d := by
 rw [List.map_set]
theorem TT.ps {B : Nat} {w : World} {tb m g c : Nat} {Ev : Evd} {X : List (List PStep)} {E : List NE} {M : Ways} (h : TT B w tb m Ev X g c E M) {a : Nat} {e : NE} (he : E[a]? = some e) : e.d.ps.length ≤ E.length := by
 have hn : (E.map NE.d)[a]? = some e.d := by rw [List.getElem?_map, he]; rfl
 obtain ⟨q, hq⟩ : ∃ q, X[a]? = some q := ⟨_, List.getElem?_eq_getElem (by rw [h.tri.len]; exact lt_of_some hn)⟩
 obtain ⟨h1, h2⟩ := h.tri.ps a e.d q hn hq
 have h3 : e.d.ps ⊆ List.range E.length := fun b hb => by
  obtain ⟨s, h4⟩ := (h2 b).1 hb
  have := lt_of_some h4
  rw [h.tri.len, List.length_map] at this
  rw [List.mem_range]; exact this
 have := List.Nodup.length_le_of_subset h1 h3
 rwa [List.length_range] at this
theorem part_tt (B : Nat) (w : World) (tb m : Nat) (Ev : Evd) (X : List (List PStep)) (g c : Nat) (E : List NE) (M : Ways) (p : List PStep) (d : Nat) (s : PStep) (hp : p[d]? = some s) (a : Nat) (e : NE) (he : E[a]? = some e) (hx : X[a]? = some (p.take d)) (hT : Trw (Ev ++ [(p, d)]) X (E.map NE.d) M) (hs : e.d.sh = 0 ∨ e.d.sh = kdP p d)
  (h : TM B w tb m (.slice (some ⟨g, 0, none⟩) E.length c) (E.set a ⟨{e.d with sh := kdP p d}, e.u⟩) M) (hc : E.length ≤ c) (hpsl : e.d.ps.length ≤ E.length) (hok : OkS s) (hcn : Cn s) (hl : E.length ≤ 9000000) (lf : Nat) (hlf : lf = Ev.length) (hlb : lf ≤ 9000000) :
  Calls Tryz.prog 92 #[.pointer (some ⟨tb, 0, none⟩), .int .i64 (a : Int), pv s, .int .i64 (lf : Int)] w fun r w' => Kp B w w' ∧ ∃ (b : Nat) (X' : List (List PStep)) (g' c' : Nat) (E' : List NE) (M' : Ways), r = .returned (.int .i64 (b : Int)) ∧ TT B w' tb m (Ev ++ [(p, d + 1)]) X' g' c' E' M' ∧ X'[b]? = some (p.take (d + 1)) ∧ E'.length ≤ E.length + 1 ∧ b < E'.length ∧ (∀ k, k < w.heap.size → Off tb m g E k → w'.heap[k]? = w.heap[k]? ∧ Off tb m g' E' k) ∧ w.heap.size ≤ w'.heap.size := by
 have hem : (E.map NE.d)[a]? = some e.d := by rw [List.getElem?_map, he]; rfl
 obtain ⟨E1, hE1⟩ : ∃ E1, E.set a ⟨{e.d with sh := kdP p d}, e.u⟩ = E1 := ⟨_, rfl⟩
 have hl1 : E1.length = E.length := by rw [← hE1, List.length_set]
 have he1 : E1[a]? = some ⟨{e.d with sh := kdP p d}, e.u⟩ := by rw [← hE1, List.getElem?_set_self (lt_of_some he)]
 rw [hE1, ← hl1] at h
 have hml : M.length ≤ 10000000 := by have := hT.ml; rw [List.length_map] at this; omega
 have hgw : ¬ g = w.heap.size := fun e0 => by have := (h.ns.lt g rfl).2; omega
 have hoff : ∀ k, Off tb m g E k → Off tb m g E1 k := fun k hk => ⟨hk.1, hk.2.1, hk.2.2.1, fun e' he' => by
  rw [← hE1] at he'
  rcases List.mem_or_eq_of_mem_set he' with he' | rfl
  ·exact hk.2.2.2 e' he'
  ·exact hk.2.2.2 e (List.mem_of_getElem? he)⟩
 have hmap : E1.map NE.d = (E.map NE.d).set a {e.d with sh := kdP p d} := by rw [← hE1, map_set]
 cases hf : mpF M (a, s) with
 | some b =>
  obtain ⟨h1, h2⟩ := hT.step_old hp hem hx hs hf
  rw [← hmap] at h1
  have fin : ∀ (r : Ending) (w' : World), (r = .returned (.int .i64 (b : Int)) ∧ TM B w' tb m (.slice (some ⟨g, 0, none⟩) E1.length c) E1 M ∧ Kp B w w' ∧ Below w.heap.size w w') → Kp B w w' ∧ ∃ (b : Nat) (X' : List (List PStep)) (g' c' : Nat) (E' : List NE) (M' : Ways), r = .returned (.int .i64 (b : Int)) ∧ TT B w' tb m (Ev ++ [(p, d + 1)]) X' g' c' E' M' ∧ X'[b]? = some (p.take (d + 1)) ∧ E'.length ≤ E.length + 1 ∧ b < E'.length ∧ (∀ k, k < w.heap.size → Off tb m g E k → w'.heap[k]? = w.heap[k]? ∧ Off tb m g' E' k) ∧ w.heap.size ≤ w'.heap.size := by
   rintro r w' ⟨h3, h4, h5, h6⟩
   exact ⟨h5, b, X, g, c, E1, M, h3, ⟨h4, h1, by omega⟩, h2, by omega, by have := lt_of_some h2; rw [h1.len, List.length_map] at this; exact this, fun k hk ho => ⟨h6.block k hk, hoff k ho⟩, h6.size⟩
  cases hpl : s.place with
  | true =>
   have hno : s.key = ⟨#[]⟩ := by rcases hcn with h | h; exact h.2.1; rw [hpl] at h; cases h.1
   exact (part_oldP B w tb m g c E1 M h a _ he1 s lf hok hpl hno (by omega) (by omega) hml (by show e.d.ps.length ≤ _; omega) (by omega) b hf).mono fin
  | false =>
   have hno : s.at_ = 0 := by rcases hcn with h | h; rw [hpl] at h; cases h.1; exact h.2
   exact (part_oldK B w tb m g c E1 M h a _ he1 s lf hok hpl hno (by omega) (by omega) hml (by show e.d.ps.length ≤ _; omega) (by omega) b hf).mono fin
 | none =>
  obtain ⟨h1, h2⟩ := hT.step_new hp hem hx hs hf
  rw [List.length_map] at h1 h2
  have fin : ∀ (r : Ending) (w' : World), (r = .returned (.int .i64 (E1.length : Int)) ∧ PartNew B w tb m g E1 M a ⟨{e.d with sh := kdP p d}, e.u⟩ s lf w') → Kp B w w' ∧ ∃ (b : Nat) (X' : List (List PStep)) (g' c' : Nat) (E' : List NE) (M' : Ways), r = .returned (.int .i64 (b : Int)) ∧ TT B w' tb m (Ev ++ [(p, d + 1)]) X' g' c' E' M' ∧ X'[b]? = some (p.take (d + 1)) ∧ E'.length ≤ E.length + 1 ∧ b < E'.length ∧ (∀ k, k < w.heap.size → Off tb m g E k → w'.heap[k]? = w.heap[k]? ∧ Off tb m g' E' k) ∧ w.heap.size ≤ w'.heap.size := by
   rintro r w' ⟨h3, g', c', u', h4, h5, h6, h8, h7⟩
   obtain ⟨E2, hE2⟩ : ∃ E2, (E1.set a ⟨{({e.d with sh := kdP p d} : Nd) with ps := e.d.ps ++ [E1.length]}, u'⟩) ++ [⟨⟨0, s, lf, []⟩, .slice none 0 0⟩] = E2 := ⟨_, rfl⟩
   have hl2 : E2.length = E1.length + 1 := by rw [← hE2]; simp
   rw [hE2, ← hl2] at h4
   rw [hE2] at h7
   refine ⟨h6, E1.length, X ++ [p.take (d + 1)], g', c', E2, _, h3, ⟨h4, ?_, by omega⟩, by rw [hl1]; exact h2, by omega, by omega, fun k hk ho => h7 k hk (hoff k ho), h8⟩
   have e3 : E2.map NE.d = ((E.map NE.d).set a ⟨kdP p d, e.d.st, e.d.lf, e.d.ps ++ [E.length]⟩) ++ [⟨0, s, Ev.length, []⟩] := by
    rw [← hE2, List.map_append, map_set, hmap, List.set_set, hl1, hlf]; rfl
   rw [e3, hl1]; exact h1
  cases hpl : s.place with
  | true =>
   have hno : s.key = ⟨#[]⟩ := by rcases hcn with h | h; exact h.2.1; rw [hpl] at h; cases h.1
   exact (part_newP B w tb m g c E1 M h a _ he1 s lf hok hpl hno (by omega) (by omega) hml (by show e.d.ps.length ≤ _; omega) (by omega) hf hgw).mono fin
  | false =>
   have hno : s.at_ = 0 := by rcases hcn with h | h; rw [hpl] at h; cases h.1; exact h.2
   exact (part_newK B w tb m g c E1 M h a _ he1 s lf hok hpl hno (by omega) (by omega) hml (by show e.d.ps.length ≤ _; omega) (by omega) hf hgw).mono fin
def LayP (B : Nat) (W0 w : World) (tb m : Nat) (g0 : Nat) (E0 : List NE) (Ev : Evd) (p : List PStep) (n : Nat) (r : Ending) (w' : World) : Prop :=
 Below B W0 w' ∧ (((∃ x ∈ Ev, clP x.1 p = true) ∧ r = .returned (.bool false)) ∨ ((∀ x ∈ Ev, clP x.1 p = false) ∧ r = .returned (.bool true) ∧ ∃ X g c E M, TT B w' tb m (Ev ++ [(p, p.length + 1)]) X g c E M ∧ E.length ≤ n + p.length ∧ 0 < E.length ∧ ∀ k, k < w.heap.size → Off tb m g0 E0 k → w'.heap[k]? = w.heap[k]?))
set_option maxRecDepth 100000 in
set_option maxHeartbeats 4000000 in
theorem lay_any (B : Nat) (W0 w : World) (h0 : W0.heap.size = B) (hb0 : Below B W0 w) (tb m : Nat) (Ev : Evd) (X : List (List PStep)) (g c : Nat) (E : List NE) (M : Ways) (h : TT B w tb m Ev X g c E M) (p : List PStep) (pv' : Value) (hp : InP W0 p pv') (hok : ∀ s ∈ p, OkS s) (hcn : ∀ s ∈ p, Cn s) (hbd : E.length + p.length ≤ 9000000) (hev : ∀ x ∈ Ev, x.2 = x.1.length + 1) (lf : Nat) (hlf : lf = Ev.length) (hlb : lf ≤ 9000000) (hE0 : 0 < E.length) :
  Calls Tryz.prog 49 #[.pointer (some ⟨tb, 0, none⟩), pv', .int .i64 (lf : Int)] w (LayP B W0 w tb m g E Ev p E.length) := by
 obtain ⟨ap, ⟨op, cp, rfl, hp1, hp2, hp3⟩, hpc⟩ := hp
 have HPC := hid hpc
 have HP3 := hid hp3
 have HT := hid h
 have HOK := hid hok
 have HCN := hid hcn
 have HEV := hid hev
 have HLF := hid hlf
 have HB0 := hid hb0
 obtain ⟨g0, hg0⟩ : ∃ n, g = n := ⟨_, rfl⟩
 obtain ⟨E0, hEE⟩ : ∃ n, E = n := ⟨_, rfl⟩
 have HG0 := hid hg0
 have HEE := hid hEE
 obtain ⟨n0, hn0⟩ : ∃ n, E.length = n := ⟨_, rfl⟩
 rw [hn0] at hbd hE0 ⊢
 rw [show LayP B W0 w tb m g E Ev p n0 = LayP B W0 w tb m g0 E0 Ev p n0 by rw [hg0, hEE]]
 have HN0 := hid hn0
 obtain ⟨np, hnp⟩ : ∃ n, p.length = n := ⟨_, rfl⟩
 rw [hnp] at hbd hp1 hp3 ⊢
 have HNP := hid hnp
 have H0 := hid h0
 clear h hok hcn hev hlf hb0 hp3 hpc hn0 hnp h0 hg0 hEE
 go_enter Tryz.func49, Tryz.ntmps49
 go_wp2_with fail
 go_loopw [7, 13] (fun av i wr => ∃ (d a : Nat) (X : List (List PStep)) (g c : Nat) (E : List NE) (M : Ways), i = .int .i64 d ∧ av = .int .i64 a ∧ d ≤ np ∧ Hid (TT B wr tb m (Ev ++ [(p, d)]) X g c E M) ∧ Hid (X[a]? = some (p.take d)) ∧ Hid (Below B W0 wr) ∧ Hid (E.length ≤ n0 + d) ∧ a < E.length ∧ Hid (∀ k, k < w.heap.size → Off tb m g0 E0 k → wr.heap[k]? = w.heap[k]? ∧ Off tb m g E k) ∧ Hid (w.heap.size ≤ wr.heap.size)) (fun _ i _ => np - (intOf i).toNat)
 case atStart => exact ⟨0, 0, X, g, c, E, M, rfl, rfl, Nat.zero_le _, hid ⟨HT.out.tm, HT.out.tri.start p, HT.out.cap⟩, hid (by rw [List.take_zero]; exact HT.out.tri.root), HB0, hid (by rw [HN0.out]; omega), by rw [HN0.out]; omega, hid (fun k _ hk => ⟨rfl, by rw [HG0.out, HEE.out]; exact hk⟩), hid (Nat.le_refl _)⟩
 case round =>
  clear HT HB0
  obtain ⟨d, a, X, g, c, E, M, rfl, rfl, hd, HT, HX, HB, HL, ha, HOF, HWS⟩ := hrel
  have hEl : E.length ≤ 9000000 := by have := HL.out; omega
  have hcE := HT.out.cap
  obtain ⟨e, he⟩ : ∃ e, E[a]? = some e := ⟨E[a], List.getElem?_eq_getElem ha⟩
  have HE := hid he
  have hem : (E.map NE.d)[a]? = some e.d := by rw [List.getElem?_map, he]; rfl
  have HEM := hid hem
  clear hem he
  by_cases hlt : d < np
  ·obtain ⟨s, hs⟩ : ∃ s, p[d]? = some s := ⟨p[d]'(by rw [HNP.out]; exact hlt), List.getElem?_eq_getElem _⟩
   have hsm := List.mem_of_getElem? hs
   have hso := HOK.out s hsm
   have hsc := HCN.out s hsm
   obtain ⟨c0, c1, c2, c3⟩ := HPC.out d s hs
   have hbb : Below W0.heap.size W0 wr := by have := HB.out; rwa [← H0.out] at this
   have c0 := keepCell hbb c0
   have c1 := keepCell hbb c1
   have c2 := keepCell hbb c2
   obtain rfl := HP3.out (by rw [HNP.out]; omega)
   have HS := hid hs
   have HSO := hid hso
   have HSC := hid hsc
   have HDB := hid (show d ≤ p.length by rw [HNP.out]; omega)
   clear hs hsm hso hsc hbb
   go_upto_region 5 with fail
   refine cewp_gen ?_
   intro W hW
   obtain ⟨b0, b1, b2, hbW⟩ := stp_of hW
   have HT1 := hid (HT.out.tm.onto hbW)
   have HB1 := hid ((Kp.of (B := B) hbW).bel H0.out HB.out)
   have HH := hid (holds_any B W tb m g c E M HT1.out a e HE.out s (by omega) hcE (HT.out.sh HE.out))
   have HBW := hid hbW
   clear hW hbW c0 c1 c2
   unfold pv at HH
   go_wp2_with fail
   go_at_call 91
   refine HH.out.mono ?_
   rintro r w1 ⟨rfl, hT2, hK2, hfar, hsz1⟩
   have HSZ := hid hsz1
   clear hsz1
   have hgl := (HT.out.tm.ns.lt g rfl).2
   have HFAR := hid hfar
   have hne : ¬ wr.heap.size = g := by omega
   have c0 := (World.cell?_of_block (a := ⟨wr.heap.size, 0, none⟩) (hfar wr.heap.size (World.block_lt_of_cell? W ⟨wr.heap.size, 0, none⟩ b0) hne)).trans b0
   have c1 := (World.cell?_of_block (a := ⟨wr.heap.size, 1, none⟩) (hfar wr.heap.size (World.block_lt_of_cell? W ⟨wr.heap.size, 0, none⟩ b0) hne)).trans b1
   have c2 := (World.cell?_of_block (a := ⟨wr.heap.size, 2, none⟩) (hfar wr.heap.size (World.block_lt_of_cell? W ⟨wr.heap.size, 0, none⟩ b0) hne)).trans b2
   clear b0 b1 b2 hfar hgl hne
   have HB2 := hid (hK2.bel H0.out HB1.out)
   have HKD := hid (hol_kd HS.out)
   by_cases hcl : nsh e.d.sh s = hol s
   ·have hdec : decide (nsh e.d.sh s = hol s) = true := decide_eq_true hcl
    have HSH := hid (show e.d.sh = 0 ∨ e.d.sh = kdP p d by
     unfold nsh at hcl
     by_cases h0 : e.d.sh = 0
     ·exact .inl h0
     ·rw [if_neg h0] at hcl
      exact .inr (hcl.trans HKD.out))
    rw [hcl, HKD.out] at hT2
    rw [hdec]
    have HT2 := hid hT2
    have HP := hid (part_tt B w1 tb m Ev X g c E M p d s HS.out a e HE.out HX.out HT.out.tri HSH.out HT2.out hcE (HT.out.ps HE.out) HSO.out HSC.out hEl lf HLF.out hlb)
    clear hdec hcl hT2
    unfold pv at HP
    go_wp2_with fail
    go_at_call 92
    refine HP.out.mono ?_
    rintro r w2 ⟨hK3, b, X', g', c', E', M', rfl, hTT, hX', hE', hb', hof', hsz'⟩
    have HOF2 := hid (show ∀ k, k < w.heap.size → Off tb m g0 E0 k → w2.heap[k]? = w.heap[k]? ∧ Off tb m g' E' k from fun k hk ho => by
     obtain ⟨f1, f2⟩ := HOF.out k hk ho
     have s1 := HWS.out
     have s2 := HBW.out.size
     have s3 := HSZ.out
     have e1 := (HFAR.out k (by omega) f2.2.2.1).trans (HBW.out.block k (by omega))
     obtain ⟨f3, f4⟩ := hof' k (by omega) f2
     exact ⟨f3.trans (e1.trans f1), f4⟩)
    have HWS2 := hid (show w.heap.size ≤ w2.heap.size from by have s1 := HWS.out; have s2 := HBW.out.size; have s3 := HSZ.out; have s4 := hsz'; omega)
    have HB3 := hid (hK3.bel H0.out HB2.out)
    have HTT := hid hTT
    have HX2 := hid hX'
    have HL2 := hid (show E'.length ≤ n0 + (d + 1) by have := HL.out; omega)
    have HBL := hid hb'
    clear hK3 hTT hX' hE' hb' hof' hsz' c0 c1 c2
    go_wp2_with fail
    go_roundw
    case rel => exact ⟨d + 1, b, X', g', c', E', M', val_int (by omega), rfl, hlt, HTT, HX2, HB3, HL2, HBL.out, HOF2, HWS2⟩
    case measure => simp [intOf]; omega
   ·have hdec : decide (nsh e.d.sh s = hol s) = false := decide_eq_false hcl
    rw [hdec]
    have HCL := hid (show ∃ x ∈ Ev, clP x.1 p = true from by
     have h0 : e.d.sh ≠ 0 := fun h0 => hcl (by unfold nsh; rw [if_pos h0])
     refine HT.out.tri.clash HDB.out HEM.out HX.out h0 (.inl fun h1 => hcl ?_)
     unfold nsh
     rw [if_neg h0, h1, HKD.out])
    clear hdec hcl hT2
    go_wp2_with fail
    go_ret
    exact ⟨HB2.out, .inl ⟨HCL.out, rfl⟩⟩
  ·have hdn : d = np := by omega
   subst hdn
   have HXP := hid (show X[a]? = some p by have := HX.out; rw [← HNP.out, List.take_length] at this; exact this)
   have HTP := hid (show Trw (Ev ++ [(p, p.length)]) X (E.map NE.d) M by have := HT.out.tri; rw [← HNP.out] at this; exact this)
   obtain ⟨q, hq⟩ : ∃ k, e.d.sh = k := ⟨_, rfl⟩
   have hsh := HT.out.sh HE.out
   rw [hq] at hsh
   have HQ := hid hq
   obtain ⟨q0, -, -⟩ := HT.out.tm.cells
   have q1 := HT.out.tm.at_ HE.out 0 _ rfl
   rw [hq, Nat.add_zero] at q1
   have qf : wr.frozen? ⟨g, a * 6, none⟩ = false := HT.out.tm.ns.frozenAt (a * 6)
   have HTW := hid (HT.out.tm)
   clear hq
   by_cases h0 : q = 0
   ·subst h0
    obtain ⟨hT3, hK3⟩ := HTW.out.set HE.out 1
    have hdone := HTP.out.done HEM.out HXP.out HQ.out
    have HDN := hid (show ∀ x ∈ Ev, clP x.1 p = false from fun x hx => hdone.2 x hx (HEV.out x hx))
    have HT4 := hid (show TT B (wr.setCell ⟨g, a * 6, none⟩ (.int .i64 1)) tb m (Ev ++ [(p, p.length + 1)]) X g c (E.set a ⟨{e.d with sh := 1}, e.u⟩) M from
     ⟨by rw [List.length_set]; exact hT3, by rw [map_set]; exact hdone.1, by rw [List.length_set]; exact hcE⟩)
    have HB4 := hid (hK3.bel H0.out HB.out)
    have HL4 := hid (show (E.set a ⟨{e.d with sh := 1}, e.u⟩).length ≤ n0 + p.length ∧ 0 < (E.set a ⟨{e.d with sh := 1}, e.u⟩).length by rw [List.length_set, HNP.out]; have := HL.out; omega)
    clear hT3 hK3 hdone
    go_wp2_with fail
    go_ret
    exact ⟨HB4.out, .inr ⟨HDN.out, rfl, X, g, c, _, M, HT4.out, HL4.out.1, HL4.out.2, fun k hk ho => ((set_grownW wr g (a * 6) _).block k (by have := HWS.out; omega) (fun e0 => (HOF.out k hk ho).2.2.2.1 (by injection e0))).trans (HOF.out k hk ho).1⟩⟩
   ·have HCL := hid (show ∃ x ∈ Ev, clP x.1 p = true from HTP.out.clash (Nat.le_refl _) HEM.out (by rw [List.take_length]; exact HXP.out) (by rw [HQ.out]; exact h0) (.inr (by unfold kdP; rw [List.getElem?_eq_none (Nat.le_refl _)])))
    have t0 : (q != 0) = true := by simpa using h0
    clear h0
    go_wp2_with fail
    go_ret
    exact ⟨HB.out, .inl ⟨HCL.out, rfl⟩⟩
end Go.Proofs.YteimbjamnfkapaaGreatDoor
/- Plain mathematics of the tree that has grown: its nodes' trees, its gaps. -/
namespace Go.Proofs.YteimbjamnfkapaaGreatDoor
open Go.RowKit
def SubOf (l : Lvs) (q : List PStep) (T : VT) : Prop := Nrm T ∧ ∀ r t, AllCn r → (LeafAt T r t ↔ (q ++ r, t) ∈ l)
theorem sub_tree {l : Lvs} {T : VT} (h : SubOf l [] T) : TreeOf l T := ⟨h.1, fun r t hr => by have := h.2 r t hr; simpa using this⟩
theorem AllCn.tail {s : PStep} {r : List PStep} (h : AllCn (s :: r)) : Cn s ∧ AllCn r := ⟨h s (by simp), fun x hx => h x (by simp [hx])⟩
theorem bare_get {k n : Int} {s : ByteArray} {K : List ByteArray} {x : PStep} {r : List PStep} (hx : Cn x) : getP (.mk k n s [] K []) (x :: r) = none := by
 rcases hx.cases with ⟨i, rfl⟩ | ⟨c, rfl⟩
 ·by_cases hk : k = 5
  ·subst hk; rw [get_lpl]; rfl
  ·exact get_lpl_no hk _ _ _ _ _ _ _
 ·by_cases hk : k = 6
  ·subst hk
   rw [getP_cons, idx_lky]
   cases firstI (keyIs c) K with
   | none => rfl
   | some j =>
    have e2 : kidT (.mk 6 n s [] K []) (lky c) j = none := by unfold kidT; rw [if_neg (lky_pl c)]; rfl
    rw [Option.bind_some, e2]; rfl
  ·exact get_lky_no hk _ _ _ _ _ _ _
theorem sub_leaf {l : Lvs} {q : List PStep} {T : VT} (h1 : T.ls = []) (h2 : T.vs = []) (hin : (q, T) ∈ l) (hone : ∀ r t, AllCn r → (q ++ r, t) ∈ l → r = [] ∧ t = T) : SubOf l q T := by
 refine ⟨.leaf h1 h2, fun r t hr => ⟨?_, fun h => ?_⟩⟩
 ·rintro ⟨h3, -⟩
  cases r with
  | nil =>
   simp only [getP, Option.some.injEq] at h3
   subst h3; simpa using hin
  | cons x r =>
   exfalso
   obtain ⟨k, n, s, L, K, V⟩ := T
   simp only [VT.ls, VT.vs] at h1 h2
   subst h1 h2
   rw [bare_get hr.tail.1] at h3
   cases h3
 ·obtain ⟨rfl, rfl⟩ := hone r t hr h
  exact ⟨rfl, h1, h2⟩
theorem sub_list {l : Lvs} {q : List PStep} {L : List VT} (hL : L ≠ []) (hk : ∀ (i : Nat) (t : VT), L[i]? = some t → SubOf l (q ++ [lpl i]) t) (hall : ∀ r t, AllCn r → (q ++ r, t) ∈ l → ∃ i r', r = lpl i :: r' ∧ i < L.length) : SubOf l q (.mk 5 0 ⟨#[]⟩ L [] []) := by
 refine ⟨.list hL (fun t ht => ?_), fun r t hr => ⟨?_, fun h => ?_⟩⟩
 ·obtain ⟨i, hi⟩ := List.getElem?_of_mem ht
  exact (hk i t hi).1
 ·rintro ⟨h3, h4, h5⟩
  cases r with
  | nil =>
   simp only [getP, Option.some.injEq] at h3
   subst h3
   exact absurd h4 hL
  | cons x r =>
   rcases hr.tail.1.cases with ⟨i, rfl⟩ | ⟨c, rfl⟩
   ·rw [get_lpl] at h3
    cases hi : L[i]? with
    | none => rw [hi] at h3; cases h3
    | some u =>
     rw [hi] at h3
     have := ((hk i u hi).2 r t hr.tail.2).1 ⟨h3, h4, h5⟩
     simpa using this
   ·rw [get_lky_no (by decide)] at h3; cases h3
 ·obtain ⟨i, r', rfl, hi⟩ := hall r t hr h
  have hu : L[i]? = some L[i] := List.getElem?_eq_getElem hi
  have h1 := ((hk i _ hu).2 r' t hr.tail.2).2 (by simpa using h)
  exact ⟨by rw [get_lpl, hu]; exact h1.1, h1.2⟩
theorem sub_map {l : Lvs} {q : List PStep} {K : List ByteArray} {V : List VT} (hV : V ≠ []) (hlen : K.length = V.length) (hs : Strict K) (hk : ∀ (j : Nat) (c : ByteArray) (t : VT), K[j]? = some c → V[j]? = some t → SubOf l (q ++ [lky c]) t) (hall : ∀ r t, AllCn r → (q ++ r, t) ∈ l → ∃ c r', r = lky c :: r' ∧ c ∈ K) : SubOf l q (.mk 6 0 ⟨#[]⟩ [] K V) := by
 have kof : ∀ (j : Nat) (t : VT), V[j]? = some t → ∃ c, K[j]? = some c := fun j t hj => ⟨_, List.getElem?_eq_getElem (by have := lt_of_some hj; omega)⟩
 refine ⟨.map hV hlen hs (fun t ht => ?_), fun r t hr => ⟨?_, fun h => ?_⟩⟩
 ·obtain ⟨i, hi⟩ := List.getElem?_of_mem ht
  obtain ⟨c, hc⟩ := kof i t hi
  exact (hk i c t hc hi).1
 ·rintro ⟨h3, h4, h5⟩
  cases r with
  | nil =>
   simp only [getP, Option.some.injEq] at h3
   subst h3
   exact absurd h5 hV
  | cons x r =>
   rcases hr.tail.1.cases with ⟨i, rfl⟩ | ⟨c, rfl⟩
   ·rw [get_lpl_no (by decide)] at h3; cases h3
   ·by_cases hc : c ∈ K
    ·obtain ⟨j, hj⟩ := List.getElem?_of_mem hc
     have hv : V[j]? = some (V[j]'(by have := lt_of_some hj; omega)) := List.getElem?_eq_getElem _
     rw [get_lky 0 _ _ hs hj hv] at h3
     have := ((hk j c _ hj hv).2 r t hr.tail.2).1 ⟨h3, h4, h5⟩
     simpa using this
    ·rw [get_lky_out 0 _ _ hc] at h3; cases h3
 ·obtain ⟨c, r', rfl, hc⟩ := hall r t hr h
  obtain ⟨j, hj⟩ := List.getElem?_of_mem hc
  have hv : V[j]? = some (V[j]'(by have := lt_of_some hj; omega)) := List.getElem?_eq_getElem _
  have h1 := ((hk j c _ hj hv).2 r' t hr.tail.2).2 (by simpa using h)
  exact ⟨by rw [get_lky 0 _ _ hs hj hv]; exact h1.1, h1.2⟩
def evL (l : Lvs) : Evd := l.map fun e => (e.1, e.1.length + 1)
theorem evL_at {l : Lvs} {j : Nat} {x : List PStep × Nat} (h : (evL l)[j]? = some x) : ∃ e, l[j]? = some e ∧ x = (e.1, e.1.length + 1) := by
 unfold evL at h
 rw [List.getElem?_map] at h
 obtain ⟨e, he, rfl⟩ := Option.map_eq_some_iff.1 h
 exact ⟨e, he, rfl⟩
theorem evL_mem {l : Lvs} {x : List PStep × Nat} (h : x ∈ evL l) : ∃ e ∈ l, x = (e.1, e.1.length + 1) := by
 obtain ⟨e, he, rfl⟩ := List.mem_map.1 h
 exact ⟨e, he, rfl⟩
theorem evL_in {l : Lvs} {e : List PStep × VT} (h : e ∈ l) : (e.1, e.1.length + 1) ∈ evL l := List.mem_map.2 ⟨e, h, rfl⟩
theorem tk_app (q r : List PStep) : (q ++ r).take q.length = q := by simp
def kdR : List PStep → Int | [] => 1 | s :: _ => if s.place = true then 2 else 3
theorem kd_app (q r : List PStep) : kdP (q ++ r) q.length = kdR r := by
 unfold kdP
 rw [List.getElem?_append_right (Nat.le_refl _), Nat.sub_self]
 cases r with
 | nil => rfl
 | cons s r => rfl
def Fine (l : Lvs) : Prop := ∀ k, badE l k = 0
theorem Fine.bare {l : Lvs} (h : Fine l) {e : List PStep × VT} (he : e ∈ l) : e.2.ls = [] ∧ e.2.vs = [] := by
 obtain ⟨i, hi⟩ := List.getElem?_of_mem he
 have := h i
 unfold badE at this
 rw [hi] at this
 simp only at this
 by_cases hp : partsB e.2 = true
 ·rw [if_pos hp] at this; cases this
 ·unfold partsB at hp
  simp at hp
  exact hp
theorem Fine.apart {l : Lvs} (h : Fine l) {i j : Nat} {e e' : List PStep × VT} (hi : l[i]? = some e) (hj : l[j]? = some e') (hij : i < j) : clP e.1 e'.1 = false := by
 have := h j
 unfold badE at this
 rw [hj] at this
 simp only at this
 by_cases hp : partsB e'.2 = true
 ·rw [if_pos hp] at this; cases this
 ·rw [if_neg hp] at this
  cases hc : clP e.1 e'.1 with
  | false => rfl
  | true =>
   rw [if_pos (List.any_eq_true.2 ⟨e, by
    rw [List.mem_iff_getElem?]
    exact ⟨i, by rw [List.getElem?_take, if_pos hij]; exact hi⟩, hc⟩)] at this
   cases this
theorem clP_comm (p q : List PStep) : clP p q = clP q p := by
 have key : ∀ p q : List PStep, clP p q = true → clP q p = true := fun p q h => by
  obtain ⟨j, h1, h2, h3, h4⟩ := (clP_iff _ _).1 h
  refine (clP_iff _ _).2 ⟨j, h2, h1, h3.symm, ?_⟩
  rcases h4 with h4 | h4
  ·exact .inl (fun e => h4 e.symm)
  ·by_cases e : kdP q j = 1
   ·exact .inr e
   ·exact .inl (by rw [h4]; exact e)
 cases h1 : clP p q <;> cases h2 : clP q p
 ·rfl
 ·rw [key _ _ h2] at h1; cases h1
 ·rw [key _ _ h1] at h2; cases h2
 ·rfl
theorem Fine.pre {l : Lvs} (h : Fine l) {e e' : List PStep × VT} (he : e ∈ l) (he' : e' ∈ l) {r : List PStep} (hr : e'.1 = e.1 ++ r) : r = [] ∧ e' = e := by
 obtain ⟨i, hi⟩ := List.getElem?_of_mem he
 obtain ⟨j, hj⟩ := List.getElem?_of_mem he'
 have hcl : clP e.1 e'.1 = true := (clP_iff _ _).2 ⟨e.1.length, Nat.le_refl _, by rw [hr]; simp, by rw [hr]; simp, by
  right
  unfold kdP; rw [List.getElem?_eq_none (Nat.le_refl _)]⟩
 rcases Nat.lt_trichotomy i j with h1 | h1 | h1
 ·rw [h.apart hi hj h1] at hcl; cases hcl
 ·subst h1
  rw [hi] at hj; injection hj with hj
  subst hj
  have := congrArg List.length hr
  simp at this
  exact ⟨this, rfl⟩
 ·rw [clP_comm, h.apart hj hi h1] at hcl; cases hcl
structure Grown (l : Lvs) (X : List (List PStep)) (N : List Nd) (M : List ((Nat × PStep) × Nat)) : Prop where
 tri : Trw (evL l) X N M
 ne : l ≠ []
 fine : Fine l
 cn : ∀ e ∈ l, AllCn e.1
theorem Grown.kind {l : Lvs} {X : List (List PStep)} {N : List Nd} {M : List ((Nat × PStep) × Nat)} (h : Grown l X N M) {a : Nat} {n : Nd} {q : List PStep} (hn : N[a]? = some n) (hq : X[a]? = some q) {e : List PStep × VT} (he : e ∈ l) {r : List PStep} (hr : e.1 = q ++ r) : n.sh = kdR r := by
 rw [← kd_app q r, ← hr]
 refine h.tri.sh1 a n q _ hn hq ⟨_, evL_in he, q.length, ?_, ?_, ?_, rfl⟩
 ·simp only; rw [hr]; simp; omega
 ·simp only; rw [hr]; simp
 ·simp only; rw [hr, tk_app]
theorem Grown.any_ {l : Lvs} {X : List (List PStep)} {N : List Nd} {M : List ((Nat × PStep) × Nat)} (h : Grown l X N M) {q : List PStep} (hq : q ∈ X) : ∃ e ∈ l, ∃ r, e.1 = q ++ r := by
 rcases (h.tri.mem q).1 hq with rfl | ⟨x, hx, j, h1, h2, rfl⟩
 ·obtain ⟨e, t, rfl⟩ := List.exists_cons_of_ne_nil h.ne
  exact ⟨e, by simp, e.1, rfl⟩
 ·obtain ⟨e, he, rfl⟩ := evL_mem hx
  exact ⟨e, he, e.1.drop j, (List.take_append_drop j e.1).symm⟩
theorem Grown.node {l : Lvs} {X : List (List PStep)} {N : List Nd} {M : List ((Nat × PStep) × Nat)} (h : Grown l X N M) {e : List PStep × VT} (he : e ∈ l) {q r : List PStep} (hr : e.1 = q ++ r) : q ∈ X :=
 (h.tri.mem q).2 (.inr ⟨_, evL_in he, q.length, by simp only; rw [hr]; simp; omega, by simp only; rw [hr]; simp, by simp only; rw [hr, tk_app]⟩)
theorem Grown.ix_ {l : Lvs} {X : List (List PStep)} {N : List Nd} {M : List ((Nat × PStep) × Nat)} (h : Grown l X N M) {q : List PStep} (hq : q ∈ X) : ∃ (a : Nat) (n : Nd), X[a]? = some q ∧ N[a]? = some n := by
 obtain ⟨a, ha⟩ := List.getElem?_of_mem hq
 exact ⟨a, _, ha, List.getElem?_eq_getElem (by rw [← h.tri.len]; exact lt_of_some ha)⟩
theorem Grown.leaf {l : Lvs} {X : List (List PStep)} {N : List Nd} {M : List ((Nat × PStep) × Nat)} (h : Grown l X N M) {a : Nat} {n : Nd} {q : List PStep} (hn : N[a]? = some n) (hq : X[a]? = some q) (hs : n.sh = 1) : ∃ e, l[n.lf]? = some e ∧ e.1 = q := by
 rcases h.tri.lf a n q hn hq with ⟨rfl, h0⟩ | ⟨x, hx, ⟨j, h1, h2, rfl⟩, -⟩
 ·have : q = [] := by have := h.tri.root; rw [hq] at this; injection this
  subst this
  obtain ⟨e, t, rfl⟩ := List.exists_cons_of_ne_nil h.ne
  refine ⟨e, by rw [h0]; rfl, ?_⟩
  have := h.kind hn hq (e := e) (by simp) (r := e.1) rfl
  rw [hs] at this
  cases he : e.1 with
  | nil => rfl
  | cons s r => rw [he] at this; simp only [kdR] at this; split at this <;> cases this
 ·obtain ⟨e, he, rfl⟩ := evL_at hx
  refine ⟨e, he, ?_⟩
  simp only at h2 hq ⊢
  have := h.kind hn hq (List.mem_of_getElem? he) (r := e.1.drop j) (List.take_append_drop j e.1).symm
  rw [hs] at this
  cases hd : e.1.drop j with
  | nil =>
   have h5 := List.take_append_drop j e.1
   rw [hd, List.append_nil] at h5
   exact h5.symm
  | cons s r => rw [hd] at this; simp only [kdR] at this; split at this <;> cases this
theorem Grown.leaf_sub {l : Lvs} {X : List (List PStep)} {N : List Nd} {M : List ((Nat × PStep) × Nat)} (h : Grown l X N M) {a : Nat} {n : Nd} {q : List PStep} (hn : N[a]? = some n) (hq : X[a]? = some q) (hs : n.sh = 1) {e : List PStep × VT} (he : l[n.lf]? = some e) : SubOf l q e.2 := by
 obtain ⟨e', he', hq'⟩ := h.leaf hn hq hs
 rw [he] at he'; injection he' with he'; subst he'
 have hm := List.mem_of_getElem? he
 obtain ⟨h1, h2⟩ := h.fine.bare hm
 refine sub_leaf h1 h2 (by rw [← hq']; exact hm) (fun r t hr ht => ?_)
 obtain ⟨h3, h4⟩ := h.fine.pre hm ht (r := r) (by rw [hq'])
 exact ⟨h3, by rw [← h4]⟩
theorem Grown.part {l : Lvs} {X : List (List PStep)} {N : List Nd} {M : List ((Nat × PStep) × Nat)} (h : Grown l X N M) {a : Nat} {n : Nd} {q : List PStep} (hn : N[a]? = some n) (hq : X[a]? = some q) {b : Nat} (hb : b ∈ n.ps) : ∃ nb, N[b]? = some nb ∧ X[b]? = some (q ++ [nb.st]) ∧ Cn nb.st ∧ nb.st.place = decide (n.sh = 2) ∧ n.sh ≠ 1 := by
 obtain ⟨s, hs⟩ := ((h.tri.ps a n q hn hq).2 b).1 hb
 obtain ⟨nb, hnb⟩ : ∃ nb, N[b]? = some nb := ⟨_, List.getElem?_eq_getElem (by rw [← h.tri.len]; exact lt_of_some hs)⟩
 have hst := h.tri.st b nb q s hnb hs
 obtain ⟨e, he, r, hr⟩ := h.any_ (List.mem_of_getElem? hs)
 have hk := h.kind hn hq he (r := s :: r) (by rw [hr]; simp)
 simp only [kdR] at hk
 subst hst
 refine ⟨nb, hnb, hs, h.cn e he _ (by rw [hr]; simp), ?_, ?_⟩
 ·rw [hk]; cases nb.st.place <;> rfl
 ·rw [hk]; split <;> decide
theorem Grown.has {l : Lvs} {X : List (List PStep)} {N : List Nd} {M : List ((Nat × PStep) × Nat)} (h : Grown l X N M) {a : Nat} {n : Nd} {q : List PStep} (hn : N[a]? = some n) (hq : X[a]? = some q) {e : List PStep × VT} (he : e ∈ l) {s : PStep} {r : List PStep} (hr : e.1 = q ++ s :: r) : ∃ b ∈ n.ps, ∃ nb, N[b]? = some nb ∧ X[b]? = some (q ++ [s]) ∧ nb.st = s := by
 have hx : q ++ [s] ∈ X := h.node he (r := r) (by rw [hr]; simp)
 obtain ⟨b, nb, h1, h2⟩ := h.ix_ hx
 exact ⟨b, ((h.tri.ps a n q hn hq).2 b).2 ⟨s, h1⟩, nb, h2, h1, h.tri.st b nb q s h2 h1⟩
theorem Grown.ps_ne {l : Lvs} {X : List (List PStep)} {N : List Nd} {M : List ((Nat × PStep) × Nat)} (h : Grown l X N M) {a : Nat} {n : Nd} {q : List PStep} (hn : N[a]? = some n) (hq : X[a]? = some q) (hs : n.sh ≠ 1) : n.ps ≠ [] := by
 obtain ⟨e, he, r, hr⟩ := h.any_ (List.mem_of_getElem? hq)
 cases r with
 | nil => exact absurd (h.kind hn hq he hr) hs
 | cons s r =>
  obtain ⟨b, hb, -⟩ := h.has hn hq he hr
  intro e0; rw [e0] at hb; simp at hb
theorem Grown.sh {l : Lvs} {X : List (List PStep)} {N : List Nd} {M : List ((Nat × PStep) × Nat)} (h : Grown l X N M) {a : Nat} {n : Nd} {q : List PStep} (hn : N[a]? = some n) (hq : X[a]? = some q) : n.sh = 1 ∨ n.sh = 2 ∨ n.sh = 3 := by
 obtain ⟨e, he, r, hr⟩ := h.any_ (List.mem_of_getElem? hq)
 rw [h.kind hn hq he hr]
 cases r with
 | nil => exact .inl rfl
 | cons s r => simp only [kdR]; split; exact .inr (.inl rfl); exact .inr (.inr rfl)
def plN (N : List Nd) (b : Nat) : Nat := ((N[b]?).map fun n => n.st.at_.toNat).getD 0
theorem Grown.place {l : Lvs} {X : List (List PStep)} {N : List Nd} {M : List ((Nat × PStep) × Nat)} (h : Grown l X N M) {a : Nat} {n : Nd} {q : List PStep} (hn : N[a]? = some n) (hq : X[a]? = some q) (hs : n.sh = 2) {b : Nat} (hb : b ∈ n.ps) : ∃ nb, N[b]? = some nb ∧ X[b]? = some (q ++ [lpl (plN N b)]) ∧ nb.st = lpl (plN N b) := by
 obtain ⟨nb, h1, h2, h3, h4, -⟩ := h.part hn hq hb
 rw [hs] at h4
 rcases h3.cases with ⟨i, hi⟩ | ⟨c, hc⟩
 ·have : plN N b = i := by unfold plN; rw [h1]; simp [hi, lpl]
  rw [this]
  exact ⟨nb, h1, by rw [← hi]; exact h2, hi⟩
 ·rw [hc] at h4; cases h4
theorem lpl_inj {i j : Nat} (h : lpl i = lpl j) : i = j := by
 unfold lpl at h
 injection h with h1 h2
 omega
theorem Grown.pl_nodup {l : Lvs} {X : List (List PStep)} {N : List Nd} {M : List ((Nat × PStep) × Nat)} (h : Grown l X N M) {a : Nat} {n : Nd} {q : List PStep} (hn : N[a]? = some n) (hq : X[a]? = some q) (hs : n.sh = 2) : (n.ps.map (plN N)).Nodup := by
 have h1 := (h.tri.ps a n q hn hq).1
 have key : ∀ L : List Nat, L.Nodup → (∀ b ∈ L, b ∈ n.ps) → (L.map (plN N)).Nodup := fun L => by
  induction L with
  | nil => intro _ _; exact List.nodup_nil
  | cons b L ih =>
   intro h2 h3
   rw [List.map_cons, List.nodup_cons]
   obtain ⟨h4, h5⟩ := List.nodup_cons.1 h2
   refine ⟨fun hm => ?_, ih h5 (fun c hc => h3 c (by simp [hc]))⟩
   obtain ⟨c, hc, e⟩ := List.mem_map.1 hm
   obtain ⟨nb, -, h6, -⟩ := h.place hn hq hs (h3 b (by simp))
   obtain ⟨nc, -, h7, -⟩ := h.place hn hq hs (h3 c (by simp [hc]))
   rw [e] at h7
   have := ix_inj h.tri.nd h6 h7
   subst this
   exact h4 hc
 exact key n.ps h1 (fun _ h => h)
theorem Grown.whole {l : Lvs} {X : List (List PStep)} {N : List Nd} {M : List ((Nat × PStep) × Nat)} (h : Grown l X N M) {a : Nat} {n : Nd} {q : List PStep} (hn : N[a]? = some n) (hq : X[a]? = some q) (hs : n.sh = 2) : (∀ b ∈ n.ps, plN N b < n.ps.length) ↔ WholeAt l q := by
 have hpl : ∀ x : Int, PlaceAt l q x ↔ ∃ b ∈ n.ps, ((plN N b : Nat) : Int) = x := fun x => by
  constructor
  ·rintro ⟨e, he, s, ⟨r, hr⟩, rfl⟩
   obtain ⟨b, hb, nb, h1, h2, h3⟩ := h.has hn hq he (s := s) (r := r) (by rw [← hr]; simp)
   obtain ⟨nb', h1', -, h3'⟩ := h.place hn hq hs hb
   rw [h1] at h1'; injection h1' with h1'; subst h1'
   exact ⟨b, hb, by rw [← h3, h3']; rfl⟩
  ·rintro ⟨b, hb, rfl⟩
   obtain ⟨nb, h1, h2, h3⟩ := h.place hn hq hs hb
   obtain ⟨e, he, r, hr⟩ := h.any_ (List.mem_of_getElem? h2)
   exact ⟨e, he, _, ⟨r, hr.symm⟩, rfl⟩
 have hF := full_iff (h.pl_nodup hn hq hs)
 rw [List.length_map] at hF
 constructor
 ·intro h1 x hx k hk0 hk
  obtain ⟨b, hb, rfl⟩ := (hpl x).1 hx
  have h2 := hF.2 (fun y hy => by
   obtain ⟨c, hc, rfl⟩ := List.mem_map.1 hy
   exact h1 c hc)
  have := h2 (plN N b) (List.mem_map.2 ⟨b, hb, rfl⟩) k.toNat (by omega)
  obtain ⟨c, hc, hck⟩ := List.mem_map.1 this
  exact (hpl k).2 ⟨c, hc, by omega⟩
 ·intro h1 b hb
  refine hF.1 (fun y hy k hk => ?_) _ (List.mem_map.2 ⟨b, hb, rfl⟩)
  obtain ⟨c, hc, rfl⟩ := List.mem_map.1 hy
  obtain ⟨c', hc', e⟩ := (hpl (k : Int)).1 (h1 _ ((hpl _).2 ⟨c, hc, rfl⟩) k (by omega) (by omega))
  exact List.mem_map.2 ⟨c', hc', by omega⟩
def Well (N : List Nd) (n : Nd) : Prop := n.sh = 2 → ∀ b ∈ n.ps, plN N b < n.ps.length
theorem Grown.no_gap {l : Lvs} {X : List (List PStep)} {N : List Nd} {M : List ((Nat × PStep) × Nat)} (h : Grown l X N M) (hw : ∀ n ∈ N, Well N n) (k : Nat) : ¬ GapAt l k := by
 rintro ⟨e, he, q, s, ⟨r, hr⟩, hp, hg⟩
 have hm := List.mem_of_getElem? he
 obtain ⟨a, n, h1, h2⟩ := h.ix_ (h.node hm (q := q) (r := s :: r) (by rw [← hr]; simp))
 have hk := h.kind h2 h1 hm (r := s :: r) (by rw [← hr]; simp)
 simp only [kdR, hp, if_true] at hk
 exact hg ((h.whole h2 h1 hk).1 (hw n (List.mem_of_getElem? h2) hk))
theorem Grown.gap {l : Lvs} {X : List (List PStep)} {N : List Nd} {M : List ((Nat × PStep) × Nat)} (h : Grown l X N M) {a : Nat} {n : Nd} (hn : N[a]? = some n) (hw : ∀ (c : Nat) (m : Nd), c < a → N[c]? = some m → Well N m) (hb : ¬ Well N n) : GapAt l n.lf ∧ ∀ k, k < n.lf → ¬ GapAt l k := by
 obtain ⟨q, hq⟩ : ∃ q, X[a]? = some q := ⟨_, List.getElem?_eq_getElem (by rw [h.tri.len]; exact lt_of_some hn)⟩
 have hs : n.sh = 2 := by
  by_cases e : n.sh = 2
  ·exact e
  ·exact absurd (fun h0 => absurd h0 e) hb
 have hnw : ¬ WholeAt l q := fun hwh => hb (fun _ => (h.whole hn hq hs).2 hwh)
 refine ⟨?_, fun k hk => ?_⟩
 ·have fin : ∀ (e : List PStep × VT) (r : List PStep), l[n.lf]? = some e → e.1 = q ++ r → GapAt l n.lf := fun e r he hr => by
   have hkk := h.kind hn hq (List.mem_of_getElem? he) hr
   rw [hs] at hkk
   cases r with
   | nil => cases hkk
   | cons s r =>
    refine ⟨e, he, q, s, ⟨r, by rw [hr]; simp⟩, ?_, hnw⟩
    simp only [kdR] at hkk
    cases hp : s.place with
    | true => rfl
    | false => rw [hp] at hkk; simp at hkk
  rcases h.tri.lf a n q hn hq with ⟨rfl, h0⟩ | ⟨x, hx, ⟨j, h1, h2, h3⟩, -⟩
  ·have : q = [] := by have := h.tri.root; rw [hq] at this; injection this
   subst this
   obtain ⟨e, t, hl⟩ := List.exists_cons_of_ne_nil h.ne
   exact fin e e.1 (by rw [h0, hl]; rfl) rfl
  ·obtain ⟨e, he, rfl⟩ := evL_at hx
   exact fin e (e.1.drop j) he (by rw [h3]; exact (List.take_append_drop j e.1).symm)
 ·rintro ⟨e, he, q', s, ⟨r, hr⟩, hp, hg⟩
  have hm := List.mem_of_getElem? he
  obtain ⟨c, m, h1, h2⟩ := h.ix_ (h.node hm (q := q') (r := s :: r) (by rw [← hr]; simp))
  have hkk := h.kind h2 h1 hm (r := s :: r) (by rw [← hr]; simp)
  simp only [kdR, hp, if_true] at hkk
  have hnm : ¬ Well N m := fun hwm => hg ((h.whole h2 h1 hkk).1 (hwm hkk))
  have hca : a ≤ c := by
   rcases Nat.lt_or_ge c a with h3 | h3
   ·exact absurd (hw c m h3 h2) hnm
   ·exact h3
  have hmono := h.tri.mono a c n m hca hn h2
  rcases h.tri.lf c m q' h2 h1 with ⟨-, h0⟩ | ⟨x, hx, -, h3⟩
  ·omega
  ·have hy : (evL l)[k]? = some (e.1, e.1.length + 1) := by unfold evL; rw [List.getElem?_map, he]; rfl
   exact h3 k _ (by omega) hy ⟨q'.length, by simp only; rw [← hr]; simp; omega, by simp only; rw [← hr]; simp, by simp only; rw [← hr]; simp⟩
end Go.Proofs.YteimbjamnfkapaaGreatDoor
/- unflat: slices.ContainsFunc over numbers; gap, walked. -/
namespace Go.Proofs.YteimbjamnfkapaaGreatDoor
open Go.RowKit Go.Maps
def InI (w : World) (L : List Nat) (v : Value) : Prop := ∃ a, SlOf v a L.length ∧ ∀ (i b : Nat), L[i]? = some b → w.cell? (a.add i) = some (.int .i64 (b : Int))
theorem InI.onto {w w' : World} {L : List Nat} {v : Value} (h : InI w L v) (hb : Below w.heap.size w w') : InI w' L v := by
 obtain ⟨a, h1, h2⟩ := h
 exact ⟨a, h1, fun i b hi => keepCell hb (h2 i b hi)⟩
theorem own_ini {w : World} {B : Nat} {L : List Nat} {v : Value} (h : w.ownsRow B 3 1 v L.length (pI L)) : InI w L v := by
 have hc := h
 rcases hc with ⟨-, ⟨rfl, h0⟩ | ⟨g, cap, cur, rfl, -, -, hn, hcm, -, -⟩⟩
 ·have : L = [] := List.eq_nil_of_length_eq_zero h0
  subst this
  exact ⟨⟨0, 0, none⟩, ⟨none, 0, rfl, Nat.le_refl _, Nat.zero_le _, fun h => absurd h (by simp)⟩, fun i s h => by simp at h⟩
 ·refine ⟨⟨g, 0, none⟩, ⟨_, cap, rfl, by omega, hcm, fun _ => rfl⟩, fun i b hb => ?_⟩
  have hi := lt_of_some hb
  rw [add_at, h.cellAt i (by omega)]
  unfold pI
  rw [List.getElem?_map, hb]; rfl
set_option maxRecDepth 100000 in
set_option maxHeartbeats 1000000 in
theorem iidx_any (G : Nat) (lb : Array Value) (eg : ∀ args w, (callFunc G args).run Tryz.prog w = .ok (.enter G args) w) (pr : Nat → Bool) (K : List Nat) (y : Value) (w : World) (hM : InI w K y)
  (hG : ∀ (W : World) (c : Nat), c ∈ K → Below w.heap.size w W → Calls Tryz.prog G (#[.int .i64 (c : Int)] ++ lb) W fun e w' => e = .returned (.bool (pr c)) ∧ Below W.heap.size W w') :
  Calls Tryz.prog 149 #[y, .func (.func G) #[] lb] w (IdxPost (K.any pr) w) := by
 obtain ⟨a, ⟨o, cap, rfl, h1, h2, h3⟩, hk⟩ := hM
 unfold maxLen at h2
 have HG := hid hG
 have HK := hid hk
 obtain ⟨R, hR⟩ : ∃ R, K.any pr = R := ⟨_, rfl⟩
 have HR := hid hR
 rw [hR]
 clear hR hG hk
 unfold IdxPost
 go_enter Tryz.func149, Tryz.ntmps149
 go_wp2_with fail
 go_loopw [8] (fun x wr => ∃ j : Nat, x = .int .i64 j ∧ j ≤ K.length ∧ Hid (∀ (i : Nat) (d : Nat), i < j → K[i]? = some d → pr d = false) ∧ Hid (Below w.heap.size w wr)) (fun x _ => K.length - (intOf x).toNat)
 case atStart => exact ⟨0, rfl, Nat.zero_le _, fun i d h => absurd h (Nat.not_lt_zero _), Below.refl _ _⟩
 case round =>
  obtain ⟨j, rfl, hj, HJ, HB⟩ := hrel
  by_cases hlt : j < K.length
  ·obtain ⟨c, hc⟩ : ∃ c, K[j]? = some c := ⟨K[j], List.getElem?_eq_getElem hlt⟩
   obtain rfl := h3 (by omega)
   have k0 := keepCell HB.out (HK.out j c hc)
   have HS := hid (HG.out wr c (List.mem_of_getElem? hc) HB.out)
   have HC := hid hc
   cases hpr : pr c with
   | true =>
    have HR2 := hid (HR.out.symm.trans (any_yes hc hpr))
    rw [hpr] at HS
    clear hpr hc
    go_wp2_with (go_at_fn G; go_must (refine HS.out.mono ?_; rintro e w1 ⟨rfl, hb1⟩))
    go_ret
    exact ⟨_, rfl, by rw [HR2.out]; simp, vonto HB.out hb1⟩
   | false =>
    have HJ2 := hid (show ∀ (i : Nat) (d : Nat), i < j + 1 → K[i]? = some d → pr d = false from fun i d hi hd => by
     by_cases e : i = j
     ·subst e; rw [hc] at hd; cases hd; exact hpr
     ·exact HJ.out i d (by omega) hd)
    rw [hpr] at HS
    clear hpr hc
    go_wp2_with (go_at_fn G; go_must (refine HS.out.mono ?_; rintro e w1 ⟨rfl, hb1⟩))
    go_roundw
    case rel => exact ⟨j + 1, val_int (by omega), hlt, HJ2, vonto HB.out hb1⟩
    case measure => simp [intOf]; omega
  ·have HR2 := hid (HR.out.symm.trans (any_no (fun i d hd => HJ.out i d (by have := lt_of_some hd; omega) hd)))
   go_wp2_with fail
   go_ret
   exact ⟨_, rfl, by rw [HR2.out]; rfl, HB.out⟩
theorem icon_any (G : Nat) (lb : Array Value) (eg : ∀ args w, (callFunc G args).run Tryz.prog w = .ok (.enter G args) w) (pr : Nat → Bool) (K : List Nat) (y : Value) (w : World) (hM : InI w K y)
  (hG : ∀ (W : World) (c : Nat), c ∈ K → Below w.heap.size w W → Calls Tryz.prog G (#[.int .i64 (c : Int)] ++ lb) W fun e w' => e = .returned (.bool (pr c)) ∧ Below W.heap.size W w') :
  Calls Tryz.prog 94 #[y, .func (.func G) #[] lb] w fun e w' => e = .returned (.bool (K.any pr)) ∧ Below w.heap.size w w' := by
 have C := hid (iidx_any G lb eg pr K y w hM hG)
 obtain ⟨a, ⟨o, cap, rfl, -⟩, -⟩ := hM
 generalize K.any pr = R at C ⊢
 clear hG
 go_enter Tryz.func94, Tryz.ntmps94
 go_wp2_with (go_at_call 149; go_must (refine C.out.mono ?_; rintro e w1 ⟨z, rfl, hz, hb1⟩))
 go_ret
 exact ⟨ret_bool (by first | (rw [← hz]; done) | (rw [← hz, Bool.eq_iff_iff]; done) | (rw [← hz, Bool.eq_iff_iff]; simp; done) | (rw [← hz, Bool.eq_iff_iff]; simp; omega)), hb1⟩
def outA (a : Int) (n : Nat) : Bool := decide (a < 0) || decide ((n : Int) ≤ a)
def outB (E : List NE) (n b : Nat) : Bool := match E[b]? with | none => false | some e => outA e.d.st.at_ n
def gapB (E : List NE) (e : NE) : Bool := decide (e.d.sh = 2) && e.d.ps.any (outB E e.d.ps.length)
set_option maxRecDepth 100000 in
set_option maxHeartbeats 1000000 in
theorem gap1_any (B : Nat) (W : World) (tb m g c : Nat) (E : List NE) (M : Ways) (h : TM B W tb m (.slice (some ⟨g, 0, none⟩) E.length c) E M) (b1 b2 : Nat) (h1 : W.cell? ⟨b1, 0, none⟩ = some (.pointer (some ⟨tb, 0, none⟩))) (o : Option Addr) (n cn : Nat) (h2 : W.cell? ⟨b2, 5, none⟩ = some (.slice o n cn)) (b : Nat) (e : NE) (he : E[b]? = some e) :
  Calls Tryz.prog 93 #[.int .i64 (b : Int), .pointer (some ⟨b1, 0, none⟩), .pointer (some ⟨b2, 0, none⟩)] W fun r w' => r = .returned (.bool (outB E n b)) ∧ Below W.heap.size W w' := by
 have hb := lt_of_some he
 obtain ⟨q0, -, -⟩ := h.cells
 have q1 := h.at_ he 2 _ rfl
 have hr : outB E n b = outA e.d.st.at_ n := by unfold outB; rw [he]
 rw [hr]
 obtain ⟨x, hx⟩ : ∃ x, e.d.st.at_ = x := ⟨_, rfl⟩
 rw [hx] at q1 ⊢
 unfold outA
 clear h hr he hx
 by_cases h0 : x < 0
 ·have hd : decide (x < 0) = true := by simpa using h0
  have HR := hid (show (decide (x < 0) || decide ((n : Int) ≤ x)) = true by rw [hd]; rfl)
  generalize (decide (x < 0) || decide ((n : Int) ≤ x)) = R at HR ⊢
  go_enter Tryz.func93, Tryz.ntmps93
  go_wp2_with fail
  go_ret
  exact ⟨ret_bool HR.out.symm, Below.refl _ _⟩
 ·have hd : decide (x < 0) = false := by simpa using h0
  have HR := hid (show (decide (x < 0) || decide ((n : Int) ≤ x)) = decide ((n : Int) ≤ x) by rw [hd]; rfl)
  generalize (decide (x < 0) || decide ((n : Int) ≤ x)) = R at HR ⊢
  go_enter Tryz.func93, Tryz.ntmps93
  go_wp2_with fail
  go_ret
  exact ⟨ret_bool HR.out.symm, Below.refl _ _⟩
def GapP (E : List NE) (w : World) (r : Ending) (w' : World) : Prop := Below w.heap.size w w' ∧ ((∃ (a : Nat) (e : NE), E[a]? = some e ∧ gapB E e = true ∧ (∀ (c : Nat) (m : NE), c < a → E[c]? = some m → gapB E m = false) ∧ r = .returned (.tuple #[.int .i64 (e.d.lf : Int), .bool true])) ∨ ((∀ e ∈ E, gapB E e = false) ∧ r = .returned (.tuple #[.int .i64 0, .bool false])))
theorem nbox_of {w W : World} {a b c d e f : Value} (h : W = w.alloc (.cells #[a, b, c, d, e, f] 152)) : W.cell? ⟨w.heap.size, 0, none⟩ = some a ∧ W.cell? ⟨w.heap.size, 4, none⟩ = some e ∧ W.cell? ⟨w.heap.size, 5, none⟩ = some f ∧ Below w.heap.size w W := by
 subst h
 exact ⟨by simp, by simp, by simp, valloc_bel (Below.refl _ _) _⟩
theorem pbox_of {w W : World} {a : Value} {t : TypeId} (h : W = w.alloc (.cells #[a] t)) : W.cell? ⟨w.heap.size, 0, none⟩ = some a ∧ Below w.heap.size w W := by
 subst h
 exact ⟨by simp, valloc_bel (Below.refl _ _) _⟩
set_option maxRecDepth 100000 in
set_option maxHeartbeats 2000000 in
theorem gap_any (B : Nat) (w : World) (tb m g c : Nat) (E : List NE) (M : Ways) (h : TM B w tb m (.slice (some ⟨g, 0, none⟩) E.length c) E M) (hps : ∀ e ∈ E, ∀ b ∈ e.d.ps, b < E.length) (hl : E.length ≤ 10000000) :
  Calls Tryz.prog 50 #[.pointer (some ⟨tb, 0, none⟩)] w (GapP E w) := by
 have HT := hid h
 have HPS := hid hps
 obtain ⟨q0, -, -⟩ := h.cells
 clear h hps
 go_enter Tryz.func50, Tryz.ntmps50
 go_upto_region 1 with fail
 refine cewp_gen ?_
 intro W hW
 obtain ⟨b0, hbW⟩ := pbox_of hW
 have q0 := keepCell hbW q0
 have HTW := hid (HT.out.onto hbW)
 have HBW := hid hbW
 clear hW hbW HT
 go_wp2_with fail
 go_loopw [12] (fun i wr => ∃ j : Nat, i = .int .i64 j ∧ j ≤ E.length ∧ Hid (∀ (c : Nat) (m : NE), c < j → E[c]? = some m → gapB E m = false) ∧ Hid (Below W.heap.size W wr)) (fun i _ => E.length - (intOf i).toNat)
 case atStart => exact ⟨0, rfl, Nat.zero_le _, hid (fun c m h => absurd h (Nat.not_lt_zero c)), hid (Below.refl _ _)⟩
 case round =>
  obtain ⟨j, rfl, hj, HJ, HB⟩ := hrel
  by_cases hlt : j < E.length
  ·obtain ⟨e, he⟩ : ∃ e, E[j]? = some e := ⟨E[j], List.getElem?_eq_getElem hlt⟩
   have HE := hid he
   have hem := List.mem_of_getElem? he
   have hT := HTW.out.onto HB.out
   obtain ⟨ou, cu, hu⟩ := hT.parts hem
   have p0 := hT.at_ he 0 _ rfl
   have p1 := hT.at_ he 1 _ rfl
   have p2 := hT.at_ he 2 _ rfl
   have p3 := hT.at_ he 3 _ rfl
   have p4 := hT.at_ he 4 _ rfl
   have p5 := hT.at_ he 5 _ rfl
   rw [hu] at p5
   rw [Nat.add_zero] at p0
   have hin := own_ini (hT.ps e hem)
   rw [hu] at hin
   have HIN := hid hin
   have b0r := keepCell HB.out b0
   obtain ⟨q, hq⟩ : ∃ k, e.d.sh = k := ⟨_, rfl⟩
   rw [hq] at p0
   have HQ := hid hq
   have HTR := hid hT
   clear he hu hin hT hq
   go_upto_region 4 with fail
   refine cewp_gen ?_
   intro W1 hW
   obtain ⟨n0, n4, n5, hbW1⟩ := nbox_of hW
   have b0r := keepCell hbW1 b0r
   have HT1 := hid (HTR.out.onto hbW1)
   have HB1 := hid (vonto HB.out hbW1)
   have HIN1 := hid (HIN.out.onto hbW1)
   clear hW hbW1 p0 p1 p2 p3 p4 p5 HIN HTR
   by_cases h2 : q = 2
   ·subst h2
    have CI := hid (icon_any 93 #[.pointer (some ⟨w.heap.size, 0, none⟩), .pointer (some ⟨wr.heap.size, 0, none⟩)] (enters_of Tryz.func93 (by kernel_rfl) rfl) (outB E e.d.ps.length) e.d.ps _ W1 HIN1.out (fun X b hb hX => by
     have hbl := HPS.out e hem b hb
     exact gap1_any B X tb m g c E M (HT1.out.onto hX) w.heap.size wr.heap.size (keepCell hX b0r) ou e.d.ps.length cu (keepCell hX n5) b _ (List.getElem?_eq_getElem hbl)))
    have HG := hid (show gapB E e = e.d.ps.any (outB E e.d.ps.length) by unfold gapB; rw [HQ.out]; simp)
    generalize e.d.ps.any (outB E e.d.ps.length) = R at CI HG
    go_wp2_with fail
    go_at_call 94
    refine CI.out.mono ?_
    rintro r W2 ⟨rfl, hb2⟩
    have n4 := keepCell hb2 n4
    have HB2 := hid (vonto HB1.out hb2)
    clear CI hb2
    cases R with
    | true =>
     go_wp2_with fail
     refine bodyPost_ret (v := .tuple #[.int .i64 (e.d.lf : Int), .bool true]) (by simp [results, Tryz.results50, go_sem]) rfl ?_
     exact ⟨vonto HBW.out HB2.out, .inl ⟨j, e, HE.out, HG.out, HJ.out, rfl⟩⟩
    | false =>
     have HJ2 := hid (show ∀ (c : Nat) (m : NE), c < j + 1 → E[c]? = some m → gapB E m = false from fun c m hcm hm => by
      by_cases ec : c = j
      ·subst ec; rw [HE.out] at hm; injection hm with hm; subst hm; exact HG.out
      ·exact HJ.out c m (by omega) hm)
     go_wp2_with fail
     go_roundw
     case rel => exact ⟨j + 1, val_int (by omega), hlt, HJ2, HB2⟩
     case measure => simp [intOf]; omega
   ·have t2 : (q == 2) = false := by simpa using h2
    have HG := hid (show gapB E e = false by unfold gapB; rw [HQ.out, decide_eq_false h2]; rfl)
    have HJ2 := hid (show ∀ (c : Nat) (m : NE), c < j + 1 → E[c]? = some m → gapB E m = false from fun c m hcm hm => by
     by_cases ec : c = j
     ·subst ec; rw [HE.out] at hm; injection hm with hm; subst hm; exact HG.out
     ·exact HJ.out c m (by omega) hm)
    clear h2
    go_wp2_with fail
    go_roundw
    case rel => exact ⟨j + 1, val_int (by omega), hlt, HJ2, HB1⟩
    case measure => simp [intOf]; omega
  ·have HALL := hid (show ∀ e ∈ E, gapB E e = false from fun e he => by
    obtain ⟨i, hi⟩ := List.getElem?_of_mem he
    exact HJ.out i e (by have := lt_of_some hi; omega) hi)
   go_wp2_with fail
   refine bodyPost_ret (v := .tuple #[.int .i64 0, .bool false]) (by simp [results, Tryz.results50, go_sem]) rfl ?_
   exact ⟨vonto HBW.out HB.out, .inr ⟨HALL.out, rfl⟩⟩
end Go.Proofs.YteimbjamnfkapaaGreatDoor
namespace Go.Proofs
open Go.Shelf
def Tryz.laysSort_ren : Go.Shelf.Ren := ⟨fun | 6 => 95 | 15 => 151 | 14 => 150 | 28 => 212 | 29 => 213 | 20 => 204 | 21 => 205 | 22 => 206 | 23 => 207 | 24 => 208 | 25 => 209 | 26 => 210 | 27 => 211 | 46 => 252 | 47 => 253 | 48 => 254 | 49 => 255 | 50 => 256 | 57 => 290 | n => n, fun | 22 => 27 | 24 => 60 | 25 => 156 | 3 => 3 | 39 => 205 | 0 => 0 | 53 => 249 | 55 => 251 | 4 => 4 | 46 => 243 | 45 => 242 | 50 => 102 | 5 => 5 | 9 => 9 | 66 => 269 | 70 => 273 | 76 => 297 | 77 => 195 | n => n, fun | n => n⟩
theorem Tryz.laysSort : Go.Proofs.SlLaysF0.n6 Tryz.prog Tryz.laysSort_ren := {
 mixed := by kernel_rfl
 f6 := ⟨Tryz.f95.name, by decide, Tryz.func95.trans (congrArg some (by kernel_rfl))⟩
 f14 := ⟨Tryz.f150.name, by decide, Tryz.func150.trans (congrArg some (by kernel_rfl))⟩
 f15 := Tryz.func151.trans (congrArg some (by kernel_rfl))
 f20 := ⟨Tryz.f204.name, by decide, Tryz.func204.trans (congrArg some (by kernel_rfl))⟩
 f21 := ⟨Tryz.f205.name, by decide, Tryz.func205.trans (congrArg some (by kernel_rfl))⟩
 f22 := ⟨Tryz.f206.name, by decide, Tryz.func206.trans (congrArg some (by kernel_rfl))⟩
 f23 := ⟨Tryz.f207.name, by decide, Tryz.func207.trans (congrArg some (by kernel_rfl))⟩
 f24 := ⟨Tryz.f208.name, by decide, Tryz.func208.trans (congrArg some (by kernel_rfl))⟩
 f25 := ⟨Tryz.f209.name, by decide, Tryz.func209.trans (congrArg some (by kernel_rfl))⟩
 f26 := ⟨Tryz.f210.name, by decide, Tryz.func210.trans (congrArg some (by kernel_rfl))⟩
 f27 := ⟨Tryz.f211.name, by decide, Tryz.func211.trans (congrArg some (by kernel_rfl))⟩
 f28 := Tryz.func212.trans (congrArg some (by kernel_rfl))
 f29 := Tryz.func213.trans (congrArg some (by kernel_rfl))
 f46 := ⟨Tryz.f252.name, by decide, Tryz.func252.trans (congrArg some (by kernel_rfl))⟩
 f47 := Tryz.func253.trans (congrArg some (by kernel_rfl))
 f48 := Tryz.func254.trans (congrArg some (by kernel_rfl))
 f49 := ⟨Tryz.f255.name, by decide, Tryz.func255.trans (congrArg some (by kernel_rfl))⟩
 f50 := ⟨Tryz.f256.name, by decide, Tryz.func256.trans (congrArg some (by kernel_rfl))⟩
 f57 := ⟨Tryz.f290.name, by decide, Tryz.func290.trans (congrArg some (by kernel_rfl))⟩
 t0 := Tryz.underlying0
 a0 := Tryz.isAgg0
 z0 := Tryz.sizeOf0
 v0 := Tryz.zeroValue0
 t3 := Tryz.underlying3
 a3 := Tryz.isAgg3
 z3 := Tryz.sizeOf3
 v3 := Tryz.zeroValue3
 t4 := Tryz.underlying4
 a4 := Tryz.isAgg4
 z4 := Tryz.sizeOf4
 v4 := Tryz.zeroValue4
 t5 := Tryz.underlying5
 a5 := Tryz.isAgg5
 z5 := Tryz.sizeOf5
 v5 := Tryz.zeroValue5
 t9 := Tryz.underlying9
 a9 := Tryz.isAgg9
 z9 := Tryz.sizeOf9
 v9 := Tryz.zeroValue9
 t22 := Tryz.underlying27
 a22 := Tryz.isAgg27
 z22 := Tryz.sizeOf27
 v22 := Tryz.zeroValue27
 t25 := Tryz.underlying156
 a25 := Tryz.isAgg156
 z25 := Tryz.sizeOf156
 v25 := Tryz.zeroValue156
 t39 := Tryz.underlying205
 a39 := Tryz.isAgg205
 z39 := Tryz.sizeOf205
 v39 := Tryz.zeroValue205
 t45 := Tryz.underlying242
 a45 := Tryz.isAgg242
 z45 := Tryz.sizeOf242
 v45 := Tryz.zeroValue242
 t46 := Tryz.underlying243
 a46 := Tryz.isAgg243
 z46 := Tryz.sizeOf243
 v46 := Tryz.zeroValue243
 t50 := Tryz.underlying102
 a50 := Tryz.isAgg102
 z50 := Tryz.sizeOf102
 v50 := Tryz.zeroValue102
 t53 := Tryz.underlying249
 a53 := Tryz.isAgg249
 z53 := Tryz.sizeOf249
 v53 := Tryz.zeroValue249
 t55 := Tryz.underlying251
 a55 := Tryz.isAgg251
 z55 := Tryz.sizeOf251
 v55 := Tryz.zeroValue251
 t66 := Tryz.underlying269
 a66 := Tryz.isAgg269
 z66 := Tryz.sizeOf269
 v66 := Tryz.zeroValue269
 t70 := Tryz.underlying273
 a70 := Tryz.isAgg273
 z70 := Tryz.sizeOf273
 v70 := Tryz.zeroValue273
 t76 := Tryz.underlying297
 a76 := Tryz.isAgg297
 z76 := Tryz.sizeOf297
 v76 := Tryz.zeroValue297
 t77 := Tryz.underlying195
 a77 := Tryz.isAgg195
 z77 := Tryz.sizeOf195
 v77 := Tryz.zeroValue195 }
end Go.Proofs
/- Pairs cloned and put in order by the library, as value.Map asks it to. -/
/- slices.Clone and slices.SortFunc over pairs that hold trees. -/
namespace Go.Proofs.YteimbjamnfkapaaGreatDoor
open Go.RowKit Go.Shelf Go.Sort
abbrev PE := ByteArray × Int × Int × ByteArray × (Option Addr × Nat × Nat) × (Option Addr × Nat × Nat)
def encP (e : PE) : List Value := [.string e.1, .int .i64 e.2.1, .int .i64 e.2.2.1, .string e.2.2.2.1, .slice e.2.2.2.2.1.1 e.2.2.2.2.1.2.1 e.2.2.2.2.1.2.2, .slice e.2.2.2.2.2.1 e.2.2.2.2.2.2.1 e.2.2.2.2.2.2.2]
def slc : Value → Option Addr × Nat × Nat | .slice o n c => (o, n, c) | _ => (none, 0, 0)
def peOf (c : ByteArray) (t : VT) (x y : Value) : PE := (c, t.kd, t.nm, t.st, slc x, slc y)
theorem enc_pe (c : ByteArray) (t : VT) (o1 : Option Addr) (n1 c1 : Nat) (o2 : Option Addr) (n2 c2 : Nat) : encP (peOf c t (.slice o1 n1 c1) (.slice o2 n2 c2)) = [.string c, .int .i64 t.kd, .int .i64 t.nm, .string t.st, .slice o1 n1 c1, .slice o2 n2 c2] := rfl
theorem enc_len (e : PE) : (encP e).length = 6 := rfl
theorem enc_one (e : PE) : ∀ v ∈ encP e, v.oneCell' = true := by
 intro v hv
 simp only [encP, List.mem_cons, List.not_mem_nil, or_false] at hv
 rcases hv with rfl | rfl | rfl | rfl | rfl | rfl <;> rfl
def cfP (x y : PE) : Int := Lib.compareBytes x.1.data.toList y.1.data.toList
theorem cmp_lt : ∀ a b : List UInt8, (decide (Lib.compareBytes a b < 0)) = ltB a b
 | [], [] => rfl
 | [], _ :: _ => rfl
 | _ :: _, [] => rfl
 | a :: l, b :: m => by
  rw [ltB_cons, Lib.compareBytes]
  by_cases h1 : a < b
  ·rw [if_pos h1, decide_eq_true h1]; rfl
  ·rw [if_neg h1, decide_eq_false h1]
   by_cases h2 : b < a
   ·have h3 : (a == b) = false := by rw [beq_eq_false_iff_ne]; rintro rfl; exact h1 h2
    rw [if_pos h2, h3]; rfl
   ·have h3 : a = b := UInt8.le_antisymm (by simpa using h2) (by simpa using h1)
    rw [if_neg h2, cmp_lt l m, h3]; simp
theorem ltP (x y : PE) : ltOf cfP x y = ltB x.1.data.toList y.1.data.toList := cmp_lt _ _
theorem ltB_nt (a b c : List UInt8) (h1 : ltB a b = false) (h2 : ltB b c = false) : ltB a c = false := by
 cases h : ltB a c with
 | false => rfl
 | true =>
  rcases ltB_tri b c with ⟨h3, _, _⟩ | h3 | ⟨_, h3, _⟩
  ·rw [h2] at h3; cases h3
  ·rw [h3] at h1; rw [h1] at h; cases h
  ·have := ltB_trans a c b h h3; rw [h1] at this; cases this
theorem swoP : SWO (ltOf cfP) where
 irrefl x := by rw [ltP]; exact ltB_irr _
 trans x y z h1 h2 := by rw [ltP] at *; exact ltB_trans _ _ _ h1 h2
 ntrans x y z h1 h2 := by rw [ltP] at *; exact ltB_nt _ _ _ h1 h2
theorem chg_sort (w : World) (b o n : Nat) (d : Array PE) (os : Array Obj) : Chg b (b + 1) w (sortWorldK encP 6 w b o n d os) := by
 refine ⟨rfl, rfl, rfl, size_sortWorldK_c encP 6 w b o n d os, fun k hk hn => ?_⟩
 show ((w.heap.modify b _) ++ os)[k]? = _
 rw [Array.getElem?_append_left (by simpa using hk), Array.getElem?_modify, if_neg (by omega)]
theorem perm_lift {α β : Type} (f : α → β) : ∀ {l' l : List β}, l'.Perm l → ∀ A : List α, A.map f = l → ∃ A' : List α, A'.Perm A ∧ A'.map f = l' := by
 intro l' l h
 induction h with
 | nil => intro A hA; exact ⟨A, List.Perm.refl _, hA⟩
 | cons x _ ih =>
  intro A hA
  cases A with
  | nil => simp at hA
  | cons a r =>
   simp at hA
   obtain ⟨A', h1, h2⟩ := ih r hA.2
   exact ⟨a :: A', h1.cons a, by simp [h2, hA.1]⟩
 | swap x y l =>
  intro A hA
  match A, hA with
  | a :: b :: r, hA =>
   simp at hA
   exact ⟨b :: a :: r, List.Perm.swap a b r, by simp [hA.1, hA.2.1, hA.2.2]⟩
 | trans _ _ ih1 ih2 =>
  intro A hA
  obtain ⟨B, h1, h2⟩ := ih2 A hA
  obtain ⟨C, h3, h4⟩ := ih1 B h2
  exact ⟨C, h3.trans h1, h4⟩
end Go.Proofs.YteimbjamnfkapaaGreatDoor
namespace Go.Proofs.YteimbjamnfkapaaGreatDoor
open Go.RowKit Go.Shelf Go.Sort
def RelP (w : World) (x : PE × (ByteArray × VT)) : Prop := x.1.1 = x.2.1 ∧ x.2.1.size ≤ maxLen ∧ x.1.2.1 = x.2.2.kd ∧ x.1.2.2.1 = x.2.2.nm ∧ x.1.2.2.2.1 = x.2.2.st ∧ HV w x.2.2 (.slice x.1.2.2.2.2.1.1 x.1.2.2.2.2.1.2.1 x.1.2.2.2.2.1.2.2) (.slice x.1.2.2.2.2.2.1 x.1.2.2.2.2.2.2.1 x.1.2.2.2.2.2.2.2)
def Held (w0 w : World) (g : Nat) (A : List (ByteArray × VT)) : Prop := ∃ (d : Array PE) (D : List (PE × (ByteArray × VT))), HoldsK encP 6 w g 0 d ∧ D.map (·.1) = d.toList ∧ D.map (·.2) = A ∧ ∀ x ∈ D, RelP w0 x
end Go.Proofs.YteimbjamnfkapaaGreatDoor
