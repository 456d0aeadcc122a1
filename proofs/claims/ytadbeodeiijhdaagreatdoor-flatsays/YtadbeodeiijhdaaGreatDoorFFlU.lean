
import Derived.Test.YtadbeodeiijhdaaGreatDoorFLawPartsOf
import Derived.Test.YtadbeodeiijhdaaGreatDoorFCeA
import Derived.Test.YtadbeodeiijhdaaGreatDoorFRef5Far
/- The document's Flat, walked. -/
namespace Go.Proofs.YtadbeodeiijhdaaGreatDoor
open Go.RowKit

def DFlat (T : VT) (w : World) (e : Ending) (w' : World) : Prop := ∃ h r, e = .returned (.tuple #[h, r, .int .i64 (flatE T)]) ∧ InS w' (flatH T) h ∧ InRs w' (flatR T) r ∧ Below w.heap.size w w'
theorem dflat_no {T : VT} {w w' : World} {e : Ending} {k : Int} (hk : flatE T = k) (h0 : ¬ k = 0) (he : e = .returned (.tuple #[.slice none 0 0, .slice none 0 0, .int .i64 k])) (hb : Below w.heap.size w w') : DFlat T w e w' := by
  refine ⟨.slice none 0 0, .slice none 0 0, by rw [hk]; exact he, ?_, ?_, hb⟩
  · unfold flatH; rw [hk, if_neg h0]; exact ins_nil _
  · unfold flatR; rw [hk, if_neg h0]; exact inrs_nil _
theorem fe_one {T : VT} (h : lomB T = false) : flatE T = 1 := by unfold flatE; rw [if_pos h]
/-- columns as the document has them -/
structure DC (W wr : World) (c : Value) (R : List (List PStep)) : Prop where
  bel : Below W.heap.size W wr
  inc : InC wr R c
  nil : R = [] → c = .slice none 0 0
theorem DC.onto {W wr w' : World} {c : Value} {R : List (List PStep)} (h : DC W wr c R) (hb : Below wr.heap.size wr w') : DC W w' c R := ⟨vonto h.bel hb, h.inc.onto hb, h.nil⟩
theorem DC.sl {W wr : World} {c : Value} {R : List (List PStep)} (h : DC W wr c R) : ∃ o k, c = .slice o R.length k := by
  obtain ⟨a, ⟨o, k, rfl, -⟩, -⟩ := h.inc
  exact ⟨o, k, rfl⟩
theorem dadd_add (a : Addr) (i j : Nat) : (a.add i).add j = a.add (i + j) := by
  unfold Addr.add
  by_cases h1 : i = 0 <;> by_cases h2 : j = 0 <;> simp [h1, h2] <;> omega
theorem dc_new (W : World) : DC W W (.slice none 0 0) [] := ⟨Below.refl _ _, ⟨⟨0, 0, none⟩, ⟨none, 0, rfl, Nat.le_refl _, Nat.zero_le _, fun h => absurd h (by simp)⟩, fun i s h => by simp at h⟩, fun _ => rfl⟩
theorem fe_many {T : VT} (h : lomB T = true) (h2 : 64 < (flatC T).length) : flatE T = 2 := by
  unfold flatE
  rw [if_neg (by rw [h]; decide)]
  by_cases h3 : 512 < T.ls.length
  · rw [if_pos h3]
  · rw [if_neg h3, if_pos h2]
theorem flat_two {T : VT} {k m : Nat} {r : List ByteArray} {c : ByteArray} (hft : flatE T = if flatL T = true then 2 else 0) (h1 : (flatW T)[k]? = some r) (h2 : r[m]? = some c) (h : 4096 < c.size) : flatE T = 2 := by
  rw [hft, if_pos]
  unfold flatL
  rw [Bool.or_eq_true]
  right
  rw [List.any_eq_true]
  refine ⟨r, List.mem_of_getElem? h1, ?_⟩
  unfold longR
  rw [List.any_eq_true]
  exact ⟨c, List.mem_of_getElem? h2, by unfold longS; simp [h]⟩
theorem hv_nwf {w : World} {T : VT} {x y : Value} (h : HV w T x y) : (Lit.int .i64 T.nm).wf = true := by
  obtain ⟨_, _, _, _, _, _, _, _, _, _, -, -, -, -, -, -, -, -, -, -, -, -, -, -, -, -, h⟩ := h.parts
  exact h
theorem got_small {t R : VT} {p : List PStep} (hm : mayB 0 1 t = true) (h : R = (getP t p).getD zeroT) : R.ls.length + R.vs.length ≤ 8192 := by
  have h1 := (good_sz hm).1
  have h2 : szT R ≤ 4096 := by
    rw [h]
    cases hg : getP t p with
    | none => decide
    | some u => have := sz_get p t u hg; simp only [Option.getD_some]; omega
  have := len_sz R
  omega
theorem put_dc {W1 w4 w7 Y : World} {Q : List (List PStep)} {p : List PStep} {U : List Value} {a : Nat} {u v : Value} (hb : Below W1.heap.size W1 w4) (h47 : Below w4.heap.size w4 w7) (hY : Below w7.heap.size w7 Y) (hn : hasC Q p = false) (ha : a = posC Q p) (hl : U.length = Q.length)
    (hup : ∀ (i : Nat) (q : List PStep) (u : Value), Q[i]? = some q → U[i]? = some u → InP w7 q u) (hu : InP w7 p u) (h : Y.ownsRow w7.heap.size 38 1 v (Q.length + 1) ([] ++ U.take a ++ [u] ++ U.drop a)) : DC W1 Y v (putC Q p) := by
  have hle := posC_le Q p
  have e : putC Q p = Q.take (posC Q p) ++ p :: Q.drop (posC Q p) := by unfold putC; rw [if_neg (by rw [hn]; decide)]
  have el : (putC Q p).length = Q.length + 1 := by rw [e]; simp; omega
  have eU : [] ++ U.take a ++ [u] ++ U.drop a = U.take (posC Q p) ++ u :: U.drop (posC Q p) := by rw [ha]; simp
  rw [eU, ← el] at h
  refine ⟨vonto hb (vonto h47 hY), inc_of h (by rw [el]; simp; omega) (fun i q v hq hv => InP.onto ?_ hY), fun h0 => by rw [h0] at el; simp at el⟩
  rw [cins_at _ _ _ _ (by omega)] at hv
  rw [e] at hq
  by_cases c1 : i < posC Q p
  · rw [if_pos c1] at hv
    rw [List.getElem?_append_left (by simp; omega), List.getElem?_take, if_pos c1] at hq
    exact hup i q v hq hv
  · rw [if_neg c1] at hv
    rw [List.getElem?_append_right (by simp; omega), List.length_take, Nat.min_eq_left hle] at hq
    by_cases c2 : i = posC Q p
    · rw [if_pos c2] at hv
      rw [c2, Nat.sub_self] at hq
      simp at hq hv
      subst hq hv; exact hu
    · rw [if_neg c2] at hv
      rw [show i - posC Q p = (i - posC Q p - 1) + 1 by omega, List.getElem?_cons_succ, List.getElem?_drop, show posC Q p + (i - posC Q p - 1) = i - 1 by omega] at hq
      exact hup (i - 1) q v hq hv
theorem col_small {T : VT} (hl : lomB T = true) (hw : wfT T) {p : List PStep} (hp : p ∈ flatC T) : (∀ s ∈ p, Frm s) ∧ (∀ s ∈ p, Small s) ∧ p.length ≤ 100 ∧ 1 ≤ (textP p).length := by
  obtain ⟨-, h, -⟩ := lom_parts hl
  obtain ⟨h1, h2⟩ := col_name hl hw hp
  obtain ⟨e, he, rfl⟩ := (flat_mem h hw).1 hp
  obtain ⟨l, h3, h4⟩ := List.mem_flatten.1 he
  obtain ⟨t, ht, rfl⟩ := List.mem_map.1 h3
  obtain ⟨i, hi⟩ := List.getElem?_of_mem ht
  obtain ⟨r, -, g1, g2, g3, -⟩ := lf_good h hw hi e h4
  exact ⟨h2, g2, g3, by rw [← h1]; simp⟩
theorem Tryz.infoStrD : (Tryz.prog.info? 9).map (fun i => (i.zero, i.size, i.bytes)) = some (some (.string ⟨#[]⟩), 1, 16) := by kernel_rfl
/-- a string behind a row of one's own -/
theorem catS (base : Nat) (X : World) (v : Value) (K : List ByteArray) (n : Nat) (hn : K.length = n) (hown : X.ownsRow base 9 1 v n (K.map Value.string)) (nb : Nat) (c : ByteArray) (hc : X.cell? ⟨nb, 0, none⟩ = some (.string c)) (hb : base ≤ X.heap.size) (hl : n ≤ 100000) :
    ∃ g cap Y, (Builtin.append_ #[42, 42] 42 #[v, .slice (some ⟨nb, 0, none⟩) 1 1]).run Tryz.prog X = .ok (.slice (some ⟨g, 0, none⟩) (n + 1) cap) Y ∧ Y.ownsRow base 9 1 (.slice (some ⟨g, 0, none⟩) (n + 1) cap) (n + 1) ((K ++ [c]).map Value.string) ∧ (∀ W0 : World, W0.heap.size = base → Below base W0 X → Below base W0 Y) := by
  obtain ⟨i1, hi', hz0', hz1', hz2'⟩ := info_parts Tryz.infoStrD
  obtain ⟨g, cp, Y, hr, h2, h3, h4, h5⟩ := run_append_lies (P := Tryz.prog) X 42 42 base 9 i1 (.string ⟨#[]⟩) 1 16 Tryz.underlying42 hi' hz0' hz1' hz2' rfl (by decide) v n _ hown ⟨nb, 0, none⟩ 1 1 [.string c] rfl (fun j u hj => by
    match j, hj with
    | 0, hj => simp at hj; subst hj; simpa [Addr.add] using hc
    | j + 1, hj => simp at hj) (fun u hu => by rw [List.mem_singleton.1 hu]; rfl) (by decide) (by unfold maxLen; omega) (by omega) hb X.heap.size rfl
  exact ⟨g, cp, Y, hr, by rw [List.map_append]; exact h2, fun W0 hW0 hB => by subst hW0; exact hB.grown h3 hb (fun q hq => (hown.lt q hq).1)⟩
/-- rows of strings gathered since a world -/
structure Gor (W X : World) (l : Value) (E : List (List ByteArray × Value)) : Prop where
  row : X.ownsRow W.heap.size 42 1 l E.length (E.map (·.2))
  els : ∀ e ∈ E, X.ownsRow W.heap.size 9 1 e.2 e.1.length (e.1.map Value.string)
  bel : Below W.heap.size W X
theorem Gor.onto {W X Y : World} {l : Value} {E : List (List ByteArray × Value)} (h : Gor W X l E) (hb : Below X.heap.size X Y) : Gor W Y l E :=
  ⟨ownsRow_below h.row hb, fun e he => ownsRow_below (h.els e he) hb, vonto h.bel hb⟩
theorem Gor.more {W X Y : World} {l l' : Value} {E E' : List (List ByteArray × Value)} (h : Gor W X l E) (hE : ∀ e ∈ E', X.ownsRow W.heap.size 9 1 e.2 e.1.length (e.1.map Value.string))
    (hr : Y.ownsRow W.heap.size 42 1 l' (E.length + E'.length) (E.map (·.2) ++ E'.map (·.2))) (hg : X.grownBy Y l.ownBlock) : Gor W Y l' (E ++ E') := by
  refine ⟨by rw [List.length_append, List.map_append]; exact hr, fun e he => ?_, ?_⟩
  · rcases List.mem_append.1 he with he | he
    · exact (h.els e he).kept hg (own_apart (h.els e he) h.row (by decide))
    · exact (hE e he).kept hg (own_apart (hE e he) h.row (by decide))
  · exact h.bel.grown hg (by have := h.bel.size; omega) (fun q hq => (h.row.lt q hq).1)
theorem Gor.inRs {W X : World} {l : Value} {E : List (List ByteArray × Value)} (h : Gor W X l E) (hs : ∀ e ∈ E, ∀ c ∈ e.1, c.size ≤ maxLen) : InRs X (E.map (·.1)) l := by
  have hc := h.row
  rcases hc with ⟨-, ⟨rfl, h0⟩ | ⟨g, cap, cur, rfl, -, -, hn, hcm, -, -⟩⟩
  · have : E = [] := List.eq_nil_of_length_eq_zero h0
    subst this
    exact inrs_nil _
  · refine ⟨⟨g, 0, none⟩, ⟨_, _, by rw [List.length_map], by rw [List.length_map]; omega, hcm, fun _ => rfl⟩, fun i K hK => ?_⟩
    rw [List.getElem?_map] at hK
    obtain ⟨e, he, rfl⟩ := Option.map_eq_some_iff.1 hK
    have hi := lt_of_some he
    have hm := List.mem_of_getElem? he
    refine ⟨e.2, ?_, stro_ins (h.els e hm) (hs e hm)⟩
    rw [add_at, h.row.cellAt i (by omega), List.getElem?_map, he]; rfl
theorem Tryz.infoRowD : (Tryz.prog.info? 42).map (fun i => (i.zero, i.size, i.bytes)) = some (some (.slice none 0 0), 1, 24) := by kernel_rfl
/-- a row of strings behind rows of one's own -/
theorem catR (base : Nat) (X : World) (v : Value) (ys : List Value) (n : Nat) (hown : X.ownsRow base 42 1 v n ys) (nb : Nat) (c : Value) (h1 : c.oneCell' = true) (hc : X.cell? ⟨nb, 0, none⟩ = some c) (hb : base ≤ X.heap.size) (hl : n ≤ 100000) :
    ∃ g cap Y, (Builtin.append_ #[43, 43] 43 #[v, .slice (some ⟨nb, 0, none⟩) 1 1]).run Tryz.prog X = .ok (.slice (some ⟨g, 0, none⟩) (n + 1) cap) Y ∧ Y.ownsRow base 42 1 (.slice (some ⟨g, 0, none⟩) (n + 1) cap) (n + 1) (ys ++ [c]) ∧ X.grownBy Y v.ownBlock := by
  obtain ⟨i1, hi', hz0', hz1', hz2'⟩ := info_parts Tryz.infoRowD
  obtain ⟨g, cp, Y, hr, h2, h3, h4, h5⟩ := run_append_lies (P := Tryz.prog) X 43 43 base 42 i1 (.slice none 0 0) 1 24 Tryz.underlying43 hi' hz0' hz1' hz2' rfl (by decide) v n _ hown ⟨nb, 0, none⟩ 1 1 [c] rfl (fun j u hj => by
    match j, hj with
    | 0, hj => simp at hj; subst hj; simpa [Addr.add] using hc
    | j + 1, hj => simp at hj) (fun u hu => by rw [List.mem_singleton.1 hu]; exact h1) (by decide) (by unfold maxLen; omega) (by omega) hb X.heap.size rfl
  exact ⟨g, cp, Y, hr, h2, h3⟩
theorem put_new {Q : List (List PStep)} {p : List PStep} (hn : hasC Q p = false) : (putC Q p).length = Q.length + 1 := by
  have hle := posC_le Q p
  have e : putC Q p = Q.take (posC Q p) ++ p :: Q.drop (posC Q p) := by unfold putC; rw [if_neg (by rw [hn]; decide)]
  rw [e]; simp; omega
set_option maxRecDepth 100000 in
set_option maxHeartbeats 20000000 in
theorem dflat_any (T : VT) (x y : Value) (w : World) (hT : HV w T x y) : Calls Tryz.prog 18 #[vv T x y] w (DFlat T w) := by
  have hwf := hv_wfT (szT T) (Nat.le_refl _) hT
  have CV := hid (fun (X : World) (hX : Below w.heap.size w X) => rvalue_any T x y X (hT.onto hX))
  obtain ⟨al, bl, f, g, p, q, oL, oM, cL, cM, rfl, rfl, -, -, hL3, hM3, hK, -, hlL, hlM, kL, kK, kM, rL, rM, -, -⟩ := hT.parts
  have hal := valloc_bel (Below.refl w.heap.size w) (.cells #[.int .i64 T.kd, .int .i64 T.nm, .string T.st, .slice oL T.ls.length cL, .slice oM T.vs.length cM] 26)
  have hcs : Cs (w.alloc (.cells #[.int .i64 T.kd, .int .i64 T.nm, .string T.st, .slice oL T.ls.length cL, .slice oM T.vs.length cM] 26)) w.heap.size [.int .i64 T.kd, .int .i64 T.nm, .string T.st, .slice oL T.ls.length cL, .slice oM T.vs.length cM] := fun i v h => cells_in rfl rfl (by simpa using h)
  simp only [vv] at CV ⊢
  have HkL := hid kL; have HrL := hid rL
  have HWF := hid hwf
  obtain ⟨M0, hM0⟩ : ∃ b, mayB 0 1 T = b := ⟨_, rfl⟩
  rw [hM0] at CV
  have HM0 := hid hM0
  obtain ⟨KD, hKD⟩ : ∃ k, T.kd = k := ⟨_, rfl⟩
  have HKD := hid hKD
  rw [hKD] at CV hal hcs ⊢
  clear hT kL kK kM rL rM hK hM3 hwf hM0 hKD
  go_enter Tryz.func18, Tryz.ntmps18
  go_upto_region 1 with fail
  refine cewp_gen ?_
  intro W0 hW
  rw [← hW] at hal hcs
  have g0 := hcs 0 _ rfl
  have g1 := hcs 1 _ rfl
  have g2 := hcs 2 _ rfl
  have g3 := hcs 3 _ rfl
  have g4 := hcs 4 _ rfl
  have HB0 := hid hal
  clear hW hal hcs
  go_wp2_with fail
  go_at_call 12
  refine (CV.out _ HB0.out).mono ?_
  rintro e W1 ⟨rfl, hb1⟩
  have g0 := keepCell hb1 g0
  have g3 := keepCell hb1 g3
  have HB1 := hid (vonto HB0.out hb1)
  clear hb1 CV HB0 g1 g2 g4
  cases M0 with
  | false =>
    have HE := hid (fe_one (show lomB T = false by unfold lomB; rw [HM0.out]; simp))
    go_wp2_with fail
    refine bodyPost_ret (v := .tuple #[.slice none 0 0, .slice none 0 0, .int .i64 1]) (by simp [results, Tryz.results18, go_sem]) rfl (dflat_no HE.out (by decide) rfl HB1.out)
  | true =>
  by_cases h5 : KD = 5
  case neg =>
    have HE := hid (fe_one (show lomB T = false by unfold lomB; rw [HKD.out]; simp [h5]))
    have t5 : (KD != 5) = true := by simpa using h5
    clear h5
    go_wp2_with fail
    refine bodyPost_ret (v := .tuple #[.slice none 0 0, .slice none 0 0, .int .i64 1]) (by simp [results, Tryz.results18, go_sem]) rfl (dflat_no HE.out (by decide) rfl HB1.out)
  have t5 : (KD != 5) = false := by simpa using h5
  have H5 := hid h5
  clear h5
  have hz4 := (good_sz HM0.out).1
  have hls4 := len_sz T
  have hn4 : T.ls.length ≤ 4096 := by omega
  clear hz4 hls4
  by_cases h0 : T.ls.length = 0
  · have HE := hid (fe_one (show lomB T = false by unfold lomB; rw [List.eq_nil_of_length_eq_zero h0]; simp))
    rw [h0] at g3
    clear hlL hlM hn4 hL3 h0
    go_wp2_with fail
    refine bodyPost_ret (v := .tuple #[.slice none 0 0, .slice none 0 0, .int .i64 1]) (by simp [results, Tryz.results18, go_sem]) rfl (dflat_no HE.out (by decide) rfl HB1.out)
  have t0 : ((T.ls.length : Int) == 0) = false := by rw [beq_eq_false_iff_ne]; omega
  obtain rfl := hL3 (by omega)
  have H0 := hid h0
  clear h0 hL3
  go_wp2_with fail
  go_loopw [6] (fun i wr => ∃ j : Nat, i = .int .i64 j ∧ j ≤ T.ls.length ∧ Hid (∀ (i : Nat) (t : VT), i < j → T.ls[i]? = some t → t.kd = 6 ∧ 0 < t.vs.length) ∧ W1 = wr) (fun i _ => T.ls.length - (intOf i).toNat)
  case atStart => exact ⟨0, rfl, Nat.zero_le _, hid (fun i t h => absurd h (Nat.not_lt_zero i)), rfl⟩
  case round =>
    obtain ⟨j, rfl, hj, HJ, rfl⟩ := hrel
    by_cases hlt : j < T.ls.length
    · obtain ⟨t, ht⟩ : ∃ t, T.ls[j]? = some t := ⟨T.ls[j], List.getElem?_eq_getElem hlt⟩
      obtain ⟨d0, d1, d2, d3, d4⟩ := (HkL.out j t ht).onto HB1.out
      have hvt := HrL.out j t ht
      obtain ⟨-, -, -, -, -, -, o1, o2, c1, c2, ex, ey, -⟩ := hvt.parts
      rw [ex] at d3
      rw [ey] at d4
      have HT := hid ht
      clear ex ey hvt ht
      have bad : ∀ (h : ¬ (t.kd = 6 ∧ 0 < t.vs.length)), lomB T = false := fun h => by
        unfold lomB
        rw [all_not HT.out (by cases hv : t.vs with
          | nil => simp
          | cons a r => rw [hv] at h; simp at h; simp [h]), Bool.and_false]
      have HBAD := hid bad
      clear bad
      by_cases h6 : t.kd = 6
      case neg =>
        have t6 : (t.kd != 6) = true := by simpa using h6
        have HE := hid (fe_one (HBAD.out (fun h => h6 h.1)))
        clear h6
        go_wp2_with fail
        refine bodyPost_ret (v := .tuple #[.slice none 0 0, .slice none 0 0, .int .i64 1]) (by simp [results, Tryz.results18, go_sem]) rfl (dflat_no HE.out (by decide) rfl HB1.out)
      have t6 : (t.kd != 6) = false := by simpa using h6
      have H6 := hid h6
      clear h6
      by_cases hv : t.vs.length = 0
      · have HE := hid (fe_one (HBAD.out (fun h => by omega)))
        rw [hv] at d4
        clear hv
        go_wp2_with fail
        refine bodyPost_ret (v := .tuple #[.slice none 0 0, .slice none 0 0, .int .i64 1]) (by simp [results, Tryz.results18, go_sem]) rfl (dflat_no HE.out (by decide) rfl HB1.out)
      have tv : ((t.vs.length : Int) == 0) = false := by rw [beq_eq_false_iff_ne]; omega
      have HV0 := hid hv
      clear hv
      go_wp2_with fail
      go_roundw
      case rel => exact ⟨j + 1, val_int (by omega), hlt, hid (fun i t' hi ht' => by
        by_cases e : i = j
        · subst e
          rw [HT.out] at ht'
          injection ht' with ht'
          subst ht'
          exact ⟨H6.out, by have := HV0.out; omega⟩
        · exact HJ.out i t' (by omega) ht'), trivial⟩
      case measure => simp [intOf]; omega
    · have hjn : j = T.ls.length := by omega
      subst hjn
      have hlom : lomB T = true := by
        unfold lomB
        rw [HM0.out, HKD.out, H5.out]
        have h1 : T.ls.isEmpty = false := by
          cases h : T.ls with
          | nil => exact absurd (by rw [h]; rfl) H0.out
          | cons a r => rfl
        have h2 : (T.ls.all fun t => decide (t.kd = 6) && !t.vs.isEmpty) = true := by
          rw [List.all_eq_true]
          intro t ht
          obtain ⟨i, hi⟩ := List.getElem?_of_mem ht
          obtain ⟨a1, a2⟩ := HJ.out i t (lt_of_some hi) hi
          cases hv : t.vs with
          | nil => rw [hv] at a2; simp at a2
          | cons b r => simp [a1]
        rw [h1, h2]; decide
      have HLOM := hid hlom
      have HXL := hid (fun (i : Nat) (t : VT) (hi : T.ls[i]? = some t) => lom_frm HM0.out HWF.out (lfT t []) (List.mem_map.2 ⟨t, List.mem_of_getElem? hi, rfl⟩))
      have HMK := hid (fun (i : Nat) (t : VT) (hi : T.ls[i]? = some t) => may_kid HM0.out hi)
      clear hlom HJ
      go_wp2_with fail
      go_loopw [5, 7] (fun c i wr => ∃ (j : Nat) (R : List (List PStep)), i = .int .i64 j ∧ j ≤ T.ls.length ∧ Hid (DC W1 wr c R) ∧ Hid (R = colF (((flatX T).take j).flatten) []) ∧ R.length ≤ 64 ∧ Hid (Good3 R)) (fun _ i _ => T.ls.length - (intOf i).toNat)
      case atStart => exact ⟨0, [], rfl, Nat.zero_le _, hid (dc_new _), hid rfl, Nat.zero_le _, hid Good3.nil⟩
      case round =>
        obtain ⟨w2, rfl⟩ : ∃ X, X = wr := ⟨_, rfl⟩
        obtain ⟨i, R, rfl, hi, HC, HR, hR64, HG⟩ := hrel
        clear hlt hj
        by_cases hlt : i < T.ls.length
        · obtain ⟨t, ht⟩ : ∃ t, T.ls[i]? = some t := ⟨T.ls[i], List.getElem?_eq_getElem hlt⟩
          have g3' := keepCell HC.out.bel g3
          obtain ⟨d0, d1, d2, d3, d4⟩ := (HkL.out i t ht).onto (vonto HB1.out HC.out.bel)
          have hvt := HrL.out i t ht
          obtain ⟨o1, n1, c1, o2, n2, c2, hf, hg'⟩ := hv_slices hvt
          rw [hf] at d3 hvt
          rw [hg'] at d4 hvt
          have LV := hid (dleaves_in t _ _ w2 (hvt.onto (vonto HB1.out HC.out.bel)) (HMK.out i t ht))
          simp only [vv] at LV
          have hll : (lfT t []).length ≤ 4096 := by
            have h1 := lfT_len t []
            have h2 := szT_ls T i t ht
            have h3 := (good_sz HM0.out).1
            omega
          have HX : Hid ((flatX T)[i]? = some (lfT t [])) := hid (by unfold flatX; rw [List.getElem?_map, ht]; rfl)
          have HFL := hid (HXL.out i t ht)
          obtain ⟨l, hl⟩ : ∃ l, lfT t [] = l := ⟨_, rfl⟩
          rw [hl] at LV hll HX HFL
          obtain ⟨oc, cc, rfl⟩ := HC.out.sl
          clear hf hg' hvt ht hl
          go_wp2_with fail
          go_at_call 14
          refine LV.out.mono ?_
          rintro e w3 ⟨lv, rfl, hlf, hb3⟩
          obtain ⟨ol, cl, rfl⟩ := inlf_sl hlf
          have HLF := hid hlf
          have HC3 := hid (HC.out.onto hb3)
          clear hlf hb3 LV d0 d1 d2 d3 d4 g3'
          go_wp2_with fail
          go_loopw [5, 9] (fun c k wr => ∃ (k' : Nat) (Q : List (List PStep)), k = .int .i64 k' ∧ k' ≤ l.length ∧ Hid (DC W1 wr c Q) ∧ Hid (Q = colF (l.take k') (colF (((flatX T).take i).flatten) [])) ∧ Q.length ≤ 64 ∧ Hid (Good3 Q) ∧ Hid (Below w3.heap.size w3 wr)) (fun _ k _ => l.length - (intOf k).toNat)
          case atStart => exact ⟨0, R, rfl, Nat.zero_le _, HC3, by rw [HR.out]; rfl, hR64, HG, hid (Below.refl _ _)⟩
          case round =>
            obtain ⟨w4, rfl⟩ : ∃ X, X = wr := ⟨_, rfl⟩
            clear HC HC3 HR HG hR64
            obtain ⟨k, Q, rfl, hk, HC, HR, hR64, HG, HBW⟩ := hrel
            obtain ⟨oq, kq, rfl⟩ := HC.out.sl
            by_cases hlk : k < l.length
            · obtain ⟨e, he⟩ : ∃ e, l[k]? = some e := ⟨l[k], List.getElem?_eq_getElem hlk⟩
              obtain ⟨a2, u, x, y, rfl, c0, -, hip, -⟩ := inlf_at HLF.out he
              have c0 := keepCell HBW.out c0
              have hfe := HFL.out e (List.mem_of_getElem? he)
              obtain ⟨p, hp⟩ : ∃ p, e.1 = p := ⟨_, rfl⟩
              rw [hp] at hip hfe
              have HIP := hid (hip.onto HBW.out)
              have HFE := hid hfe
              have HNX := hid (show colF (l.take (k + 1)) (colF (((flatX T).take i).flatten) []) = putC Q p by
                rw [List.take_add_one, he]
                show colF (l.take k ++ [e]) _ = _
                rw [colF_app, ← HR.out, ← hp]; rfl)
              have HNL := hid (show (putC Q p).length ≤ (flatC T).length by
                have := cols_next HX.out he
                rw [colF_app, ← HR.out, colF_one, hp] at this; exact this)
              obtain ⟨ou, cu, rfl⟩ := inp_slice hip
              have hple := posC_le Q p
              clear hip hfe he hp
              go_wp2_with fail
              go_loopw [10] (fun s wr => ∃ a : Nat, s = .int .i64 a ∧ a ≤ posC Q p ∧ Hid (Below w4.heap.size w4 wr)) (fun s _ => Q.length + 1 - (intOf s).toNat)
              case atStart => exact ⟨0, rfl, Nat.zero_le _, hid (Below.refl _ _)⟩
              case round =>
                obtain ⟨w5, rfl⟩ : ∃ X, X = wr := ⟨_, rfl⟩
                obtain ⟨a, rfl, ha, HB5⟩ := hrel
                have c1 := keepCell HB5.out c0
                have hinh := abv_some w5
                by_cases hal : a < Q.length
                · obtain ⟨q, hq⟩ : ∃ q, Q[a]? = some q := ⟨Q[a], List.getElem?_eq_getElem hal⟩
                  obtain ⟨aq, ⟨oq', kq', e1, hq1, hq2, hq3⟩, hqe⟩ := HC.out.inc
                  injection e1 with e1 e1b e1c
                  have hq3 := hq3 (by omega)
                  rw [← e1] at hq3
                  subst hq3
                  obtain ⟨v, hqc, hqi⟩ := hqe a q hq
                  have hqc := keepCell HB5.out hqc
                  obtain ⟨ov, cv, rfl⟩ := inp_slice hqi
                  have CM := hid (fun X : Abv w5 => cmp5_any q p _ _ X.u (hqi.onto (vonto HB5.out X.h)) (HIP.out.onto (vonto HB5.out X.h)) (HG.out.f q (List.mem_of_getElem? hq)) HFE.out)
                  have halI : (a : Int) < (Q.length : Int) := by omega
                  have hlo : a < posC Q p → cmpP q p < 0 := fun h => posC_lt Q p a q h hq
                  have hhi : a = posC Q p → 0 ≤ cmpP q p := fun h => by subst h; exact posC_ge Q p q hq
                  have hhs : a = posC Q p → hasC Q p = decide (cmpP q p = 0) := fun h => by subst h; exact hasC_some hq
                  have HHI := hid hhi; have HHS := hid hhs; have HLO := hid hlo
                  obtain ⟨z, hz⟩ : ∃ z, cmpP q p = z := ⟨_, rfl⟩
                  rw [hz] at CM HHI HHS HLO
                  have HZ := hid hz
                  have hzv : z = -1 ∨ z = 0 ∨ z = 1 := by rw [← hz]; exact cpV_val q p
                  have HQI := hid hqi
                  have HFQ := hid (HG.out.f q (List.mem_of_getElem? hq))
                  clear hhi hhs hlo hz hqe hqi hq e1 e1b e1c
                  by_cases hap : a < posC Q p
                  · have hz0 := HLO.out hap
                    go_wp2_with fail
                    have yc := above_cell hqc
                    have yl := above_cell c1
                    clear hqc c1 c0
                    refine wp_region_above (by kernel_rfl) (by kernel_rfl) ?_
                    repeat (go_big_quiet_step ((go_at_call 40; with_reducible exact above_of (CM.out _))))
                    refine wpQuiet_nil ?_
                    intro _ hw'
                    obtain ⟨X, hX⟩ := hw'
                    subst hX
                    go_wp2_with fail
                    go_roundw
                    case rel => exact ⟨a + 1, val_int (by omega), hap, hid (vonto HB5.out X.h)⟩
                    case measure => simp [intOf]; omega
                  · have hae : a = posC Q p := by omega
                    have hz0 := HHI.out hae
                    have HSH := hid (HHS.out hae)
                    have HQC := hid hqc; have HC1 := hid c1; have HC0 := hid c0
                    have HAE := hid hae
                    clear HHI HHS HLO hae hap
                    go_wp2_with fail
                    have yc := above_cell hqc
                    have yl := above_cell c1
                    clear hqc c1 c0
                    refine wp_region_above (by kernel_rfl) (by kernel_rfl) ?_
                    repeat (go_big_quiet_step ((go_at_call 40; with_reducible exact above_of (CM.out _))))
                    refine wpQuiet_nil ?_
                    intro _ hw'
                    obtain ⟨X, hX⟩ := hw'
                    subst hX
                    have d0 := keepCell X.h HQC.out
                    have d1 := keepCell X.h HC1.out
                    have HB6 := hid (vonto HB5.out X.h)
                    have hne : ((a : Int) == (Q.length : Int)) = false := by rw [beq_eq_false_iff_ne]; omega
                    clear yc yl CM HB5 hinh HC1 HQC
                    generalize X.u = w6 at *
                    clear X
                    have hinh := abv_some w6
                    have CM := hid (fun X : Abv w6 => cmp5_any q p _ _ X.u (HQI.out.onto (vonto HB6.out X.h)) (HIP.out.onto (vonto HB6.out X.h)) HFQ.out HFE.out)
                    rw [HZ.out] at CM
                    have yc := above_cell d0
                    have yl := above_cell d1
                    have HD1 := hid d1
                    clear d0 d1
                    by_cases hz1 : z = 0
                    · have HEQ := hid (show putC Q p = Q by unfold putC; rw [if_pos (by rw [HSH.out, hz1]; rfl)])
                      subst hz1
                      clear hzv hz0 HSH HZ
                      go_wp2_with fail
                      refine wp_region_above (by kernel_rfl) (by kernel_rfl) ?_
                      repeat (go_big_quiet_step ((go_at_call 40; with_reducible exact above_of (CM.out _))))
                      refine wpQuiet_nil ?_
                      intro _ hw'
                      obtain ⟨X, hX⟩ := hw'
                      subst hX
                      have HC7 := hid (HC.out.onto (vonto HB6.out X.h))
                      have HBW7 := hid (vonto HBW.out (vonto HB6.out X.h))
                      go_wp2_with fail
                      go_roundw
                      case rel => exact ⟨k + 1, Q, val_int (by omega), hlk, HC7, hid (by rw [HNX.out, HEQ.out]), hR64, HG, HBW7⟩
                      case measure => simp [intOf]; omega
                    · have tz : (z != 0) = true := by simpa using hz1
                      have HHN := hid (show hasC Q p = false by rw [HSH.out]; simp [hz1])
                      clear hzv HSH HZ hz1
                      go_wp2_with fail
                      refine wp_region_above (by kernel_rfl) (by kernel_rfl) ?_
                      repeat (go_big_quiet_step ((go_at_call 40; with_reducible exact above_of (CM.out _))))
                      refine wpQuiet_nil ?_
                      intro _ hw'
                      obtain ⟨X, hX⟩ := hw'
                      subst hX
                      have HB7 := hid (vonto HB6.out X.h)
                      have HD7 := hid (keepCell X.h HD1.out)
                      clear yc yl CM HB6 hinh HD1
                      generalize X.u = w7 at *
                      clear X
                      have hd := HD7.out
                      have hqk : Q.length ≤ kq := by obtain ⟨_, ⟨_, _, e, h, -⟩, -⟩ := HC.out.inc; injection e with e1 e2 e3; omega
                      go_wp2_with fail
                      obtain ⟨hqn, hqk', U, hUl, hUp, hUc, hU1⟩ := inc_vals (HC.out.inc.onto HB7.out)
                      have hak : a ≤ kq := by omega
                      have haq : a ≤ Q.length := by omega
                      have HUP := hid hUp
                      have HSRC1 : Hid (∀ X : World, Below w7.heap.size w7 X → 0 < a → ∃ b, (some aq) = some b ∧ ∀ j u, (U.take a)[j]? = some u → X.cell? (b.add j) = some u) := hid (fun X hX h0 => by
                        obtain ⟨b, hb, hc⟩ := hUc (by omega)
                        refine ⟨b, hb, fun j u hj => keepCell hX (hc j u ?_)⟩
                        rw [List.getElem?_take] at hj
                        split at hj
                        · exact hj
                        · cases hj)
                      have HSRC2 : Hid (∀ X : World, Below w7.heap.size w7 X → 0 < Q.length - a → ∃ b, (if kq = a then some aq else some (aq.add a)) = some b ∧ ∀ j u, (U.drop a)[j]? = some u → X.cell? (b.add j) = some u) := hid (fun X hX h0 => by
                        obtain ⟨b, hb, hc⟩ := hUc (by omega)
                        refine ⟨b.add a, ?_, fun j u hj => ?_⟩
                        · rw [if_neg (by omega)]
                          injection hb with hb; rw [hb]
                        · rw [dadd_add]
                          rw [List.getElem?_drop] at hj
                          exact keepCell hX (hc _ u hj))
                      have HU1 := hid (And.intro (fun u (h : u ∈ U.take a) => hU1 u (List.mem_of_mem_take h)) (fun u (h : u ∈ U.drop a) => hU1 u (List.mem_of_mem_drop h)))
                      have HUL := hid hUl
                      have hlt1 : (U.take a).length = a := by rw [List.length_take]; omega
                      have hlt2 : (U.drop a).length = Q.length - a := by rw [List.length_drop]; omega
                      have HLT := hid (And.intro hlt1 hlt2)
                      clear hUc hUp hU1 hUl hlt1 hlt2 hqk' hqn
                      refine wp_region_h (S := fun X => Below w7.heap.size w7 X) 17 (by kernel_rfl) (by kernel_rfl) ?_
                      have hS0 : Below w7.heap.size w7 w7.drew := (Below.refl _ _).drew
                      refine take_h (i := 1) (v := ?_) rfl (by kernel_rfl) (by kernel_rfl) (by kernel_rfl) (fun _ _ _ h => h) (by rfl) ?_ hS0 ?_
                      rotate_left
                      · (intro X hX; have y0 := keepCell hX hd; go_simp; try with_reducible rfl)
                      try simp only [Act.put, List.setIfInBounds_toArray, List.set_cons_zero, List.set_cons_succ]
                      refine take_h (i := 2) (v := ?_) rfl (by kernel_rfl) (by kernel_rfl) (by kernel_rfl) (fun _ _ _ h => h) (by rfl) ?_ hS0 ?_
                      rotate_left
                      · (intro X hX; have y0 := keepCell hX hd; go_simp; try with_reducible rfl)
                      try simp only [Act.put, List.setIfInBounds_toArray, List.set_cons_zero, List.set_cons_succ]
                      refine take_h (i := 3) (v := ?_) rfl (by kernel_rfl) (by kernel_rfl) (by kernel_rfl) (fun _ _ _ h => h) (by rfl) ?_ hS0 ?_
                      rotate_left
                      · (intro X hX; have y0 := keepCell hX hd; go_simp; try with_reducible rfl)
                      try simp only [Act.put, List.setIfInBounds_toArray, List.set_cons_zero, List.set_cons_succ]
                      refine take_h (i := 5) (v := ?_) rfl (by kernel_rfl) (by kernel_rfl) (by kernel_rfl) (fun _ _ _ h => h) (by rfl) ?_ hS0 ?_
                      rotate_left
                      · (intro X hX; have y0 := keepCell hX hd; go_simp; try with_reducible rfl)
                      try simp only [Act.put, List.setIfInBounds_toArray, List.set_cons_zero, List.set_cons_succ]
                      refine take_h (i := 6) (v := ?_) rfl (by kernel_rfl) (by kernel_rfl) (by kernel_rfl) (fun _ _ _ h => h) (by rfl) ?_ hS0 ?_
                      rotate_left
                      · (intro X hX; have y0 := keepCell hX hd; go_simp; try with_reducible rfl)
                      try simp only [Act.put, List.setIfInBounds_toArray, List.set_cons_zero, List.set_cons_succ]
                      refine take_h (i := 7) (v := ?_) rfl (by kernel_rfl) (by kernel_rfl) (by kernel_rfl) (fun _ _ _ h => h) (by rfl) ?_ hS0 ?_
                      rotate_left
                      · (intro X hX; have y0 := keepCell hX hd; go_simp; try with_reducible rfl)
                      try simp only [Act.put, List.setIfInBounds_toArray, List.set_cons_zero, List.set_cons_succ]
                      refine take_h (i := 8) (v := ?_) rfl (by kernel_rfl) (by kernel_rfl) (by kernel_rfl) (fun _ _ _ h => h) (by rfl) ?_ hS0 ?_
                      rotate_left
                      · (intro X hX; have y0 := keepCell hX hd; go_simp; try with_reducible rfl)
                      try simp only [Act.put, List.setIfInBounds_toArray, List.set_cons_zero, List.set_cons_succ]
                      refine take_h (i := 9) (v := ?_) rfl (by kernel_rfl) (by kernel_rfl) (by kernel_rfl) (fun _ _ _ h => h) (by rfl) ?_ hS0 ?_
                      rotate_left
                      · (intro X hX; have y0 := keepCell hX hd; go_simp; try with_reducible rfl)
                      try simp only [Act.put, List.setIfInBounds_toArray, List.set_cons_zero, List.set_cons_succ]
                      refine take_h (i := 12) (v := ?_) rfl (by kernel_rfl) (by kernel_rfl) (by kernel_rfl) (fun _ _ _ h => h) (by rfl) ?_ hS0 ?_
                      rotate_left
                      · (intro X hX; have y0 := keepCell hX hd; go_simp; try with_reducible rfl)
                      try simp only [Act.put, List.setIfInBounds_toArray, List.set_cons_zero, List.set_cons_succ]
                      refine take_h (i := 13) (v := ?_) rfl (by kernel_rfl) (by kernel_rfl) (by kernel_rfl) (fun _ _ _ h => h) (by rfl) ?_ hS0 ?_
                      rotate_left
                      · (intro X hX; have y0 := keepCell hX hd; go_simp; try with_reducible rfl)
                      try simp only [Act.put, List.setIfInBounds_toArray, List.set_cons_zero, List.set_cons_succ]
                      refine take_h (i := 14) (v := ?_) rfl (by kernel_rfl) (by kernel_rfl) (by kernel_rfl) (fun _ _ _ h => h) (by rfl) ?_ hS0 ?_
                      rotate_left
                      · (intro X hX; have y0 := keepCell hX hd; go_simp; try with_reducible rfl)
                      try simp only [Act.put, List.setIfInBounds_toArray, List.set_cons_zero, List.set_cons_succ]
                      clear hd
                      refine wpAnyH_ready (rs := [0, 10]) (by kernel_rfl) (by simp) ?_
                      refine AllReadyH.cons rfl (fun KK hKK => ?_) (AllReadyH.cons rfl (fun KK hKK => ?_) AllReadyH.nil)
                      · go_simp
                        have hX : Below w7.heap.size w7 (w7.alloc (.cells #[] 38)).drew := (valloc_bel (Below.refl _ _) _).drew
                        have hr0 : (w7.alloc (.cells #[] 38)).drew.ownsRow w7.heap.size 38 1 (.slice (some ⟨w7.heap.size, 0, none⟩) 0 0) 0 [] := World.ownsRow.drew (by have := World.ownsRow_lit (base := w7.heap.size) (e := 38) (size := 1) w7 #[] 0 (Nat.le_refl _) (by decide) rfl; simpa using this)
                        refine hKK.out _ _ hX (fun _ => ?_)
                        clear hKK KK
                        try simp only [Act.put, List.setIfInBounds_toArray, List.set_cons_zero, List.set_cons_succ]
                        refine wpAnyH_ready (rs := [4, 10]) (by kernel_rfl) (by simp) ?_
                        refine AllReadyH.cons rfl (fun KK hKK => ?_) (AllReadyH.cons rfl (fun KK hKK => ?_) AllReadyH.nil)
                        · obtain ⟨v4, Y4, hr4, h24, hb4, hfar⟩ := cat5 w7.heap.size (w7.alloc (.cells #[] 38)).drew (.slice (some ⟨w7.heap.size, 0, none⟩) 0 0) 0 [] hr0 (some aq) a kq (U.take a) HLT.out.1 (HSRC1.out _ hX) HU1.out.1 (by have := hX.size; omega) (by omega) 85
                          have hY4 : Below w7.heap.size w7 Y4 := hb4 w7 rfl hX
                          refine step_app (by rfl) _ _ _ (by rfl) _ _ (by rfl) (by rfl) _ Y4 hr4 ?_
                          refine hKK.out _ _ hY4 (fun _ => ?_)
                          clear hKK KK hr4 hX hr0
                          try simp only [Act.put, List.setIfInBounds_toArray]
                          refine step_h (i := 10) rfl (by kernel_rfl) ?_
                          intro KK hKK
                          go_simp
                          have hZ := vonto hY4 (valloc_bel (Below.refl Y4.heap.size Y4) (.cells #[.slice ou p.length cu] 38))
                          have hnew : (Y4.alloc (.cells #[.slice ou p.length cu] 38)).cell? ⟨Y4.heap.size, 0, none⟩ = some (.slice ou p.length cu) := by simp
                          have hrow := h24.alloc (.cells #[.slice ou p.length cu] 38)
                          refine hKK.out _ _ hZ (fun _ => ?_)
                          clear hKK KK h24 hb4 hY4
                          try simp only [Act.put, List.setIfInBounds_toArray, List.set_cons_zero, List.set_cons_succ]
                          generalize Y4.alloc (.cells #[.slice ou p.length cu] 38) = Z at *
                          generalize Y4.heap.size = nb at *
                          obtain ⟨v11, Y11, hr11, h211, hb11, -⟩ := cat5 w7.heap.size Z v4 (0 + a) ([] ++ U.take a) hrow (some ⟨nb, 0, none⟩) 1 1 [.slice ou p.length cu] rfl (fun _ => ⟨_, rfl, fun j u hj => by
                            match j, hj with
                            | 0, hj => simp at hj; subst hj; simpa [Addr.add] using hnew
                            | j + 1, hj => simp at hj⟩) (fun u hu => by rw [List.mem_singleton.1 hu]; rfl) (by have := hZ.size; omega) (by omega) 85
                          have hY11 := hb11 w7 rfl hZ
                          refine step_h (i := 11) rfl (by kernel_rfl) ?_
                          intro KK hKK
                          refine step_app (by rfl) _ _ _ (by rfl) _ _ (by rfl) (by rfl) _ Y11 hr11 ?_
                          refine hKK.out _ _ hY11 (fun _ => ?_)
                          clear hKK KK hr11 hb11 hrow hnew hZ
                          try simp only [Act.put, List.setIfInBounds_toArray, List.set_cons_zero, List.set_cons_succ]
                          obtain ⟨v15, Y15, hr15, h215, hb15, -⟩ := cat5 w7.heap.size Y11 v11 (0 + a + 1) ([] ++ U.take a ++ [.slice ou p.length cu]) h211 (if kq = a then some aq else some (aq.add a)) (Q.length - a) (kq - a) (U.drop a) (by have := HLT.out.2; omega) (fun h => HSRC2.out _ hY11 (by omega)) HU1.out.2 (by have := hY11.size; omega) (by omega) 85
                          have hY15 := hb15 w7 rfl hY11
                          refine step_h (i := 15) rfl (by kernel_rfl) ?_
                          intro KK hKK
                          refine step_app (by rfl) _ _ _ (by rfl) _ _ (by rfl) (by rfl) _ Y15 hr15 ?_
                          refine hKK.out _ _ hY15 (fun hS15 => ?_)
                          clear hKK KK hr15 hb15 h211
                          rw [show 0 + a + 1 + (Q.length - a) = Q.length + 1 by omega] at h215
                          have HC15 := hid (put_dc HC.out.bel HB7.out hY15 HHN.out HAE.out HUL.out HUP.out (HIP.out.onto HB7.out) h215)
                          have HBW15 := hid (vonto HBW.out (vonto HB7.out hY15))
                          have HPL := hid (put_new HHN.out)
                          obtain ⟨o15, c15, rfl⟩ := own_sl5 h215
                          clear h215 hY11 hY15
                          try simp only [Act.put, List.setIfInBounds_toArray, List.set_cons_zero, List.set_cons_succ]
                          refine take_h (i := 16) (v := ?_) rfl (by kernel_rfl) (by kernel_rfl) (by kernel_rfl) (fun _ _ _ h => h) (by rfl) ?_ hS15 ?_
                          rotate_left
                          · (intro X hX; go_simp; try with_reducible rfl)
                          try simp only [Act.put, List.setIfInBounds_toArray, List.set_cons_zero, List.set_cons_succ]
                          refine wpAnyH_done (by kernel_rfl) ?_ _
                          by_cases h65 : 64 < Q.length + 1
                          · have HE2 := hid (fe_many HLOM.out (by have := HNL.out; have := HPL.out; omega))
                            have h65I : (64 : Int) < (Q.length : Int) + 1 := by omega
                            go_wp2_with fail
                            all_goals refine bodyPost_ret (v := .tuple #[.slice none 0 0, .slice none 0 0, .int .i64 2]) (by simp [results, Tryz.results18, go_sem]) rfl (dflat_no HE2.out (by decide) rfl (vonto HB1.out HC15.out.bel))
                          · have h65I : (Q.length : Int) + 1 ≤ 64 := by omega
                            go_wp2_with fail
                            go_roundw
                            case rel => exact ⟨k + 1, putC Q p, val_int (by omega), hlk, HC15, hid HNX.out.symm, by have := HPL.out; omega, hid (HG.out.put HFE.out), HBW15⟩
                            case measure => simp [intOf]; omega
                        · go_simp
                          have hX2 : Below w7.heap.size w7 ((w7.alloc (.cells #[] 38)).alloc (.cells #[.slice ou p.length cu] 38)).drew := (valloc_bel (valloc_bel (Below.refl _ _) _) _).drew
                          have hnew0 : ((w7.alloc (.cells #[] 38)).alloc (.cells #[.slice ou p.length cu] 38)).drew.cell? ⟨w7.heap.size + 1, 0, none⟩ = some (.slice ou p.length cu) := by
                            rw [← World.size_alloc w7 (.cells #[] 38)]
                            simp
                          have hr02 : ((w7.alloc (.cells #[] 38)).alloc (.cells #[.slice ou p.length cu] 38)).drew.ownsRow w7.heap.size 38 1 (.slice (some ⟨w7.heap.size, 0, none⟩) 0 0) 0 [] := World.ownsRow.drew (World.ownsRow.alloc (by have := World.ownsRow_lit (base := w7.heap.size) (e := 38) (size := 1) w7 #[] 0 (Nat.le_refl _) (by decide) rfl; simpa using this) _)
                          refine hKK.out _ _ hX2 (fun _ => ?_)
                          clear hKK KK hX hr0
                          try simp only [Act.put, List.setIfInBounds_toArray, List.set_cons_zero, List.set_cons_succ]
                          obtain ⟨v4, Y4, hr4, h24, hb4, hfar⟩ := cat5 w7.heap.size _ (.slice (some ⟨w7.heap.size, 0, none⟩) 0 0) 0 [] hr02 (some aq) a kq (U.take a) HLT.out.1 (HSRC1.out _ hX2) HU1.out.1 (by have := hX2.size; omega) (by omega) 85
                          have hZ : Below w7.heap.size w7 Y4 := hb4 w7 rfl hX2
                          have hnew : Y4.cell? ⟨w7.heap.size + 1, 0, none⟩ = some (.slice ou p.length cu) := by
                            rw [hfar _ (by simp) (by intro h; injection h with h; simp at h)]; exact hnew0
                          refine step_h (i := 4) rfl (by kernel_rfl) ?_
                          intro KK hKK
                          refine step_app (by rfl) _ _ _ (by rfl) _ _ (by rfl) (by rfl) _ Y4 hr4 ?_
                          refine hKK.out _ _ hZ (fun _ => ?_)
                          clear hKK KK hr4 hnew0 hr02 hX2 hfar hb4
                          try simp only [Act.put, List.setIfInBounds_toArray, List.set_cons_zero, List.set_cons_succ]
                          have hrow := h24
                          clear h24
                          generalize w7.heap.size + 1 = nb at *
                          obtain ⟨Z, rfl⟩ : ∃ Z, Z = Y4 := ⟨_, rfl⟩
                          obtain ⟨v11, Y11, hr11, h211, hb11, -⟩ := cat5 w7.heap.size Z v4 (0 + a) ([] ++ U.take a) hrow (some ⟨nb, 0, none⟩) 1 1 [.slice ou p.length cu] rfl (fun _ => ⟨_, rfl, fun j u hj => by
                            match j, hj with
                            | 0, hj => simp at hj; subst hj; simpa [Addr.add] using hnew
                            | j + 1, hj => simp at hj⟩) (fun u hu => by rw [List.mem_singleton.1 hu]; rfl) (by have := hZ.size; omega) (by omega) 85
                          have hY11 := hb11 w7 rfl hZ
                          refine step_h (i := 11) rfl (by kernel_rfl) ?_
                          intro KK hKK
                          refine step_app (by rfl) _ _ _ (by rfl) _ _ (by rfl) (by rfl) _ Y11 hr11 ?_
                          refine hKK.out _ _ hY11 (fun _ => ?_)
                          clear hKK KK hr11 hb11 hrow hnew hZ
                          try simp only [Act.put, List.setIfInBounds_toArray, List.set_cons_zero, List.set_cons_succ]
                          obtain ⟨v15, Y15, hr15, h215, hb15, -⟩ := cat5 w7.heap.size Y11 v11 (0 + a + 1) ([] ++ U.take a ++ [.slice ou p.length cu]) h211 (if kq = a then some aq else some (aq.add a)) (Q.length - a) (kq - a) (U.drop a) (by have := HLT.out.2; omega) (fun h => HSRC2.out _ hY11 (by omega)) HU1.out.2 (by have := hY11.size; omega) (by omega) 85
                          have hY15 := hb15 w7 rfl hY11
                          refine step_h (i := 15) rfl (by kernel_rfl) ?_
                          intro KK hKK
                          refine step_app (by rfl) _ _ _ (by rfl) _ _ (by rfl) (by rfl) _ Y15 hr15 ?_
                          refine hKK.out _ _ hY15 (fun hS15 => ?_)
                          clear hKK KK hr15 hb15 h211
                          rw [show 0 + a + 1 + (Q.length - a) = Q.length + 1 by omega] at h215
                          have HC15 := hid (put_dc HC.out.bel HB7.out hY15 HHN.out HAE.out HUL.out HUP.out (HIP.out.onto HB7.out) h215)
                          have HBW15 := hid (vonto HBW.out (vonto HB7.out hY15))
                          have HPL := hid (put_new HHN.out)
                          obtain ⟨o15, c15, rfl⟩ := own_sl5 h215
                          clear h215 hY11 hY15
                          try simp only [Act.put, List.setIfInBounds_toArray, List.set_cons_zero, List.set_cons_succ]
                          refine take_h (i := 16) (v := ?_) rfl (by kernel_rfl) (by kernel_rfl) (by kernel_rfl) (fun _ _ _ h => h) (by rfl) ?_ hS15 ?_
                          rotate_left
                          · (intro X hX; go_simp; try with_reducible rfl)
                          try simp only [Act.put, List.setIfInBounds_toArray, List.set_cons_zero, List.set_cons_succ]
                          refine wpAnyH_done (by kernel_rfl) ?_ _
                          by_cases h65 : 64 < Q.length + 1
                          · have HE2 := hid (fe_many HLOM.out (by have := HNL.out; have := HPL.out; omega))
                            have h65I : (64 : Int) < (Q.length : Int) + 1 := by omega
                            go_wp2_with fail
                            all_goals refine bodyPost_ret (v := .tuple #[.slice none 0 0, .slice none 0 0, .int .i64 2]) (by simp [results, Tryz.results18, go_sem]) rfl (dflat_no HE2.out (by decide) rfl (vonto HB1.out HC15.out.bel))
                          · have h65I : (Q.length : Int) + 1 ≤ 64 := by omega
                            go_wp2_with fail
                            go_roundw
                            case rel => exact ⟨k + 1, putC Q p, val_int (by omega), hlk, HC15, hid HNX.out.symm, by have := HPL.out; omega, hid (HG.out.put HFE.out), HBW15⟩
                            case measure => simp [intOf]; omega
                      · go_simp
                        have hX1 : Below w7.heap.size w7 (w7.alloc (.cells #[.slice ou p.length cu] 38)).drew := (valloc_bel (Below.refl _ _) _).drew
                        refine hKK.out _ _ hX1 (fun _ => ?_)
                        clear hKK KK
                        try simp only [Act.put, List.setIfInBounds_toArray, List.set_cons_zero, List.set_cons_succ]
                        have hX2 : Below w7.heap.size w7 ((w7.alloc (.cells #[.slice ou p.length cu] 38)).alloc (.cells #[] 38)).drew := (valloc_bel (valloc_bel (Below.refl _ _) _) _).drew
                        refine step_h (i := 0) rfl (by kernel_rfl) ?_
                        intro KK hKK
                        go_simp
                        refine hKK.out _ _ hX2 (fun _ => ?_)
                        clear hKK KK hX1
                        try simp only [Act.put, List.setIfInBounds_toArray, List.set_cons_zero, List.set_cons_succ]
                        have hnew0 : ((w7.alloc (.cells #[.slice ou p.length cu] 38)).alloc (.cells #[] 38)).drew.cell? ⟨w7.heap.size, 0, none⟩ = some (.slice ou p.length cu) := keepCell (valloc_bel (Below.refl _ _) _).drew (by simp)
                        have hr03 : ((w7.alloc (.cells #[.slice ou p.length cu] 38)).alloc (.cells #[] 38)).drew.ownsRow w7.heap.size 38 1 (.slice (some ⟨w7.heap.size + 1, 0, none⟩) 0 0) 0 [] := World.ownsRow.drew (by have := World.ownsRow_lit (base := w7.heap.size) (e := 38) (size := 1) (w7.alloc (.cells #[.slice ou p.length cu] 38)) #[] 0 (by simp) (by decide) rfl; simpa using this)
                        obtain ⟨v4, Y4, hr4, h24, hb4, hfar⟩ := cat5 w7.heap.size _ (.slice (some ⟨w7.heap.size + 1, 0, none⟩) 0 0) 0 [] hr03 (some aq) a kq (U.take a) HLT.out.1 (HSRC1.out _ hX2) HU1.out.1 (by have := hX2.size; omega) (by omega) 85
                        have hZ : Below w7.heap.size w7 Y4 := hb4 w7 rfl hX2
                        have hnew : Y4.cell? ⟨w7.heap.size, 0, none⟩ = some (.slice ou p.length cu) := by
                          rw [hfar _ (by simp; omega) (by intro h; injection h with h; simp at h)]; exact hnew0
                        refine step_h (i := 4) rfl (by kernel_rfl) ?_
                        intro KK hKK
                        refine step_app (by rfl) _ _ _ (by rfl) _ _ (by rfl) (by rfl) _ Y4 hr4 ?_
                        refine hKK.out _ _ hZ (fun _ => ?_)
                        clear hKK KK hr4 hnew0 hr03 hX2 hfar hb4
                        try simp only [Act.put, List.setIfInBounds_toArray, List.set_cons_zero, List.set_cons_succ]
                        have hrow := h24
                        clear h24
                        obtain ⟨Z, rfl⟩ : ∃ Z, Z = Y4 := ⟨_, rfl⟩
                        obtain ⟨v11, Y11, hr11, h211, hb11, -⟩ := cat5 w7.heap.size Z v4 (0 + a) ([] ++ U.take a) hrow (some ⟨w7.heap.size, 0, none⟩) 1 1 [.slice ou p.length cu] rfl (fun _ => ⟨_, rfl, fun j u hj => by
                          match j, hj with
                          | 0, hj => simp at hj; subst hj; simpa [Addr.add] using hnew
                          | j + 1, hj => simp at hj⟩) (fun u hu => by rw [List.mem_singleton.1 hu]; rfl) (by have := hZ.size; omega) (by omega) 85
                        have hY11 := hb11 w7 rfl hZ
                        refine step_h (i := 11) rfl (by kernel_rfl) ?_
                        intro KK hKK
                        refine step_app (by rfl) _ _ _ (by rfl) _ _ (by rfl) (by rfl) _ Y11 hr11 ?_
                        refine hKK.out _ _ hY11 (fun _ => ?_)
                        clear hKK KK hr11 hb11 hrow hnew hZ
                        try simp only [Act.put, List.setIfInBounds_toArray, List.set_cons_zero, List.set_cons_succ]
                        obtain ⟨v15, Y15, hr15, h215, hb15, -⟩ := cat5 w7.heap.size Y11 v11 (0 + a + 1) ([] ++ U.take a ++ [.slice ou p.length cu]) h211 (if kq = a then some aq else some (aq.add a)) (Q.length - a) (kq - a) (U.drop a) (by have := HLT.out.2; omega) (fun h => HSRC2.out _ hY11 (by omega)) HU1.out.2 (by have := hY11.size; omega) (by omega) 85
                        have hY15 := hb15 w7 rfl hY11
                        refine step_h (i := 15) rfl (by kernel_rfl) ?_
                        intro KK hKK
                        refine step_app (by rfl) _ _ _ (by rfl) _ _ (by rfl) (by rfl) _ Y15 hr15 ?_
                        refine hKK.out _ _ hY15 (fun hS15 => ?_)
                        clear hKK KK hr15 hb15 h211
                        rw [show 0 + a + 1 + (Q.length - a) = Q.length + 1 by omega] at h215
                        have HC15 := hid (put_dc HC.out.bel HB7.out hY15 HHN.out HAE.out HUL.out HUP.out (HIP.out.onto HB7.out) h215)
                        have HBW15 := hid (vonto HBW.out (vonto HB7.out hY15))
                        have HPL := hid (put_new HHN.out)
                        obtain ⟨o15, c15, rfl⟩ := own_sl5 h215
                        clear h215 hY11 hY15
                        try simp only [Act.put, List.setIfInBounds_toArray, List.set_cons_zero, List.set_cons_succ]
                        refine take_h (i := 16) (v := ?_) rfl (by kernel_rfl) (by kernel_rfl) (by kernel_rfl) (fun _ _ _ h => h) (by rfl) ?_ hS15 ?_
                        rotate_left
                        · (intro X hX; go_simp; try with_reducible rfl)
                        try simp only [Act.put, List.setIfInBounds_toArray, List.set_cons_zero, List.set_cons_succ]
                        refine wpAnyH_done (by kernel_rfl) ?_ _
                        by_cases h65 : 64 < Q.length + 1
                        · have HE2 := hid (fe_many HLOM.out (by have := HNL.out; have := HPL.out; omega))
                          have h65I : (64 : Int) < (Q.length : Int) + 1 := by omega
                          go_wp2_with fail
                          all_goals refine bodyPost_ret (v := .tuple #[.slice none 0 0, .slice none 0 0, .int .i64 2]) (by simp [results, Tryz.results18, go_sem]) rfl (dflat_no HE2.out (by decide) rfl (vonto HB1.out HC15.out.bel))
                        · have h65I : (Q.length : Int) + 1 ≤ 64 := by omega
                          go_wp2_with fail
                          go_roundw
                          case rel => exact ⟨k + 1, putC Q p, val_int (by omega), hlk, HC15, hid HNX.out.symm, by have := HPL.out; omega, hid (HG.out.put HFE.out), HBW15⟩
                          case measure => simp [intOf]; omega
                · have hae : a = posC Q p := by omega
                  have hae2 : a = Q.length := by omega
                  have HHN := hid (show hasC Q p = false by unfold hasC; rw [List.getElem?_eq_none (by omega)])
                  have hne : ((a : Int) == (Q.length : Int)) = true := by rw [beq_iff_eq]; omega
                  have hnl : decide ((a : Int) < (Q.length : Int)) = false := by simp; omega
                  have hnm : Q.length ≤ a := by omega
                  have HAE := hid hae; have HAE2 := hid hae2
                  have HC1 := hid c1
                  clear hae hae2 c0 c1
                  go_wp2_with fail
                  refine wp_region_above (by kernel_rfl) (by kernel_rfl) ?_
                  repeat (go_big_quiet_step (fail))
                  refine wpQuiet_nil ?_
                  intro _ hw'
                  obtain ⟨X, hX⟩ := hw'
                  subst hX
                  have HD6 := hid (keepCell X.h HC1.out)
                  have HB6 := hid (vonto HB5.out X.h)
                  clear hinh HC1 HB5
                  generalize X.u = w6 at *
                  clear X
                  have hinh := abv_some w6
                  go_wp2_with fail
                  refine wp_region_above (by kernel_rfl) (by kernel_rfl) ?_
                  repeat (go_big_quiet_step (fail))
                  refine wpQuiet_nil ?_
                  intro _ hw'
                  obtain ⟨X, hX⟩ := hw'
                  subst hX
                  have HB7 := hid (vonto HB6.out X.h)
                  have HD7 := hid (keepCell X.h HD6.out)
                  clear HB6 hinh HD6
                  generalize X.u = w7 at *
                  clear X
                  have hd := HD7.out
                  have haQ : a ≤ Q.length := by omega
                  have hqk : Q.length ≤ kq := by obtain ⟨_, ⟨_, _, e, h, -⟩, -⟩ := HC.out.inc; injection e with e1 e2 e3; omega
                  go_wp2_with fail
                  obtain ⟨hqn, hqk', U, hUl, hUp, hUc, hU1⟩ := inc_vals (HC.out.inc.onto HB7.out)
                  have hak : a ≤ kq := by omega
                  have haq : a ≤ Q.length := by omega
                  have HUP := hid hUp
                  have HSRC1 : Hid (∀ X : World, Below w7.heap.size w7 X → 0 < a → ∃ b, oq = some b ∧ ∀ j u, (U.take a)[j]? = some u → X.cell? (b.add j) = some u) := hid (fun X hX h0 => by
                    obtain ⟨b, hb, hc⟩ := hUc (by omega)
                    refine ⟨b, hb, fun j u hj => keepCell hX (hc j u ?_)⟩
                    rw [List.getElem?_take] at hj
                    split at hj
                    · exact hj
                    · cases hj)
                  have HSRC2 : Hid (∀ X : World, Below w7.heap.size w7 X → 0 < Q.length - a → ∃ b, (if kq = a then oq else Option.map (fun x => x.add a) oq) = some b ∧ ∀ j u, (U.drop a)[j]? = some u → X.cell? (b.add j) = some u) := hid (fun X hX h0 => by
                    obtain ⟨b, hb, hc⟩ := hUc (by omega)
                    refine ⟨b.add a, ?_, fun j u hj => ?_⟩
                    · rw [if_neg (by omega)]
                      rw [hb]; rfl
                    · rw [dadd_add]
                      rw [List.getElem?_drop] at hj
                      exact keepCell hX (hc _ u hj))
                  have HU1 := hid (And.intro (fun u (h : u ∈ U.take a) => hU1 u (List.mem_of_mem_take h)) (fun u (h : u ∈ U.drop a) => hU1 u (List.mem_of_mem_drop h)))
                  have HUL := hid hUl
                  have hlt1 : (U.take a).length = a := by rw [List.length_take]; omega
                  have hlt2 : (U.drop a).length = Q.length - a := by rw [List.length_drop]; omega
                  have HLT := hid (And.intro hlt1 hlt2)
                  clear hUc hUp hU1 hUl hlt1 hlt2 hqk' hqn
                  refine wp_region_h (S := fun X => Below w7.heap.size w7 X) 17 (by kernel_rfl) (by kernel_rfl) ?_
                  have hS0 : Below w7.heap.size w7 w7.drew := (Below.refl _ _).drew
                  refine take_h (i := 1) (v := ?_) rfl (by kernel_rfl) (by kernel_rfl) (by kernel_rfl) (fun _ _ _ h => h) (by rfl) ?_ hS0 ?_
                  rotate_left
                  · (intro X hX; have y0 := keepCell hX hd; go_simp; try with_reducible rfl)
                  try simp only [Act.put, List.setIfInBounds_toArray, List.set_cons_zero, List.set_cons_succ]
                  refine take_h (i := 2) (v := ?_) rfl (by kernel_rfl) (by kernel_rfl) (by kernel_rfl) (fun _ _ _ h => h) (by rfl) ?_ hS0 ?_
                  rotate_left
                  · (intro X hX; have y0 := keepCell hX hd; go_simp; try with_reducible rfl)
                  try simp only [Act.put, List.setIfInBounds_toArray, List.set_cons_zero, List.set_cons_succ]
                  refine take_h (i := 3) (v := ?_) rfl (by kernel_rfl) (by kernel_rfl) (by kernel_rfl) (fun _ _ _ h => h) (by rfl) ?_ hS0 ?_
                  rotate_left
                  · (intro X hX; have y0 := keepCell hX hd; go_simp; try with_reducible rfl)
                  try simp only [Act.put, List.setIfInBounds_toArray, List.set_cons_zero, List.set_cons_succ]
                  refine take_h (i := 5) (v := ?_) rfl (by kernel_rfl) (by kernel_rfl) (by kernel_rfl) (fun _ _ _ h => h) (by rfl) ?_ hS0 ?_
                  rotate_left
                  · (intro X hX; have y0 := keepCell hX hd; go_simp; try with_reducible rfl)
                  try simp only [Act.put, List.setIfInBounds_toArray, List.set_cons_zero, List.set_cons_succ]
                  refine take_h (i := 6) (v := ?_) rfl (by kernel_rfl) (by kernel_rfl) (by kernel_rfl) (fun _ _ _ h => h) (by rfl) ?_ hS0 ?_
                  rotate_left
                  · (intro X hX; have y0 := keepCell hX hd; go_simp; try with_reducible rfl)
                  try simp only [Act.put, List.setIfInBounds_toArray, List.set_cons_zero, List.set_cons_succ]
                  refine take_h (i := 7) (v := ?_) rfl (by kernel_rfl) (by kernel_rfl) (by kernel_rfl) (fun _ _ _ h => h) (by rfl) ?_ hS0 ?_
                  rotate_left
                  · (intro X hX; have y0 := keepCell hX hd; go_simp; try with_reducible rfl)
                  try simp only [Act.put, List.setIfInBounds_toArray, List.set_cons_zero, List.set_cons_succ]
                  refine take_h (i := 8) (v := ?_) rfl (by kernel_rfl) (by kernel_rfl) (by kernel_rfl) (fun _ _ _ h => h) (by rfl) ?_ hS0 ?_
                  rotate_left
                  · (intro X hX; have y0 := keepCell hX hd; go_simp; try with_reducible rfl)
                  try simp only [Act.put, List.setIfInBounds_toArray, List.set_cons_zero, List.set_cons_succ]
                  refine take_h (i := 9) (v := ?_) rfl (by kernel_rfl) (by kernel_rfl) (by kernel_rfl) (fun _ _ _ h => h) (by rfl) ?_ hS0 ?_
                  rotate_left
                  · (intro X hX; have y0 := keepCell hX hd; go_simp; try with_reducible rfl)
                  try simp only [Act.put, List.setIfInBounds_toArray, List.set_cons_zero, List.set_cons_succ]
                  refine take_h (i := 12) (v := ?_) rfl (by kernel_rfl) (by kernel_rfl) (by kernel_rfl) (fun _ _ _ h => h) (by rfl) ?_ hS0 ?_
                  rotate_left
                  · (intro X hX; have y0 := keepCell hX hd; go_simp; try with_reducible rfl)
                  try simp only [Act.put, List.setIfInBounds_toArray, List.set_cons_zero, List.set_cons_succ]
                  refine take_h (i := 13) (v := ?_) rfl (by kernel_rfl) (by kernel_rfl) (by kernel_rfl) (fun _ _ _ h => h) (by rfl) ?_ hS0 ?_
                  rotate_left
                  · (intro X hX; have y0 := keepCell hX hd; go_simp; try with_reducible rfl)
                  try simp only [Act.put, List.setIfInBounds_toArray, List.set_cons_zero, List.set_cons_succ]
                  refine take_h (i := 14) (v := ?_) rfl (by kernel_rfl) (by kernel_rfl) (by kernel_rfl) (fun _ _ _ h => h) (by rfl) ?_ hS0 ?_
                  rotate_left
                  · (intro X hX; have y0 := keepCell hX hd; go_simp; try with_reducible rfl)
                  try simp only [Act.put, List.setIfInBounds_toArray, List.set_cons_zero, List.set_cons_succ]
                  clear hd
                  refine wpAnyH_ready (rs := [0, 10]) (by kernel_rfl) (by simp) ?_
                  refine AllReadyH.cons rfl (fun KK hKK => ?_) (AllReadyH.cons rfl (fun KK hKK => ?_) AllReadyH.nil)
                  · go_simp
                    have hX : Below w7.heap.size w7 (w7.alloc (.cells #[] 38)).drew := (valloc_bel (Below.refl _ _) _).drew
                    have hr0 : (w7.alloc (.cells #[] 38)).drew.ownsRow w7.heap.size 38 1 (.slice (some ⟨w7.heap.size, 0, none⟩) 0 0) 0 [] := World.ownsRow.drew (by have := World.ownsRow_lit (base := w7.heap.size) (e := 38) (size := 1) w7 #[] 0 (Nat.le_refl _) (by decide) rfl; simpa using this)
                    refine hKK.out _ _ hX (fun _ => ?_)
                    clear hKK KK
                    try simp only [Act.put, List.setIfInBounds_toArray, List.set_cons_zero, List.set_cons_succ]
                    refine wpAnyH_ready (rs := [4, 10]) (by kernel_rfl) (by simp) ?_
                    refine AllReadyH.cons rfl (fun KK hKK => ?_) (AllReadyH.cons rfl (fun KK hKK => ?_) AllReadyH.nil)
                    · obtain ⟨v4, Y4, hr4, h24, hb4, hfar⟩ := cat5 w7.heap.size (w7.alloc (.cells #[] 38)).drew (.slice (some ⟨w7.heap.size, 0, none⟩) 0 0) 0 [] hr0 oq a kq (U.take a) HLT.out.1 (HSRC1.out _ hX) HU1.out.1 (by have := hX.size; omega) (by omega) 85
                      have hY4 : Below w7.heap.size w7 Y4 := hb4 w7 rfl hX
                      refine step_app (by rfl) _ _ _ (by rfl) _ _ (by rfl) (by rfl) _ Y4 hr4 ?_
                      refine hKK.out _ _ hY4 (fun _ => ?_)
                      clear hKK KK hr4 hX hr0
                      try simp only [Act.put, List.setIfInBounds_toArray]
                      refine step_h (i := 10) rfl (by kernel_rfl) ?_
                      intro KK hKK
                      go_simp
                      have hZ := vonto hY4 (valloc_bel (Below.refl Y4.heap.size Y4) (.cells #[.slice ou p.length cu] 38))
                      have hnew : (Y4.alloc (.cells #[.slice ou p.length cu] 38)).cell? ⟨Y4.heap.size, 0, none⟩ = some (.slice ou p.length cu) := by simp
                      have hrow := h24.alloc (.cells #[.slice ou p.length cu] 38)
                      refine hKK.out _ _ hZ (fun _ => ?_)
                      clear hKK KK h24 hb4 hY4
                      try simp only [Act.put, List.setIfInBounds_toArray, List.set_cons_zero, List.set_cons_succ]
                      generalize Y4.alloc (.cells #[.slice ou p.length cu] 38) = Z at *
                      generalize Y4.heap.size = nb at *
                      obtain ⟨v11, Y11, hr11, h211, hb11, -⟩ := cat5 w7.heap.size Z v4 (0 + a) ([] ++ U.take a) hrow (some ⟨nb, 0, none⟩) 1 1 [.slice ou p.length cu] rfl (fun _ => ⟨_, rfl, fun j u hj => by
                        match j, hj with
                        | 0, hj => simp at hj; subst hj; simpa [Addr.add] using hnew
                        | j + 1, hj => simp at hj⟩) (fun u hu => by rw [List.mem_singleton.1 hu]; rfl) (by have := hZ.size; omega) (by omega) 85
                      have hY11 := hb11 w7 rfl hZ
                      refine step_h (i := 11) rfl (by kernel_rfl) ?_
                      intro KK hKK
                      refine step_app (by rfl) _ _ _ (by rfl) _ _ (by rfl) (by rfl) _ Y11 hr11 ?_
                      refine hKK.out _ _ hY11 (fun _ => ?_)
                      clear hKK KK hr11 hb11 hrow hnew hZ
                      try simp only [Act.put, List.setIfInBounds_toArray, List.set_cons_zero, List.set_cons_succ]
                      obtain ⟨v15, Y15, hr15, h215, hb15, -⟩ := cat5 w7.heap.size Y11 v11 (0 + a + 1) ([] ++ U.take a ++ [.slice ou p.length cu]) h211 (if kq = a then oq else Option.map (fun x => x.add a) oq) 0 (kq - a) (U.drop a) (by have := HLT.out.2; omega) (fun h => HSRC2.out _ hY11 (by omega)) HU1.out.2 (by have := hY11.size; omega) (by omega) 85
                      have hY15 := hb15 w7 rfl hY11
                      refine step_h (i := 15) rfl (by kernel_rfl) ?_
                      intro KK hKK
                      refine step_app (by rfl) _ _ _ (by rfl) _ _ (by rfl) (by rfl) _ Y15 hr15 ?_
                      refine hKK.out _ _ hY15 (fun hS15 => ?_)
                      clear hKK KK hr15 hb15 h211
                      rw [show 0 + a + 1 + 0 = Q.length + 1 by omega] at h215
                      have HC15 := hid (put_dc HC.out.bel HB7.out hY15 HHN.out HAE.out HUL.out HUP.out (HIP.out.onto HB7.out) h215)
                      have HBW15 := hid (vonto HBW.out (vonto HB7.out hY15))
                      have HPL := hid (put_new HHN.out)
                      obtain ⟨o15, c15, rfl⟩ := own_sl5 h215
                      clear h215 hY11 hY15
                      try simp only [Act.put, List.setIfInBounds_toArray, List.set_cons_zero, List.set_cons_succ]
                      refine take_h (i := 16) (v := ?_) rfl (by kernel_rfl) (by kernel_rfl) (by kernel_rfl) (fun _ _ _ h => h) (by rfl) ?_ hS15 ?_
                      rotate_left
                      · (intro X hX; go_simp; try with_reducible rfl)
                      try simp only [Act.put, List.setIfInBounds_toArray, List.set_cons_zero, List.set_cons_succ]
                      refine wpAnyH_done (by kernel_rfl) ?_ _
                      by_cases h65 : 64 < Q.length + 1
                      · have HE2 := hid (fe_many HLOM.out (by have := HNL.out; have := HPL.out; omega))
                        have h65I : (64 : Int) < (Q.length : Int) + 1 := by omega
                        go_wp2_with fail
                        all_goals refine bodyPost_ret (v := .tuple #[.slice none 0 0, .slice none 0 0, .int .i64 2]) (by simp [results, Tryz.results18, go_sem]) rfl (dflat_no HE2.out (by decide) rfl (vonto HB1.out HC15.out.bel))
                      · have h65I : (Q.length : Int) + 1 ≤ 64 := by omega
                        go_wp2_with fail
                        go_roundw
                        case rel => exact ⟨k + 1, putC Q p, val_int (by omega), hlk, HC15, hid HNX.out.symm, by have := HPL.out; omega, hid (HG.out.put HFE.out), HBW15⟩
                        case measure => simp [intOf]; omega
                    · go_simp
                      have hX2 : Below w7.heap.size w7 ((w7.alloc (.cells #[] 38)).alloc (.cells #[.slice ou p.length cu] 38)).drew := (valloc_bel (valloc_bel (Below.refl _ _) _) _).drew
                      have hnew0 : ((w7.alloc (.cells #[] 38)).alloc (.cells #[.slice ou p.length cu] 38)).drew.cell? ⟨w7.heap.size + 1, 0, none⟩ = some (.slice ou p.length cu) := by
                        rw [← World.size_alloc w7 (.cells #[] 38)]
                        simp
                      have hr02 : ((w7.alloc (.cells #[] 38)).alloc (.cells #[.slice ou p.length cu] 38)).drew.ownsRow w7.heap.size 38 1 (.slice (some ⟨w7.heap.size, 0, none⟩) 0 0) 0 [] := World.ownsRow.drew (World.ownsRow.alloc (by have := World.ownsRow_lit (base := w7.heap.size) (e := 38) (size := 1) w7 #[] 0 (Nat.le_refl _) (by decide) rfl; simpa using this) _)
                      refine hKK.out _ _ hX2 (fun _ => ?_)
                      clear hKK KK hX hr0
                      try simp only [Act.put, List.setIfInBounds_toArray, List.set_cons_zero, List.set_cons_succ]
                      obtain ⟨v4, Y4, hr4, h24, hb4, hfar⟩ := cat5 w7.heap.size _ (.slice (some ⟨w7.heap.size, 0, none⟩) 0 0) 0 [] hr02 oq a kq (U.take a) HLT.out.1 (HSRC1.out _ hX2) HU1.out.1 (by have := hX2.size; omega) (by omega) 85
                      have hZ : Below w7.heap.size w7 Y4 := hb4 w7 rfl hX2
                      have hnew : Y4.cell? ⟨w7.heap.size + 1, 0, none⟩ = some (.slice ou p.length cu) := by
                        rw [hfar _ (by simp) (by intro h; injection h with h; simp at h)]; exact hnew0
                      refine step_h (i := 4) rfl (by kernel_rfl) ?_
                      intro KK hKK
                      refine step_app (by rfl) _ _ _ (by rfl) _ _ (by rfl) (by rfl) _ Y4 hr4 ?_
                      refine hKK.out _ _ hZ (fun _ => ?_)
                      clear hKK KK hr4 hnew0 hr02 hX2 hfar hb4
                      try simp only [Act.put, List.setIfInBounds_toArray, List.set_cons_zero, List.set_cons_succ]
                      have hrow := h24
                      clear h24
                      generalize w7.heap.size + 1 = nb at *
                      obtain ⟨Z, rfl⟩ : ∃ Z, Z = Y4 := ⟨_, rfl⟩
                      obtain ⟨v11, Y11, hr11, h211, hb11, -⟩ := cat5 w7.heap.size Z v4 (0 + a) ([] ++ U.take a) hrow (some ⟨nb, 0, none⟩) 1 1 [.slice ou p.length cu] rfl (fun _ => ⟨_, rfl, fun j u hj => by
                        match j, hj with
                        | 0, hj => simp at hj; subst hj; simpa [Addr.add] using hnew
                        | j + 1, hj => simp at hj⟩) (fun u hu => by rw [List.mem_singleton.1 hu]; rfl) (by have := hZ.size; omega) (by omega) 85
                      have hY11 := hb11 w7 rfl hZ
                      refine step_h (i := 11) rfl (by kernel_rfl) ?_
                      intro KK hKK
                      refine step_app (by rfl) _ _ _ (by rfl) _ _ (by rfl) (by rfl) _ Y11 hr11 ?_
                      refine hKK.out _ _ hY11 (fun _ => ?_)
                      clear hKK KK hr11 hb11 hrow hnew hZ
                      try simp only [Act.put, List.setIfInBounds_toArray, List.set_cons_zero, List.set_cons_succ]
                      obtain ⟨v15, Y15, hr15, h215, hb15, -⟩ := cat5 w7.heap.size Y11 v11 (0 + a + 1) ([] ++ U.take a ++ [.slice ou p.length cu]) h211 (if kq = a then oq else Option.map (fun x => x.add a) oq) 0 (kq - a) (U.drop a) (by have := HLT.out.2; omega) (fun h => HSRC2.out _ hY11 (by omega)) HU1.out.2 (by have := hY11.size; omega) (by omega) 85
                      have hY15 := hb15 w7 rfl hY11
                      refine step_h (i := 15) rfl (by kernel_rfl) ?_
                      intro KK hKK
                      refine step_app (by rfl) _ _ _ (by rfl) _ _ (by rfl) (by rfl) _ Y15 hr15 ?_
                      refine hKK.out _ _ hY15 (fun hS15 => ?_)
                      clear hKK KK hr15 hb15 h211
                      rw [show 0 + a + 1 + 0 = Q.length + 1 by omega] at h215
                      have HC15 := hid (put_dc HC.out.bel HB7.out hY15 HHN.out HAE.out HUL.out HUP.out (HIP.out.onto HB7.out) h215)
                      have HBW15 := hid (vonto HBW.out (vonto HB7.out hY15))
                      have HPL := hid (put_new HHN.out)
                      obtain ⟨o15, c15, rfl⟩ := own_sl5 h215
                      clear h215 hY11 hY15
                      try simp only [Act.put, List.setIfInBounds_toArray, List.set_cons_zero, List.set_cons_succ]
                      refine take_h (i := 16) (v := ?_) rfl (by kernel_rfl) (by kernel_rfl) (by kernel_rfl) (fun _ _ _ h => h) (by rfl) ?_ hS15 ?_
                      rotate_left
                      · (intro X hX; go_simp; try with_reducible rfl)
                      try simp only [Act.put, List.setIfInBounds_toArray, List.set_cons_zero, List.set_cons_succ]
                      refine wpAnyH_done (by kernel_rfl) ?_ _
                      by_cases h65 : 64 < Q.length + 1
                      · have HE2 := hid (fe_many HLOM.out (by have := HNL.out; have := HPL.out; omega))
                        have h65I : (64 : Int) < (Q.length : Int) + 1 := by omega
                        go_wp2_with fail
                        all_goals refine bodyPost_ret (v := .tuple #[.slice none 0 0, .slice none 0 0, .int .i64 2]) (by simp [results, Tryz.results18, go_sem]) rfl (dflat_no HE2.out (by decide) rfl (vonto HB1.out HC15.out.bel))
                      · have h65I : (Q.length : Int) + 1 ≤ 64 := by omega
                        go_wp2_with fail
                        go_roundw
                        case rel => exact ⟨k + 1, putC Q p, val_int (by omega), hlk, HC15, hid HNX.out.symm, by have := HPL.out; omega, hid (HG.out.put HFE.out), HBW15⟩
                        case measure => simp [intOf]; omega
                  · go_simp
                    have hX1 : Below w7.heap.size w7 (w7.alloc (.cells #[.slice ou p.length cu] 38)).drew := (valloc_bel (Below.refl _ _) _).drew
                    refine hKK.out _ _ hX1 (fun _ => ?_)
                    clear hKK KK
                    try simp only [Act.put, List.setIfInBounds_toArray, List.set_cons_zero, List.set_cons_succ]
                    have hX2 : Below w7.heap.size w7 ((w7.alloc (.cells #[.slice ou p.length cu] 38)).alloc (.cells #[] 38)).drew := (valloc_bel (valloc_bel (Below.refl _ _) _) _).drew
                    refine step_h (i := 0) rfl (by kernel_rfl) ?_
                    intro KK hKK
                    go_simp
                    refine hKK.out _ _ hX2 (fun _ => ?_)
                    clear hKK KK hX1
                    try simp only [Act.put, List.setIfInBounds_toArray, List.set_cons_zero, List.set_cons_succ]
                    have hnew0 : ((w7.alloc (.cells #[.slice ou p.length cu] 38)).alloc (.cells #[] 38)).drew.cell? ⟨w7.heap.size, 0, none⟩ = some (.slice ou p.length cu) := keepCell (valloc_bel (Below.refl _ _) _).drew (by simp)
                    have hr03 : ((w7.alloc (.cells #[.slice ou p.length cu] 38)).alloc (.cells #[] 38)).drew.ownsRow w7.heap.size 38 1 (.slice (some ⟨w7.heap.size + 1, 0, none⟩) 0 0) 0 [] := World.ownsRow.drew (by have := World.ownsRow_lit (base := w7.heap.size) (e := 38) (size := 1) (w7.alloc (.cells #[.slice ou p.length cu] 38)) #[] 0 (by simp) (by decide) rfl; simpa using this)
                    obtain ⟨v4, Y4, hr4, h24, hb4, hfar⟩ := cat5 w7.heap.size _ (.slice (some ⟨w7.heap.size + 1, 0, none⟩) 0 0) 0 [] hr03 oq a kq (U.take a) HLT.out.1 (HSRC1.out _ hX2) HU1.out.1 (by have := hX2.size; omega) (by omega) 85
                    have hZ : Below w7.heap.size w7 Y4 := hb4 w7 rfl hX2
                    have hnew : Y4.cell? ⟨w7.heap.size, 0, none⟩ = some (.slice ou p.length cu) := by
                      rw [hfar _ (by simp; omega) (by intro h; injection h with h; simp at h)]; exact hnew0
                    refine step_h (i := 4) rfl (by kernel_rfl) ?_
                    intro KK hKK
                    refine step_app (by rfl) _ _ _ (by rfl) _ _ (by rfl) (by rfl) _ Y4 hr4 ?_
                    refine hKK.out _ _ hZ (fun _ => ?_)
                    clear hKK KK hr4 hnew0 hr03 hX2 hfar hb4
                    try simp only [Act.put, List.setIfInBounds_toArray, List.set_cons_zero, List.set_cons_succ]
                    have hrow := h24
                    clear h24
                    obtain ⟨Z, rfl⟩ : ∃ Z, Z = Y4 := ⟨_, rfl⟩
                    obtain ⟨v11, Y11, hr11, h211, hb11, -⟩ := cat5 w7.heap.size Z v4 (0 + a) ([] ++ U.take a) hrow (some ⟨w7.heap.size, 0, none⟩) 1 1 [.slice ou p.length cu] rfl (fun _ => ⟨_, rfl, fun j u hj => by
                      match j, hj with
                      | 0, hj => simp at hj; subst hj; simpa [Addr.add] using hnew
                      | j + 1, hj => simp at hj⟩) (fun u hu => by rw [List.mem_singleton.1 hu]; rfl) (by have := hZ.size; omega) (by omega) 85
                    have hY11 := hb11 w7 rfl hZ
                    refine step_h (i := 11) rfl (by kernel_rfl) ?_
                    intro KK hKK
                    refine step_app (by rfl) _ _ _ (by rfl) _ _ (by rfl) (by rfl) _ Y11 hr11 ?_
                    refine hKK.out _ _ hY11 (fun _ => ?_)
                    clear hKK KK hr11 hb11 hrow hnew hZ
                    try simp only [Act.put, List.setIfInBounds_toArray, List.set_cons_zero, List.set_cons_succ]
                    obtain ⟨v15, Y15, hr15, h215, hb15, -⟩ := cat5 w7.heap.size Y11 v11 (0 + a + 1) ([] ++ U.take a ++ [.slice ou p.length cu]) h211 (if kq = a then oq else Option.map (fun x => x.add a) oq) 0 (kq - a) (U.drop a) (by have := HLT.out.2; omega) (fun h => HSRC2.out _ hY11 (by omega)) HU1.out.2 (by have := hY11.size; omega) (by omega) 85
                    have hY15 := hb15 w7 rfl hY11
                    refine step_h (i := 15) rfl (by kernel_rfl) ?_
                    intro KK hKK
                    refine step_app (by rfl) _ _ _ (by rfl) _ _ (by rfl) (by rfl) _ Y15 hr15 ?_
                    refine hKK.out _ _ hY15 (fun hS15 => ?_)
                    clear hKK KK hr15 hb15 h211
                    rw [show 0 + a + 1 + 0 = Q.length + 1 by omega] at h215
                    have HC15 := hid (put_dc HC.out.bel HB7.out hY15 HHN.out HAE.out HUL.out HUP.out (HIP.out.onto HB7.out) h215)
                    have HBW15 := hid (vonto HBW.out (vonto HB7.out hY15))
                    have HPL := hid (put_new HHN.out)
                    obtain ⟨o15, c15, rfl⟩ := own_sl5 h215
                    clear h215 hY11 hY15
                    try simp only [Act.put, List.setIfInBounds_toArray, List.set_cons_zero, List.set_cons_succ]
                    refine take_h (i := 16) (v := ?_) rfl (by kernel_rfl) (by kernel_rfl) (by kernel_rfl) (fun _ _ _ h => h) (by rfl) ?_ hS15 ?_
                    rotate_left
                    · (intro X hX; go_simp; try with_reducible rfl)
                    try simp only [Act.put, List.setIfInBounds_toArray, List.set_cons_zero, List.set_cons_succ]
                    refine wpAnyH_done (by kernel_rfl) ?_ _
                    by_cases h65 : 64 < Q.length + 1
                    · have HE2 := hid (fe_many HLOM.out (by have := HNL.out; have := HPL.out; omega))
                      have h65I : (64 : Int) < (Q.length : Int) + 1 := by omega
                      go_wp2_with fail
                      all_goals refine bodyPost_ret (v := .tuple #[.slice none 0 0, .slice none 0 0, .int .i64 2]) (by simp [results, Tryz.results18, go_sem]) rfl (dflat_no HE2.out (by decide) rfl (vonto HB1.out HC15.out.bel))
                    · have h65I : (Q.length : Int) + 1 ≤ 64 := by omega
                      go_wp2_with fail
                      go_roundw
                      case rel => exact ⟨k + 1, putC Q p, val_int (by omega), hlk, HC15, hid HNX.out.symm, by have := HPL.out; omega, hid (HG.out.put HFE.out), HBW15⟩
                      case measure => simp [intOf]; omega
            · have hkl : k = l.length := by omega
              have HNX := hid (show colF (((flatX T).take (i + 1)).flatten) [] = Q by
                rw [take_flat (flatX T) i l HX.out, colF_app, HR.out, show List.take k l = l from List.take_of_length_le (by omega)])
              go_wp2_with fail
              go_roundw
              case rel => exact ⟨i + 1, Q, val_int (by omega), hlt, HC, hid HNX.out.symm, hR64, HG⟩
              case measure => simp [intOf]; omega
        · have hin : i = T.ls.length := by omega
          have hRC : R = flatC T := by
            rw [HR.out, List.take_of_length_le (by unfold flatX; rw [List.length_map]; omega)]; rfl
          subst hRC
          have HCS := hid (fun (p : List PStep) (hp : p ∈ flatC T) => col_small HLOM.out HWF.out hp)
          have g3' := keepCell HC.out.bel g3
          obtain ⟨oc, kc, rfl⟩ := HC.out.sl
          clear hin hi HR HXL
          by_cases h512 : 512 < T.ls.length
          · have HE2 := hid (show flatE T = 2 by unfold flatE; rw [if_neg (by rw [HLOM.out]; decide), if_pos h512])
            have h512I : (512 : Int) < (T.ls.length : Int) := by omega
            go_wp2_with fail
            refine bodyPost_ret (v := .tuple #[.slice none 0 0, .slice none 0 0, .int .i64 2]) (by simp [results, Tryz.results18, go_sem]) rfl (dflat_no HE2.out (by decide) rfl (vonto HB1.out HC.out.bel))
          have h512I : (T.ls.length : Int) ≤ 512 := by omega
          have HFT := hid (show flatE T = if flatL T = true then 2 else 0 by unfold flatE; rw [if_neg (by rw [HLOM.out]; decide), if_neg h512, if_neg (by omega)])
          obtain ⟨C, hC⟩ : ∃ C, flatC T = C := ⟨_, rfl⟩
          have HCE := hid hC
          rw [hC] at HC HCS hR64 HG
          rw [hC]
          clear hC
          go_wp2_with fail
          go_loopw [11, 12] (fun h i wr => ∃ j : Nat, i = .int .i64 j ∧ j ≤ C.length ∧ Hid (StrO w2 wr ((C.take j).map nmP) h) ∧ Hid (Below w2.heap.size w2 wr) ∧ Hid (∀ c ∈ (C.take j).map nmP, c.size ≤ 4096)) (fun _ i _ => C.length - (intOf i).toNat)
          case atStart => exact ⟨0, rfl, Nat.zero_le _, hid ⟨World.ownsRow_nil _ _ _ _, fun c h => by simp at h⟩, hid (Below.refl _ _), hid (fun c h => by simp at h)⟩
          case round =>
            obtain ⟨w3, rfl⟩ : ∃ X, X = wr := ⟨_, rfl⟩
            obtain ⟨j, rfl, hj, HH, HB, HSM⟩ := hrel
            obtain ⟨oh, kh, rfl⟩ := own_slice HH.out.own
            rw [show ((C.take j).map nmP).length = j by rw [List.length_map, List.length_take]; omega] at HH ⊢
            by_cases hlt5 : j < C.length
            · obtain ⟨p, hp⟩ : ∃ p, C[j]? = some p := ⟨C[j], List.getElem?_eq_getElem hlt5⟩
              have hmem := List.mem_of_getElem? hp
              obtain ⟨hfr, hsm, hpl, hne⟩ := HCS.out p hmem
              obtain ⟨ac, ⟨oc', kc', e1, -, -, h1⟩, hce⟩ := HC.out.inc
              injection e1 with e1 e1b e1c
              have h1 := h1 (by omega)
              rw [← e1] at h1
              subst h1
              obtain ⟨u, hu, hip⟩ := hce j p hp
              have hu := keepCell HB.out hu
              obtain ⟨ou, cu, rfl⟩ := inp_slice hip
              have CT := hid (t5_any p _ w3 (hip.onto HB.out) hfr hsm (by omega))
              have htl := small_frm hsm hpl
              obtain ⟨t, ht⟩ : ∃ t, mkS (textP p) = t := ⟨_, rfl⟩
              have hts : t.size = (textP p).length := by rw [← ht]; show ((textP p).toArray).size = _; simp
              have HNM := hid (show t.extract 1 t.size = nmP p by
                unfold nmP
                rw [← ht]
                apply ba_eq
                rw [drop_list]; simp [mkS])
              rw [ht] at CT
              have htl2 : t.size ≤ 200000300 := by omega
              have hts1 : 1 ≤ t.size := by omega
              have HMEM := hid hmem
              have HTK := hid (show (C.take (j + 1)).map nmP = (C.take j).map nmP ++ [nmP p] by rw [List.take_add_one, hp]; simp)
              have HKL := hid (show ((C.take j).map nmP).length = j by rw [List.length_map, List.length_take]; omega)
              have hjl : j ≤ 64 := by omega
              clear hip hsm hp ht hts htl hne hpl hfr hce e1 e1b e1c hmem h1
              go_wp2_with fail
              go_at_call 41
              refine CT.out.mono ?_
              rintro e w4 ⟨rfl, hb4⟩
              have HB4 := hid (vonto HB.out hb4)
              have HH4 := hid (HH.out.onto hb4)
              have hbx : Below w2.heap.size w2 (w4.alloc (.cells #[.string (t.extract 1 t.size)] 9)) := vonto HB4.out (valloc_bel (Below.refl _ _) _)
              obtain ⟨g9, cap9, Y, hr, hown9, hbl9⟩ := catS w2.heap.size (w4.alloc (.cells #[.string (t.extract 1 t.size)] 9)) _ ((C.take j).map nmP) j HKL.out (by have := HH4.out.own.alloc (.cells #[.string (t.extract 1 t.size)] 9); rwa [HKL.out] at this) w4.heap.size (t.extract 1 t.size) (by simp) hbx.size (by omega)
              have HY := hid (hbl9 w2 rfl hbx)
              have HO9 : Hid (Y.ownsRow w2.heap.size 9 1 (.slice (some ⟨g9, 0, none⟩) (j + 1) cap9) (j + 1) (((C.take (j + 1)).map nmP).map Value.string)) := hid (by rw [HTK.out, ← HNM.out]; exact hown9)
              have hce9 : Y.cell? ⟨g9, j, none⟩ = some (.string (nmP p)) := by
                rw [HO9.out.cellAt j (by omega), HTK.out, List.map_append, List.getElem?_append_right (by rw [List.length_map, HKL.out]; omega), List.length_map, HKL.out, Nat.sub_self]; rfl
              have hns : (nmP p).size ≤ 200000300 := by
                have := congrArg ByteArray.size HNM.out
                rw [ByteArray.size_extract] at this; omega
              clear hb4 CT hu hbl9 hown9 hbx
              by_cases hlong : 4096 < (nmP p).size
              · have HE2 := hid (show flatE T = 2 by
                  rw [HFT.out, if_pos]
                  unfold flatL
                  rw [Bool.or_eq_true, List.any_eq_true]
                  exact .inl ⟨nmP p, by unfold flatN; rw [HCE.out]; exact List.mem_map.2 ⟨p, HMEM.out, rfl⟩, by unfold longS; simp [hlong]⟩)
                have hlI : (4096 : Int) < ((nmP p).size : Int) := by omega
                go_wp2_with (at_builtin; go_must (refine Lib.wpList_append_run _ rfl _ _ _ _ rfl _ _ rfl rfl _ Y hr ?_))
                all_goals refine bodyPost_ret (v := .tuple #[.slice none 0 0, .slice none 0 0, .int .i64 2]) (by simp [results, Tryz.results18, go_sem]) rfl (dflat_no HE2.out (by decide) rfl (vonto HB1.out (vonto HC.out.bel HY.out)))
              · have hlI : ((nmP p).size : Int) ≤ 4096 := by omega
                have HLE := hid (show (nmP p).size ≤ 4096 by omega)
                clear hlong
                go_wp2_with (at_builtin; go_must (refine Lib.wpList_append_run _ rfl _ _ _ _ rfl _ _ rfl rfl _ Y hr ?_))
                have hsm9 : ∀ c ∈ (C.take (j + 1)).map nmP, c.size ≤ 4096 := fun c hc => by
                  rw [HTK.out] at hc
                  rcases List.mem_append.1 hc with hc | hc
                  · exact HSM.out c hc
                  · rw [List.mem_singleton.1 hc]; exact HLE.out
                have HS9 := hid hsm9
                have HST : Hid (StrO w2 Y ((C.take (j + 1)).map nmP) (.slice (some ⟨g9, 0, none⟩) (j + 1) cap9)) := hid ⟨by rw [show ((C.take (j + 1)).map nmP).length = j + 1 by rw [List.length_map, List.length_take]; omega]; exact HO9.out, fun c hc => by have := hsm9 c hc; unfold maxLen; omega⟩
                clear hsm9
                go_roundw
                case rel => exact ⟨j + 1, val_int (by omega), hlt5, HST, HY, HS9⟩
                case measure => simp [intOf]; omega
            · have hjn : j = C.length := by omega
              subst hjn
              have HN0 : Hid (StrO w2 w3 (C.map nmP) (.slice oh C.length kh)) := hid (by have := HH.out; rwa [List.take_length] at this)
              have HSMN : Hid (∀ c ∈ C.map nmP, c.size ≤ 4096) := hid (by have := HSM.out; rwa [List.take_length] at this)
              have g34 := keepCell HB.out g3'
              have HIC := hid (HC.out.inc.onto HB.out)
              have HB3 := hid (vonto HB1.out (vonto HC.out.bel HB.out))
              have hwl : (flatW T).length = T.ls.length := flatW_len T
              have HRA := hid (fun (k : Nat) (t : VT) (ht : T.ls[k]? = some t) => (show (flatW T)[k]? = some (rowM (lfT t []) C) ∧ (rowM (lfT t []) C).length = C.length ∧ ∀ (m : Nat) (c : List PStep), C[m]? = some c → (rowM (lfT t []) C)[m]? = some (cellAt t c) by
                refine ⟨?_, rowM_len _ _, fun m c hc => ?_⟩
                · unfold flatW flatX; rw [List.getElem?_map, List.getElem?_map, ht, HCE.out]; rfl
                · have := row_at HM0.out HWF.out ht (k := m) (c := c) (by rw [HCE.out]; exact hc)
                  rwa [HCE.out] at this))
              have HWL := hid hwl
              clear HH HSM hwl
              go_wp2_with fail
              go_loopw [13, 14] (fun rs i wr => ∃ (k : Nat) (E : List (List ByteArray × Value)), i = .int .i64 k ∧ k ≤ T.ls.length ∧ Hid (Gor w3 wr rs E) ∧ Hid (E.map (·.1) = (flatW T).take k) ∧ Hid (∀ r ∈ (flatW T).take k, ∀ c ∈ r, c.size ≤ 4096)) (fun _ i _ => T.ls.length - (intOf i).toNat)
              case atStart => exact ⟨0, [], rfl, Nat.zero_le _, hid ⟨World.ownsRow_nil _ _ _ _, fun e h => (by cases h), Below.refl _ _⟩, hid rfl, hid (fun r h => by simp at h)⟩
              case round =>
                obtain ⟨w4, rfl⟩ : ∃ X, X = wr := ⟨_, rfl⟩
                obtain ⟨k, E, rfl, hk, GE, HEm, HRS⟩ := hrel
                obtain ⟨ors, krs, rfl⟩ := own_slice GE.out.row
                by_cases hlt6 : k < T.ls.length
                · obtain ⟨t, ht⟩ : ∃ t, T.ls[k]? = some t := ⟨T.ls[k], List.getElem?_eq_getElem hlt6⟩
                  obtain ⟨hr1, hr2, hr3⟩ := HRA.out k t ht
                  obtain ⟨r, hr⟩ : ∃ r, rowM (lfT t []) C = r := ⟨_, rfl⟩
                  rw [hr] at hr1 hr2 hr3
                  have HR1 := hid hr1; have HR2 := hid hr2; have HR3 := hid hr3
                  have g35 := keepCell GE.out.bel g34
                  have HT6 := hid ht
                  have HB4 := hid (vonto HB3.out GE.out.bel)
                  clear hr1 hr2 hr3 hr ht
                  go_wp2_with fail
                  go_loopw [15, 16] (fun rv m wr => ∃ q : Nat, m = .int .i64 q ∧ q ≤ C.length ∧ Hid (StrO w4 wr (r.take q) rv) ∧ Hid (Below w4.heap.size w4 wr) ∧ Hid (∀ c ∈ r.take q, c.size ≤ 4096)) (fun _ m _ => C.length - (intOf m).toNat)
                  case atStart => exact ⟨0, rfl, Nat.zero_le _, hid ⟨World.ownsRow_nil _ _ _ _, fun c h => by simp at h⟩, hid (Below.refl _ _), hid (fun c h => by simp at h)⟩
                  case round =>
                    obtain ⟨w5, rfl⟩ : ∃ X, X = wr := ⟨_, rfl⟩
                    obtain ⟨m, rfl, hm, HO, HB5, HS5⟩ := hrel
                    obtain ⟨orv, krv, rfl⟩ := own_slice HO.out.own
                    by_cases hlt7 : m < C.length
                    · obtain ⟨p, hp⟩ : ∃ p, C[m]? = some p := ⟨C[m], List.getElem?_eq_getElem hlt7⟩
                      have hmem := List.mem_of_getElem? hp
                      have hrm := HR3.out m p hp
                      obtain ⟨c, hcd⟩ : ∃ c, cellAt t p = c := ⟨_, rfl⟩
                      rw [hcd] at hrm
                      have HCD := hid hcd
                      have HRM := hid hrm
                      have HFR := hid (HG.out.f p hmem)
                      obtain ⟨-, -, hpl, -⟩ := HCS.out p hmem
                      have HKM := hid (show (r.take m).length = m by rw [List.length_take, HR2.out]; omega)
                      obtain ⟨ac, ⟨oc', kc', e1, -, -, h1⟩, hce⟩ := HIC.out
                      injection e1 with e1 e1b e1c
                      have h1 := h1 (by omega)
                      rw [← e1] at h1
                      subst h1
                      obtain ⟨u, hu, hip⟩ := hce m p hp
                      have hu := keepCell (vonto GE.out.bel HB5.out) hu
                      obtain ⟨ou, cu, rfl⟩ := inp_slice hip
                      have g36 := keepCell HB5.out g35
                      obtain ⟨d0, d1, d2, d3, d4⟩ := (HkL.out k t HT6.out).onto (vonto HB4.out HB5.out)
                      have hvt := HrL.out k t HT6.out
                      obtain ⟨o1, n1, c1, o2, n2, c2, hf, hg'⟩ := hv_slices hvt
                      rw [hf] at d3 hvt
                      rw [hg'] at d4 hvt
                      have CG := hid (fun (X : World) (hX : Below w5.heap.size w5 X) => get5_far t _ _ p _ w5 X hX (hvt.onto (vonto HB4.out HB5.out)) (hip.onto (vonto (vonto GE.out.bel HB5.out) hX)) HFR.out (by omega))
                      simp only [vv] at CG
                      have HC64 := hid hR64
                      clear hf hg' hvt hip hce e1 e1b e1c hmem hcd hrm hp hpl
                      rw [HKM.out]
                      go_wp2_with fail
                      refine wp_region_h (S := fun X => Below w5.heap.size w5 X) 16 (by kernel_rfl) (by kernel_rfl) ?_
                      have hS0 : Below w5.heap.size w5 w5.drew := (Below.refl _ _).drew
                      refine take_h (i := 0) (v := ?_) rfl (by kernel_rfl) (by kernel_rfl) (by kernel_rfl) (fun _ _ _ h => h) (by rfl) ?_ hS0 ?_
                      rotate_left
                      · (intro X hX; have y0 := keepCell hX g36; have y1 := keepCell hX d0; have y2 := keepCell hX d1; have y3 := keepCell hX d2; have y4 := keepCell hX d3; have y5 := keepCell hX d4; have y6 := keepCell hX hu; go_simp; try with_reducible rfl)
                      try simp only [Act.put, List.setIfInBounds_toArray, List.set_cons_zero, List.set_cons_succ]
                      refine take_h (i := 1) (v := ?_) rfl (by kernel_rfl) (by kernel_rfl) (by kernel_rfl) (fun _ _ _ h => h) (by rfl) ?_ hS0 ?_
                      rotate_left
                      · (intro X hX; have y0 := keepCell hX g36; have y1 := keepCell hX d0; have y2 := keepCell hX d1; have y3 := keepCell hX d2; have y4 := keepCell hX d3; have y5 := keepCell hX d4; have y6 := keepCell hX hu; go_simp; try with_reducible rfl)
                      try simp only [Act.put, List.setIfInBounds_toArray, List.set_cons_zero, List.set_cons_succ]
                      refine take_h (i := 2) (v := ?_) rfl (by kernel_rfl) (by kernel_rfl) (by kernel_rfl) (fun _ _ _ h => h) (by rfl) ?_ hS0 ?_
                      rotate_left
                      · (intro X hX; have y0 := keepCell hX g36; have y1 := keepCell hX d0; have y2 := keepCell hX d1; have y3 := keepCell hX d2; have y4 := keepCell hX d3; have y5 := keepCell hX d4; have y6 := keepCell hX hu; go_simp; try with_reducible rfl)
                      try simp only [Act.put, List.setIfInBounds_toArray, List.set_cons_zero, List.set_cons_succ]
                      refine take_h (i := 3) (v := ?_) rfl (by kernel_rfl) (by kernel_rfl) (by kernel_rfl) (fun _ _ _ h => h) (by rfl) ?_ hS0 ?_
                      rotate_left
                      · (intro X hX; have y0 := keepCell hX g36; have y1 := keepCell hX d0; have y2 := keepCell hX d1; have y3 := keepCell hX d2; have y4 := keepCell hX d3; have y5 := keepCell hX d4; have y6 := keepCell hX hu; go_simp; try with_reducible rfl)
                      try simp only [Act.put, List.setIfInBounds_toArray, List.set_cons_zero, List.set_cons_succ]
                      refine take_h (i := 4) (v := ?_) rfl (by kernel_rfl) (by kernel_rfl) (by kernel_rfl) (fun _ _ _ h => h) (by rfl) ?_ hS0 ?_
                      rotate_left
                      · (intro X hX; have y0 := keepCell hX g36; have y1 := keepCell hX d0; have y2 := keepCell hX d1; have y3 := keepCell hX d2; have y4 := keepCell hX d3; have y5 := keepCell hX d4; have y6 := keepCell hX hu; go_simp; try with_reducible rfl)
                      try simp only [Act.put, List.setIfInBounds_toArray, List.set_cons_zero, List.set_cons_succ]
                      refine take_h (i := 5) (v := ?_) rfl (by kernel_rfl) (by kernel_rfl) (by kernel_rfl) (fun _ _ _ h => h) (by rfl) ?_ hS0 ?_
                      rotate_left
                      · (intro X hX; have y0 := keepCell hX g36; have y1 := keepCell hX d0; have y2 := keepCell hX d1; have y3 := keepCell hX d2; have y4 := keepCell hX d3; have y5 := keepCell hX d4; have y6 := keepCell hX hu; go_simp; try with_reducible rfl)
                      try simp only [Act.put, List.setIfInBounds_toArray, List.set_cons_zero, List.set_cons_succ]
                      refine take_h (i := 6) (v := ?_) rfl (by kernel_rfl) (by kernel_rfl) (by kernel_rfl) (fun _ _ _ h => h) (by rfl) ?_ hS0 ?_
                      rotate_left
                      · (intro X hX; have y0 := keepCell hX g36; have y1 := keepCell hX d0; have y2 := keepCell hX d1; have y3 := keepCell hX d2; have y4 := keepCell hX d3; have y5 := keepCell hX d4; have y6 := keepCell hX hu; go_simp; try with_reducible rfl)
                      try simp only [Act.put, List.setIfInBounds_toArray, List.set_cons_zero, List.set_cons_succ]
                      refine take_h (i := 7) (v := ?_) rfl (by kernel_rfl) (by kernel_rfl) (by kernel_rfl) (fun _ _ _ h => h) (by rfl) ?_ hS0 ?_
                      rotate_left
                      · (intro X hX; have y0 := keepCell hX g36; have y1 := keepCell hX d0; have y2 := keepCell hX d1; have y3 := keepCell hX d2; have y4 := keepCell hX d3; have y5 := keepCell hX d4; have y6 := keepCell hX hu; go_simp; try with_reducible rfl)
                      try simp only [Act.put, List.setIfInBounds_toArray, List.set_cons_zero, List.set_cons_succ]
                      refine take_h (i := 8) (v := ?_) rfl (by kernel_rfl) (by kernel_rfl) (by kernel_rfl) (fun _ _ _ h => h) (by rfl) ?_ hS0 ?_
                      rotate_left
                      · (intro X hX; have y0 := keepCell hX g36; have y1 := keepCell hX d0; have y2 := keepCell hX d1; have y3 := keepCell hX d2; have y4 := keepCell hX d3; have y5 := keepCell hX d4; have y6 := keepCell hX hu; go_simp; try with_reducible rfl)
                      try simp only [Act.put, List.setIfInBounds_toArray, List.set_cons_zero, List.set_cons_succ]
                      refine st2_h (i := 9) (j := 13) rfl rfl (by kernel_rfl) ?_ ?_
                      · intro KK hKK
                        go_simp
                        go_at_call 42
                        refine (CG.out _ hS0).mono ?_
                        rintro e w6 ⟨R, X, Y, rfl, hR, hHV, hb6⟩
                        have hb6' : Below w5.heap.size w5 w6 := vonto (Below.refl w5.heap.size w5).drew hb6
                        have HHV := hid hHV
                        obtain ⟨-, -, -, -, -, -, x1, y1, x2, y2, rfl, rfl, -⟩ := hHV.parts
                        have hRB := got_small (HMK.out k t HT6.out) hR
                        obtain ⟨ok, hok0⟩ : ∃ b, (getP t p).isSome = b := ⟨_, rfl⟩
                        have HOK := hid hok0
                        have HR4 := hid hR
                        rw [hok0]
                        clear hok0 hR
                        go_wp2_with fail
                        refine hKK.out _ _ hb6' (fun hS1 => ?_)
                        clear hKK KK CG d0 d1 d2 d3 d4 hu
                        try simp only [Act.put, List.setIfInBounds_toArray, List.set_cons_zero, List.set_cons_succ]
                        refine take_h (i := 10) (v := ?_) rfl (by kernel_rfl) (by kernel_rfl) (by kernel_rfl) (fun _ _ _ h => h) (by rfl) ?_ hS1 ?_
                        rotate_left
                        · (intro X hX; go_simp; try with_reducible rfl)
                        try simp only [Act.put, List.setIfInBounds_toArray, List.set_cons_zero, List.set_cons_succ]
                        refine take_h (i := 11) (v := ?_) rfl (by kernel_rfl) (by kernel_rfl) (by kernel_rfl) (fun _ _ _ h => h) (by rfl) ?_ hS1 ?_
                        rotate_left
                        · (intro X hX; go_simp; try with_reducible rfl)
                        try simp only [Act.put, List.setIfInBounds_toArray, List.set_cons_zero, List.set_cons_succ]
                        refine take_h (i := 12) (v := ?_) rfl (by kernel_rfl) (by kernel_rfl) (by kernel_rfl) (fun _ _ _ h => h) (by rfl) ?_ hS1 ?_
                        rotate_left
                        · (intro X hX; go_simp; try with_reducible rfl)
                        try simp only [Act.put, List.setIfInBounds_toArray, List.set_cons_zero, List.set_cons_succ]
                        refine step_h (i := 13) rfl (by kernel_rfl) ?_
                        intro KK hKK
                        go_simp
                        have hbA := vonto hb6' (valloc_bel (Below.refl w6.heap.size w6) (.cells #[.int .i64 0, .int .i64 0, .string ⟨#[]⟩, .slice none 0 0, .slice none 0 0] 26))
                        have hrowA : Row (w6.alloc (.cells #[.int .i64 0, .int .i64 0, .string ⟨#[]⟩, .slice none 0 0, .slice none 0 0] 26)) w6.heap.size 26 5 := Row.new w6 #[.int .i64 0, .int .i64 0, .string ⟨#[]⟩, .slice none 0 0, .slice none 0 0] 26
                        have hnb : w5.heap.size ≤ w6.heap.size := hb6'.size
                        refine hKK.out _ _ hbA (fun hS2 => ?_)
                        clear hKK KK
                        try simp only [Act.put, List.setIfInBounds_toArray, List.set_cons_zero, List.set_cons_succ]
                        generalize w6.alloc (.cells #[.int .i64 0, .int .i64 0, .string ⟨#[]⟩, .slice none 0 0, .slice none 0 0] 26) = W6 at *
                        generalize w6.heap.size = nb at *
                        obtain ⟨u0, e0⟩ := hrowA.cell (o := 0) (by decide)
                        obtain ⟨u1, e1⟩ := hrowA.cell (o := 1) (by decide)
                        obtain ⟨u2, e2⟩ := hrowA.cell (o := 2) (by decide)
                        obtain ⟨u3, e3⟩ := hrowA.cell (o := 3) (by decide)
                        obtain ⟨u4, e4⟩ := hrowA.cell (o := 4) (by decide)
                        have z0 := hrowA.frozen
                        refine step_h (i := 14) rfl (by kernel_rfl) ?_
                        intro KK hKK
                        go_simp
                        have hnZ := put5_node hrowA 0 (by omega) R (.slice x1 R.ls.length x2) (.slice y1 R.vs.length y2)
                        have hbZ := put5_bel (o := 0) (v0 := .int .i64 R.kd) (v1 := .int .i64 R.nm) (v2 := .string R.st) (v3 := .slice x1 R.ls.length x2) (v4 := .slice y1 R.vs.length y2) hbA hnb
                        obtain ⟨q0, q1, q2, q3, q4⟩ := hnZ
                        simp only [put5, Nat.zero_add] at q0 q1 q2 q3 q4 hbZ
                        refine hKK.out _ _ hbZ (fun hS3 => ?_)
                        clear hKK KK e0 e1 e2 e3 e4 hrowA z0
                        have HHZ := hid (HHV.out.onto hbZ)
                        try simp only [Act.put, List.setIfInBounds_toArray, List.set_cons_zero, List.set_cons_succ]
                        generalize ((((W6.setCell ⟨nb, 0, none⟩ (.int .i64 R.kd)).setCell ⟨nb, 1, none⟩ (.int .i64 R.nm)).setCell ⟨nb, 2, none⟩ (.string R.st)).setCell ⟨nb, 3, none⟩ (.slice x1 R.ls.length x2)).setCell ⟨nb, 4, none⟩ (.slice y1 R.vs.length y2) = Z at *
                        have hS9 : Below w5.heap.size w5 Z := hbZ
                        refine take_h (i := 15) (v := ?_) rfl (by kernel_rfl) (by kernel_rfl) (by kernel_rfl) (fun _ _ _ h => h) (by rfl) ?_ hS9 ?_
                        rotate_left
                        · (intro X hX; go_simp; try with_reducible rfl)
                        try simp only [Act.put, List.setIfInBounds_toArray, List.set_cons_zero, List.set_cons_succ]
                        have HBZ := hid hbZ
                        have HOZ := hid (HO.out.onto hbZ)
                        clear hbZ
                        refine wpAnyH_done (by kernel_rfl) ?_ _
                        by_cases hok : ok = true
                        · subst hok
                          have hRG : getP t p = some R := by
                            have h1 := HOK.out
                            rw [Option.isSome_iff_exists] at h1
                            obtain ⟨z, hz⟩ := h1
                            have h2 := HR4.out
                            rw [hz] at h2
                            rw [hz, h2]; rfl
                          by_cases hbare : R.ls.length + R.vs.length = 0
                          · have hcR : c = cellP R := by rw [← HCD.out]; unfold cellAt; rw [hRG]; simp only; rw [if_pos hbare]
                            have hb1 : R.ls = [] := List.eq_nil_of_length_eq_zero (by omega)
                            have hb2 : R.vs = [] := List.eq_nil_of_length_eq_zero (by omega)
                            have hcs : c.size ≤ 5000 := by
                              have hpt := plain_ls (good_sz HM0.out).2.2 HT6.out
                              have hwt := (wfL_get _).1 ((wfT_eq T).1 HWF.out).2.1 k t HT6.out
                              have hin := get_lf p (T := t) [] R hpt hwt hRG ⟨hb1, hb2⟩ HFR.out
                              obtain ⟨r', hr'⟩ := lf_get (szT t) (T := t) (Nat.le_refl _) hpt hwt (by have := szT_ls T k t HT6.out; have := (good_sz HM0.out).1; omega) _ _ _ hin
                              rw [hcR]
                              exact cel_small hr'.pl (nwf_bd (hv_nwf HHZ.out))
                            have CTX := hid (fun (X' : World) (hX : Below Z.heap.size Z X') => dtext_any R _ _ X' (HHZ.out.onto hX))
                            have eC : (if celB R = true then mkS (celW R) else (⟨#[]⟩ : ByteArray)) = c := hcR.symm
                            have hz1 : (R.ls.length : Int) + (R.vs.length : Int) = 0 := by omega
                            have hl1 : R.ls.length = 0 := by omega
                            have hl2 : R.vs.length = 0 := by omega
                            rw [hl1] at q3 CTX
                            rw [hl2] at q4 CTX
                            have HEC := hid eC
                            clear hb1 hb2 hRG hcR hbare eC hz1 hl1 hl2
                            simp only [vv] at CTX
                            go_wp2_with fail
                            go_at_call 43
                            refine (CTX.out _ (Below.refl _ _)).mono ?_
                            rintro e w8 ⟨rfl, hb8⟩
                            rw [HEC.out]
                            have HB8 := hid (vonto HBZ.out hb8)
                            have HO8 := hid (HOZ.out.onto hb8)
                            clear hb8 CTX q0 q1 q2 q3 q4
                            by_cases hlong : 4096 < c.size
                            · have HE2 := hid (flat_two HFT.out HR1.out HRM.out hlong)
                              have hlI : (4096 : Int) < (c.size : Int) := by omega
                              go_wp2_with fail
                              refine bodyPost_ret (v := .tuple #[.slice none 0 0, .slice none 0 0, .int .i64 2]) (by simp [results, Tryz.results18, go_sem]) rfl (dflat_no HE2.out (by decide) rfl (vonto HB4.out (vonto HB5.out HB8.out)))
                            · have hlI : (c.size : Int) ≤ 4096 := by omega
                              have HLE := hid (show c.size ≤ 4096 by omega)
                              clear hlong hcs
                              have hbx : Below w4.heap.size w4 (w8.alloc (.cells #[.string c] 9)) := vonto (vonto HB5.out HB8.out) (valloc_bel (Below.refl _ _) _)
                              obtain ⟨g9, cap9, Y9, hr, hown9, hbl9⟩ := catS w4.heap.size (w8.alloc (.cells #[.string c] 9)) _ (r.take m) m HKM.out (by have := HO8.out.own.alloc (.cells #[.string c] 9); rwa [HKM.out] at this) w8.heap.size c (by simp) hbx.size (by omega)
                              have HY := hid (hbl9 w4 rfl hbx)
                              have HST : Hid (StrO w4 Y9 (r.take (m + 1)) (.slice (some ⟨g9, 0, none⟩) (m + 1) cap9)) := hid (by
                                have hl : (r.take (m + 1)).length = m + 1 := by rw [List.length_take, HR2.out]; omega
                                have e1 : r.take (m + 1) = r.take m ++ [c] := by rw [List.take_add_one, HRM.out]; rfl
                                refine ⟨by rw [hl, e1]; exact hown9, fun c' hc' => ?_⟩
                                rw [e1] at hc'
                                rcases List.mem_append.1 hc' with h | h
                                · have := HS5.out c' h; unfold maxLen; omega
                                · rw [List.mem_singleton.1 h]; have := HLE.out; unfold maxLen; omega)
                              have HS9 : Hid (∀ c' ∈ r.take (m + 1), c'.size ≤ 4096) := hid (fun c' hc' => by
                                rw [List.take_add_one, HRM.out] at hc'
                                rcases List.mem_append.1 hc' with h | h
                                · exact HS5.out c' h
                                · have h := List.mem_singleton.1 h
                                  rw [h]; exact HLE.out)
                              clear hbl9 hown9 hbx
                              go_wp2_with (at_builtin; go_must (refine Lib.wpList_append_run _ rfl _ _ _ _ rfl _ _ rfl rfl _ Y9 hr ?_))
                              go_roundw
                              case rel => exact ⟨m + 1, val_int (by omega), hlt7, HST, HY, HS9⟩
                              case measure => simp [intOf]; omega
                          · have hcR : c = ⟨#[]⟩ := by rw [← HCD.out]; unfold cellAt; rw [hRG]; simp only; rw [if_neg hbare]
                            have hz1 : ((R.ls.length : Int) + (R.vs.length : Int) == 0) = false := by rw [beq_eq_false_iff_ne]; omega
                            have hln : R.ls.length + R.vs.length ≤ 8192 := hRB
                            have HB8 := HBZ
                            have HO8 := HOZ
                            have HLE := hid (show c.size ≤ 4096 by rw [hcR]; decide)
                            subst hcR
                            clear hRG hbare
                            have hbx : Below w4.heap.size w4 (Z.alloc (.cells #[.string ⟨#[]⟩] 9)) := vonto (vonto HB5.out HB8.out) (valloc_bel (Below.refl _ _) _)
                            obtain ⟨g9, cap9, Y9, hr, hown9, hbl9⟩ := catS w4.heap.size (Z.alloc (.cells #[.string ⟨#[]⟩] 9)) _ (r.take m) m HKM.out (by have := HO8.out.own.alloc (.cells #[.string ⟨#[]⟩] 9); rwa [HKM.out] at this) Z.heap.size ⟨#[]⟩ (by simp) hbx.size (by omega)
                            have HY := hid (hbl9 w4 rfl hbx)
                            have HST : Hid (StrO w4 Y9 (r.take (m + 1)) (.slice (some ⟨g9, 0, none⟩) (m + 1) cap9)) := hid (by
                              have hl : (r.take (m + 1)).length = m + 1 := by rw [List.length_take, HR2.out]; omega
                              have e1 : r.take (m + 1) = r.take m ++ [⟨#[]⟩] := by rw [List.take_add_one, HRM.out]; rfl
                              refine ⟨by rw [hl, e1]; exact hown9, fun c' hc' => ?_⟩
                              rw [e1] at hc'
                              rcases List.mem_append.1 hc' with h | h
                              · have := HS5.out c' h; unfold maxLen; omega
                              · rw [List.mem_singleton.1 h]; have := HLE.out; unfold maxLen; omega)
                            have HS9 : Hid (∀ c' ∈ r.take (m + 1), c'.size ≤ 4096) := hid (fun c' hc' => by
                              rw [List.take_add_one, HRM.out] at hc'
                              rcases List.mem_append.1 hc' with h | h
                              · exact HS5.out c' h
                              · have h := List.mem_singleton.1 h
                                rw [h]; exact HLE.out)
                            clear hbl9 hown9 hbx
                            go_wp2_with (at_builtin; go_must (refine Lib.wpList_append_run _ rfl _ _ _ _ rfl _ _ rfl rfl _ Y9 hr ?_))
                            go_roundw
                            case rel => exact ⟨m + 1, val_int (by omega), hlt7, HST, HY, HS9⟩
                            case measure => simp [intOf]; omega
                        · have hok2 : ok = false := by simpa using hok
                          subst hok2
                          have hRG : getP t p = none := by
                            have h1 := HOK.out
                            simpa using h1
                          have hcR : c = ⟨#[]⟩ := by rw [← HCD.out]; unfold cellAt; rw [hRG]
                          have HB8 := HBZ
                          have HO8 := HOZ
                          have HLE := hid (show c.size ≤ 4096 by rw [hcR]; decide)
                          subst hcR
                          clear hRG hok
                          have hbx : Below w4.heap.size w4 (Z.alloc (.cells #[.string ⟨#[]⟩] 9)) := vonto (vonto HB5.out HB8.out) (valloc_bel (Below.refl _ _) _)
                          obtain ⟨g9, cap9, Y9, hr, hown9, hbl9⟩ := catS w4.heap.size (Z.alloc (.cells #[.string ⟨#[]⟩] 9)) _ (r.take m) m HKM.out (by have := HO8.out.own.alloc (.cells #[.string ⟨#[]⟩] 9); rwa [HKM.out] at this) Z.heap.size ⟨#[]⟩ (by simp) hbx.size (by omega)
                          have HY := hid (hbl9 w4 rfl hbx)
                          have HST : Hid (StrO w4 Y9 (r.take (m + 1)) (.slice (some ⟨g9, 0, none⟩) (m + 1) cap9)) := hid (by
                            have hl : (r.take (m + 1)).length = m + 1 := by rw [List.length_take, HR2.out]; omega
                            have e1 : r.take (m + 1) = r.take m ++ [⟨#[]⟩] := by rw [List.take_add_one, HRM.out]; rfl
                            refine ⟨by rw [hl, e1]; exact hown9, fun c' hc' => ?_⟩
                            rw [e1] at hc'
                            rcases List.mem_append.1 hc' with h | h
                            · have := HS5.out c' h; unfold maxLen; omega
                            · rw [List.mem_singleton.1 h]; have := HLE.out; unfold maxLen; omega)
                          have HS9 : Hid (∀ c' ∈ r.take (m + 1), c'.size ≤ 4096) := hid (fun c' hc' => by
                            rw [List.take_add_one, HRM.out] at hc'
                            rcases List.mem_append.1 hc' with h | h
                            · exact HS5.out c' h
                            · have h := List.mem_singleton.1 h
                              rw [h]; exact HLE.out)
                          clear hbl9 hown9 hbx
                          go_wp2_with (at_builtin; go_must (refine Lib.wpList_append_run _ rfl _ _ _ _ rfl _ _ rfl rfl _ Y9 hr ?_))
                          go_roundw
                          case rel => exact ⟨m + 1, val_int (by omega), hlt7, HST, HY, HS9⟩
                          case measure => simp [intOf]; omega
                      · intro KK hKK
                        go_simp
                        have hbX : Below w5.heap.size w5 (w5.drew.alloc (.cells #[.int .i64 0, .int .i64 0, .string ⟨#[]⟩, .slice none 0 0, .slice none 0 0] 26)) := vonto hS0 (valloc_bel (Below.refl _ _) _)
                        have hrow := Row.new w5.drew #[.int .i64 0, .int .i64 0, .string ⟨#[]⟩, .slice none 0 0, .slice none 0 0] 26
                        refine hKK.out _ _ hbX (fun hS1 => ?_)
                        clear hKK KK
                        try simp only [Act.put, List.setIfInBounds_toArray, List.set_cons_zero, List.set_cons_succ]
                        refine step_h (i := 9) rfl (by kernel_rfl) ?_
                        intro KK hKK
                        go_simp
                        go_at_call 42
                        refine (CG.out _ hbX).mono ?_
                        rintro e w6 ⟨R, X, Y, rfl, hR, hHV, hb6⟩
                        have hb6' : Below w5.heap.size w5 w6 := vonto hbX hb6
                        have hrow6 := hrow.onto (hb6.block _ hrow.lt)
                        have HHV := hid hHV
                        obtain ⟨-, -, -, -, -, -, x1, y1, x2, y2, rfl, rfl, -⟩ := hHV.parts
                        have hRB := got_small (HMK.out k t HT6.out) hR
                        obtain ⟨ok, hok0⟩ : ∃ b, (getP t p).isSome = b := ⟨_, rfl⟩
                        have HOK := hid hok0
                        have HR4 := hid hR
                        rw [hok0]
                        clear hok0 hR
                        go_wp2_with fail
                        refine hKK.out _ _ hb6' (fun hS2 => ?_)
                        clear hKK KK CG d0 d1 d2 d3 d4 hu
                        try simp only [Act.put, List.setIfInBounds_toArray, List.set_cons_zero, List.set_cons_succ]
                        refine take_h (i := 10) (v := ?_) rfl (by kernel_rfl) (by kernel_rfl) (by kernel_rfl) (fun _ _ _ h => h) (by rfl) ?_ hS2 ?_
                        rotate_left
                        · (intro X hX; go_simp; try with_reducible rfl)
                        try simp only [Act.put, List.setIfInBounds_toArray, List.set_cons_zero, List.set_cons_succ]
                        refine take_h (i := 11) (v := ?_) rfl (by kernel_rfl) (by kernel_rfl) (by kernel_rfl) (fun _ _ _ h => h) (by rfl) ?_ hS2 ?_
                        rotate_left
                        · (intro X hX; go_simp; try with_reducible rfl)
                        try simp only [Act.put, List.setIfInBounds_toArray, List.set_cons_zero, List.set_cons_succ]
                        refine take_h (i := 12) (v := ?_) rfl (by kernel_rfl) (by kernel_rfl) (by kernel_rfl) (fun _ _ _ h => h) (by rfl) ?_ hS2 ?_
                        rotate_left
                        · (intro X hX; go_simp; try with_reducible rfl)
                        try simp only [Act.put, List.setIfInBounds_toArray, List.set_cons_zero, List.set_cons_succ]
                        have hnb : w5.heap.size ≤ w5.heap.size := Nat.le_refl _
                        have hrowA := hrow6
                        have hbA := hb6'
                        clear hrow6 hrow
                        try simp only [World.heap_size_drew] at hrowA
                        generalize w6 = W6 at *
                        have hrowA : Row W6 w5.heap.size 26 5 := hrowA
                        obtain ⟨u0, e0⟩ := hrowA.cell (o := 0) (by decide)
                        obtain ⟨u1, e1⟩ := hrowA.cell (o := 1) (by decide)
                        obtain ⟨u2, e2⟩ := hrowA.cell (o := 2) (by decide)
                        obtain ⟨u3, e3⟩ := hrowA.cell (o := 3) (by decide)
                        obtain ⟨u4, e4⟩ := hrowA.cell (o := 4) (by decide)
                        have z0 := hrowA.frozen
                        refine step_h (i := 14) rfl (by kernel_rfl) ?_
                        intro KK hKK
                        go_simp
                        have hnZ := put5_node hrowA 0 (by omega) R (.slice x1 R.ls.length x2) (.slice y1 R.vs.length y2)
                        have hbZ := put5_bel (o := 0) (v0 := .int .i64 R.kd) (v1 := .int .i64 R.nm) (v2 := .string R.st) (v3 := .slice x1 R.ls.length x2) (v4 := .slice y1 R.vs.length y2) hbA hnb
                        obtain ⟨q0, q1, q2, q3, q4⟩ := hnZ
                        simp only [put5, Nat.zero_add] at q0 q1 q2 q3 q4 hbZ
                        refine hKK.out _ _ hbZ (fun hS3 => ?_)
                        clear hKK KK e0 e1 e2 e3 e4 hrowA z0
                        have HHZ := hid (HHV.out.onto hbZ)
                        try simp only [Act.put, List.setIfInBounds_toArray, List.set_cons_zero, List.set_cons_succ]
                        generalize ((((W6.setCell ⟨w5.heap.size, 0, none⟩ (.int .i64 R.kd)).setCell ⟨w5.heap.size, 1, none⟩ (.int .i64 R.nm)).setCell ⟨w5.heap.size, 2, none⟩ (.string R.st)).setCell ⟨w5.heap.size, 3, none⟩ (.slice x1 R.ls.length x2)).setCell ⟨w5.heap.size, 4, none⟩ (.slice y1 R.vs.length y2) = Z at *
                        have hS9 : Below w5.heap.size w5 Z := hbZ
                        refine take_h (i := 15) (v := ?_) rfl (by kernel_rfl) (by kernel_rfl) (by kernel_rfl) (fun _ _ _ h => h) (by rfl) ?_ hS9 ?_
                        rotate_left
                        · (intro X hX; go_simp; try with_reducible rfl)
                        try simp only [Act.put, List.setIfInBounds_toArray, List.set_cons_zero, List.set_cons_succ]
                        have HBZ := hid hbZ
                        have HOZ := hid (HO.out.onto hbZ)
                        clear hbZ
                        refine wpAnyH_done (by kernel_rfl) ?_ _
                        by_cases hok : ok = true
                        · subst hok
                          have hRG : getP t p = some R := by
                            have h1 := HOK.out
                            rw [Option.isSome_iff_exists] at h1
                            obtain ⟨z, hz⟩ := h1
                            have h2 := HR4.out
                            rw [hz] at h2
                            rw [hz, h2]; rfl
                          by_cases hbare : R.ls.length + R.vs.length = 0
                          · have hcR : c = cellP R := by rw [← HCD.out]; unfold cellAt; rw [hRG]; simp only; rw [if_pos hbare]
                            have hb1 : R.ls = [] := List.eq_nil_of_length_eq_zero (by omega)
                            have hb2 : R.vs = [] := List.eq_nil_of_length_eq_zero (by omega)
                            have hcs : c.size ≤ 5000 := by
                              have hpt := plain_ls (good_sz HM0.out).2.2 HT6.out
                              have hwt := (wfL_get _).1 ((wfT_eq T).1 HWF.out).2.1 k t HT6.out
                              have hin := get_lf p (T := t) [] R hpt hwt hRG ⟨hb1, hb2⟩ HFR.out
                              obtain ⟨r', hr'⟩ := lf_get (szT t) (T := t) (Nat.le_refl _) hpt hwt (by have := szT_ls T k t HT6.out; have := (good_sz HM0.out).1; omega) _ _ _ hin
                              rw [hcR]
                              exact cel_small hr'.pl (nwf_bd (hv_nwf HHZ.out))
                            have CTX := hid (fun (X' : World) (hX : Below Z.heap.size Z X') => dtext_any R _ _ X' (HHZ.out.onto hX))
                            have eC : (if celB R = true then mkS (celW R) else (⟨#[]⟩ : ByteArray)) = c := hcR.symm
                            have hz1 : (R.ls.length : Int) + (R.vs.length : Int) = 0 := by omega
                            have hl1 : R.ls.length = 0 := by omega
                            have hl2 : R.vs.length = 0 := by omega
                            rw [hl1] at q3 CTX
                            rw [hl2] at q4 CTX
                            have HEC := hid eC
                            clear hb1 hb2 hRG hcR hbare eC hz1 hl1 hl2
                            simp only [vv] at CTX
                            go_wp2_with fail
                            go_at_call 43
                            refine (CTX.out _ (Below.refl _ _)).mono ?_
                            rintro e w8 ⟨rfl, hb8⟩
                            rw [HEC.out]
                            have HB8 := hid (vonto HBZ.out hb8)
                            have HO8 := hid (HOZ.out.onto hb8)
                            clear hb8 CTX q0 q1 q2 q3 q4
                            by_cases hlong : 4096 < c.size
                            · have HE2 := hid (flat_two HFT.out HR1.out HRM.out hlong)
                              have hlI : (4096 : Int) < (c.size : Int) := by omega
                              go_wp2_with fail
                              refine bodyPost_ret (v := .tuple #[.slice none 0 0, .slice none 0 0, .int .i64 2]) (by simp [results, Tryz.results18, go_sem]) rfl (dflat_no HE2.out (by decide) rfl (vonto HB4.out (vonto HB5.out HB8.out)))
                            · have hlI : (c.size : Int) ≤ 4096 := by omega
                              have HLE := hid (show c.size ≤ 4096 by omega)
                              clear hlong hcs
                              have hbx : Below w4.heap.size w4 (w8.alloc (.cells #[.string c] 9)) := vonto (vonto HB5.out HB8.out) (valloc_bel (Below.refl _ _) _)
                              obtain ⟨g9, cap9, Y9, hr, hown9, hbl9⟩ := catS w4.heap.size (w8.alloc (.cells #[.string c] 9)) _ (r.take m) m HKM.out (by have := HO8.out.own.alloc (.cells #[.string c] 9); rwa [HKM.out] at this) w8.heap.size c (by simp) hbx.size (by omega)
                              have HY := hid (hbl9 w4 rfl hbx)
                              have HST : Hid (StrO w4 Y9 (r.take (m + 1)) (.slice (some ⟨g9, 0, none⟩) (m + 1) cap9)) := hid (by
                                have hl : (r.take (m + 1)).length = m + 1 := by rw [List.length_take, HR2.out]; omega
                                have e1 : r.take (m + 1) = r.take m ++ [c] := by rw [List.take_add_one, HRM.out]; rfl
                                refine ⟨by rw [hl, e1]; exact hown9, fun c' hc' => ?_⟩
                                rw [e1] at hc'
                                rcases List.mem_append.1 hc' with h | h
                                · have := HS5.out c' h; unfold maxLen; omega
                                · rw [List.mem_singleton.1 h]; have := HLE.out; unfold maxLen; omega)
                              have HS9 : Hid (∀ c' ∈ r.take (m + 1), c'.size ≤ 4096) := hid (fun c' hc' => by
                                rw [List.take_add_one, HRM.out] at hc'
                                rcases List.mem_append.1 hc' with h | h
                                · exact HS5.out c' h
                                · have h := List.mem_singleton.1 h
                                  rw [h]; exact HLE.out)
                              clear hbl9 hown9 hbx
                              go_wp2_with (at_builtin; go_must (refine Lib.wpList_append_run _ rfl _ _ _ _ rfl _ _ rfl rfl _ Y9 hr ?_))
                              go_roundw
                              case rel => exact ⟨m + 1, val_int (by omega), hlt7, HST, HY, HS9⟩
                              case measure => simp [intOf]; omega
                          · have hcR : c = ⟨#[]⟩ := by rw [← HCD.out]; unfold cellAt; rw [hRG]; simp only; rw [if_neg hbare]
                            have hz1 : ((R.ls.length : Int) + (R.vs.length : Int) == 0) = false := by rw [beq_eq_false_iff_ne]; omega
                            have hln : R.ls.length + R.vs.length ≤ 8192 := hRB
                            have HB8 := HBZ
                            have HO8 := HOZ
                            have HLE := hid (show c.size ≤ 4096 by rw [hcR]; decide)
                            subst hcR
                            clear hRG hbare
                            have hbx : Below w4.heap.size w4 (Z.alloc (.cells #[.string ⟨#[]⟩] 9)) := vonto (vonto HB5.out HB8.out) (valloc_bel (Below.refl _ _) _)
                            obtain ⟨g9, cap9, Y9, hr, hown9, hbl9⟩ := catS w4.heap.size (Z.alloc (.cells #[.string ⟨#[]⟩] 9)) _ (r.take m) m HKM.out (by have := HO8.out.own.alloc (.cells #[.string ⟨#[]⟩] 9); rwa [HKM.out] at this) Z.heap.size ⟨#[]⟩ (by simp) hbx.size (by omega)
                            have HY := hid (hbl9 w4 rfl hbx)
                            have HST : Hid (StrO w4 Y9 (r.take (m + 1)) (.slice (some ⟨g9, 0, none⟩) (m + 1) cap9)) := hid (by
                              have hl : (r.take (m + 1)).length = m + 1 := by rw [List.length_take, HR2.out]; omega
                              have e1 : r.take (m + 1) = r.take m ++ [⟨#[]⟩] := by rw [List.take_add_one, HRM.out]; rfl
                              refine ⟨by rw [hl, e1]; exact hown9, fun c' hc' => ?_⟩
                              rw [e1] at hc'
                              rcases List.mem_append.1 hc' with h | h
                              · have := HS5.out c' h; unfold maxLen; omega
                              · rw [List.mem_singleton.1 h]; have := HLE.out; unfold maxLen; omega)
                            have HS9 : Hid (∀ c' ∈ r.take (m + 1), c'.size ≤ 4096) := hid (fun c' hc' => by
                              rw [List.take_add_one, HRM.out] at hc'
                              rcases List.mem_append.1 hc' with h | h
                              · exact HS5.out c' h
                              · have h := List.mem_singleton.1 h
                                rw [h]; exact HLE.out)
                            clear hbl9 hown9 hbx
                            go_wp2_with (at_builtin; go_must (refine Lib.wpList_append_run _ rfl _ _ _ _ rfl _ _ rfl rfl _ Y9 hr ?_))
                            go_roundw
                            case rel => exact ⟨m + 1, val_int (by omega), hlt7, HST, HY, HS9⟩
                            case measure => simp [intOf]; omega
                        · have hok2 : ok = false := by simpa using hok
                          subst hok2
                          have hRG : getP t p = none := by
                            have h1 := HOK.out
                            simpa using h1
                          have hcR : c = ⟨#[]⟩ := by rw [← HCD.out]; unfold cellAt; rw [hRG]
                          have HB8 := HBZ
                          have HO8 := HOZ
                          have HLE := hid (show c.size ≤ 4096 by rw [hcR]; decide)
                          subst hcR
                          clear hRG hok
                          have hbx : Below w4.heap.size w4 (Z.alloc (.cells #[.string ⟨#[]⟩] 9)) := vonto (vonto HB5.out HB8.out) (valloc_bel (Below.refl _ _) _)
                          obtain ⟨g9, cap9, Y9, hr, hown9, hbl9⟩ := catS w4.heap.size (Z.alloc (.cells #[.string ⟨#[]⟩] 9)) _ (r.take m) m HKM.out (by have := HO8.out.own.alloc (.cells #[.string ⟨#[]⟩] 9); rwa [HKM.out] at this) Z.heap.size ⟨#[]⟩ (by simp) hbx.size (by omega)
                          have HY := hid (hbl9 w4 rfl hbx)
                          have HST : Hid (StrO w4 Y9 (r.take (m + 1)) (.slice (some ⟨g9, 0, none⟩) (m + 1) cap9)) := hid (by
                            have hl : (r.take (m + 1)).length = m + 1 := by rw [List.length_take, HR2.out]; omega
                            have e1 : r.take (m + 1) = r.take m ++ [⟨#[]⟩] := by rw [List.take_add_one, HRM.out]; rfl
                            refine ⟨by rw [hl, e1]; exact hown9, fun c' hc' => ?_⟩
                            rw [e1] at hc'
                            rcases List.mem_append.1 hc' with h | h
                            · have := HS5.out c' h; unfold maxLen; omega
                            · rw [List.mem_singleton.1 h]; have := HLE.out; unfold maxLen; omega)
                          have HS9 : Hid (∀ c' ∈ r.take (m + 1), c'.size ≤ 4096) := hid (fun c' hc' => by
                            rw [List.take_add_one, HRM.out] at hc'
                            rcases List.mem_append.1 hc' with h | h
                            · exact HS5.out c' h
                            · have h := List.mem_singleton.1 h
                              rw [h]; exact HLE.out)
                          clear hbl9 hown9 hbx
                          go_wp2_with (at_builtin; go_must (refine Lib.wpList_append_run _ rfl _ _ _ _ rfl _ _ rfl rfl _ Y9 hr ?_))
                          go_roundw
                          case rel => exact ⟨m + 1, val_int (by omega), hlt7, HST, HY, HS9⟩
                          case measure => simp [intOf]; omega
                    · have hmn : m = C.length := by omega
                      subst hmn
                      have hrl : r.length = C.length := HR2.out
                      have htk : r.take C.length = r := List.take_of_length_le (by omega)
                      rw [htk] at HO HS5
                      have HOR := hid (HO.out)
                      have HTW := hid (show (flatW T).take (k + 1) = (flatW T).take k ++ [r] by rw [List.take_add_one, HR1.out]; rfl)
                      have HEl : Hid (E.length = k) := hid (by have := congrArg List.length HEm.out; rw [List.length_map, List.length_take, HWL.out] at this; omega)
                      have hE5 : E.length ≤ 512 := by have := HEl.out; omega
                      have gz := (GE.out.onto HB5.out).onto (valloc_bel (Below.refl w5.heap.size w5) (.cells #[.slice orv (r.take C.length).length krv] 42))
                      rw [htk] at gz ⊢
                      obtain ⟨g9, cap9, Y, hr, hown9, hgr9⟩ := catR w3.heap.size _ (.slice ors E.length krs) (E.map (·.2)) E.length gz.row w5.heap.size (.slice orv r.length krv) rfl (by simp) gz.bel.size (by omega)
                      have gmore := gz.more (E' := [(r, .slice orv r.length krv)]) (fun e he => by rw [List.mem_singleton.1 he]; exact ownsRow_below (HOR.out.own.mono GE.out.bel.size) (valloc_bel (Below.refl _ _) _)) hown9 hgr9
                      have GM := hid gmore
                      clear gz gmore hown9 hgr9 hrl htk
                      go_wp2_with (at_builtin; go_must (refine Lib.wpList_append_run _ rfl _ _ _ _ rfl _ _ rfl rfl _ Y hr ?_))
                      go_roundw
                      case rel => exact ⟨k + 1, E ++ [(r, .slice orv r.length krv)], val_int (by omega), hlt6, GM, hid (by rw [List.map_append, HEm.out, HTW.out]; rfl), hid (fun r' hr' => by
                        rw [HTW.out] at hr'
                        rcases List.mem_append.1 hr' with h | h
                        · exact HRS.out r' h
                        · rw [List.mem_singleton.1 h]; exact HS5.out)⟩
                      case measure => simp [intOf]; omega
                · have hkn : k = T.ls.length := by omega
                  have hfl : flatL T = false := by
                    unfold flatL
                    rw [Bool.or_eq_false_iff]
                    constructor
                    · rw [List.any_eq_false]
                      intro c hc
                      unfold flatN at hc
                      rw [HCE.out] at hc
                      have := HSMN.out c hc
                      unfold longS
                      simp; omega
                    · rw [List.any_eq_false]
                      intro r hr hlr
                      unfold longR at hlr
                      rw [List.any_eq_true] at hlr
                      obtain ⟨c, hc, h⟩ := hlr
                      have := HRS.out r (by rw [List.take_of_length_le (by rw [HWL.out]; omega)]; exact hr) c hc
                      unfold longS at h
                      simp at h; omega
                  have HE0 := hid (show flatE T = 0 by rw [HFT.out, hfl]; rfl)
                  have HIN : Hid (InS w4 (flatH T) (.slice oh C.length kh)) := hid (by
                    unfold flatH; rw [HE0.out, if_pos rfl]
                    unfold flatN; rw [HCE.out]
                    exact (HN0.out.onto GE.out.bel).ins)
                  have HIR : Hid (InRs w4 (flatR T) (.slice ors E.length krs)) := hid (by
                    unfold flatR; rw [HE0.out, if_pos rfl]
                    have h1 : E.map (·.1) = flatW T := by rw [HEm.out, List.take_of_length_le (by rw [HWL.out]; omega)]
                    rw [← h1]
                    exact GE.out.inRs (fun e he c hc => by
                      have := HRS.out e.1 (by rw [← HEm.out]; exact List.mem_map.2 ⟨e, he, rfl⟩) c hc
                      unfold maxLen; omega))
                  have HBE := hid (vonto HB3.out GE.out.bel)
                  have g36 := keepCell GE.out.bel g34
                  clear hfl hkn
                  go_wp2_with fail
                  refine bodyPost_ret (v := .tuple #[.slice oh C.length kh, .slice ors E.length krs, .int .i64 0]) (by simp [results, Tryz.results18, go_sem]) rfl ?_
                  exact ⟨_, _, by rw [HE0.out], HIN.out, HIR.out, HBE.out⟩
end Go.Proofs.YtadbeodeiijhdaaGreatDoor
