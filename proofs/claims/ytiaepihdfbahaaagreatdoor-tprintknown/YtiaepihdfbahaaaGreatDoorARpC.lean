/- The document's judge of what TOML has: trees. -/
import Derived.Test.YtiaepihdfbahaaaGreatDoorARpB
import Derived.Test.YtiaepihdfbahaaaGreatDoorATpC
namespace Go.Proofs.YtiaepihdfbahaaaGreatDoor
open Go.RowKit

theorem flt_run (l : List UInt8) : decide (run (nof [46, 101, 69]) l < l.length) = fltB l := by
  induction l with
  | nil => rfl
  | cons b t ih =>
    unfold fltB at ih ⊢
    rw [List.any_cons, ← ih]
    by_cases h : nof [46, 101, 69] b = true
    · rw [run_cpos h]
      have hb : decide (b.toNat = 46 ∨ b.toNat = 101 ∨ b.toNat = 69) = false := by
        unfold nof at h
        simp at h
        rw [decide_eq_false_iff_not]; omega
      rw [hb, Bool.false_or, decide_eq_decide]
      simp
    · have hf : nof [46, 101, 69] b = false := by simpa using h
      rw [run_cneg hf]
      have hb : decide (b.toNat = 46 ∨ b.toNat = 101 ∨ b.toNat = 69) = true := by
        unfold nof at hf
        simp at hf
        rw [decide_eq_true_iff]; omega
      rw [hb, Bool.true_or, decide_eq_true_iff]
      simp
/-- a node by itself -/
def preB (k : Int) (s : ByteArray) : Bool := if k = 0 then false else if k = 7 then (infB (unS s.data.toList) || stB s.data.toList) else if k = 3 then fltB s.data.toList else true
theorem node_len {k n : Int} {s : ByteArray} {L : List VT} {K : List ByteArray} {V : List VT} (h : nodeB (.mk k n s L K V) = true) : (k = 5 ∨ L = []) ∧ (k = 6 ∨ V = []) := by
  change nodeC k n (n == 0) s.toList.isEmpty ((L.length : Int) == 0) ((V.length : Int) == 0) (numB s.data.toList && !intB s.data.toList) (teI s == 0) (stampB s) (keysB K) = true at h
  unfold nodeC at h
  by_cases h5 : k = 5
  · refine ⟨Or.inl h5, Or.inr ?_⟩
    subst h5
    rw [if_neg (by decide), if_neg (by decide), if_neg (by decide), if_neg (by decide), if_neg (by decide), if_neg (by decide), if_pos rfl] at h
    simp only [Bool.and_eq_true, beq_iff_eq] at h
    exact List.eq_nil_of_length_eq_zero (by omega)
  · by_cases h6 : k = 6
    · refine ⟨Or.inr ?_, Or.inl h6⟩
      subst h6
      rw [if_neg (by decide), if_neg (by decide), if_neg (by decide), if_neg (by decide), if_neg (by decide), if_neg (by decide), if_neg (by decide), if_pos rfl] at h
      simp only [Bool.and_eq_true, beq_iff_eq] at h
      exact List.eq_nil_of_length_eq_zero (by omega)
    · have key : ((L.length : Int) == 0) = true ∧ ((V.length : Int) == 0) = true := by
        rw [if_neg h5, if_neg h6] at h
        repeat' (split at h)
        all_goals first
          | (simp only [Bool.and_eq_true] at h; exact ⟨h.1.2, h.2⟩)
          | (cases h)
      rw [beq_iff_eq, beq_iff_eq] at key
      exact ⟨Or.inr (List.eq_nil_of_length_eq_zero (by omega)), Or.inr (List.eq_nil_of_length_eq_zero (by omega))⟩
theorem sy_all {k n : Int} {s : ByteArray} {L : List VT} {K : List ByteArray} {V : List VT} (h : nodeB (.mk k n s L K V) = true) : syT (.mk k n s L K V) = (preB k s && (syL L && syL V)) := by
  obtain ⟨h1, h2⟩ := node_len h
  have e : syL [] = true := by simp [syL]
  simp only [syT]
  unfold preB
  by_cases k0 : k = 0
  · rw [if_pos k0, if_pos k0]; rfl
  rw [if_neg k0, if_neg k0]
  by_cases k3 : k = 3
  · have l1 : L = [] := h1.resolve_left (by omega)
    have l2 : V = [] := h2.resolve_left (by omega)
    rw [if_pos k3, if_neg (by omega), if_pos k3, l1, l2, e]; simp
  rw [if_neg k3]
  by_cases k7 : k = 7
  · have l1 : L = [] := h1.resolve_left (by omega)
    have l2 : V = [] := h2.resolve_left (by omega)
    rw [if_pos k7, if_pos k7, l1, l2, e, Bool.or_comm]; simp
  rw [if_neg k7, if_neg k7, if_neg k3]
  by_cases k5 : k = 5
  · have l2 : V = [] := h2.resolve_left (by omega)
    rw [if_pos k5, l2, e]; simp
  rw [if_neg k5]
  have l1 : L = [] := h1.resolve_left k5
  by_cases k6 : k = 6
  · rw [if_pos k6, l1, e]; simp
  · have l2 : V = [] := h2.resolve_left k6
    rw [if_neg k6, l1, l2, e]; simp
set_option maxRecDepth 100000 in
set_option maxHeartbeats 4000000 in
theorem rpmay_in : ∀ (N : Nat) (T : VT) (x y : Value) (w : World), szT T ≤ N → HV w T x y → plainT T = true →
    Calls Tryz.prog 22 #[vv T x y] w fun e w' => e = .returned (.bool (syT T)) ∧ Below w.heap.size w w' := by
  intro N
  induction N with
  | zero => intro T x y w h; have := szT_pos T; omega
  | succ N ih =>
  intro T x y w hN hT hpl
  cases hT with
  | mk a b f g p q hk hn hs hL hM hK cL cK cM rL rM =>
  rename_i k n s L K V
  rw [plainT_eq] at hpl
  simp only [Bool.and_eq_true, VT.ls, VT.vs] at hpl
  obtain ⟨⟨hnode, hpL⟩, hpV⟩ := hpl
  have hsz : szT (.mk k n s L K V) = 1 + szL L + szL V := by simp only [szT]
  rw [hsz] at hN
  have HPL := hid ((plainL_get L).1 hpL)
  have HPV := hid ((plainL_get V).1 hpV)
  rw [sy_all hnode]
  simp only [vv, VT.kd, VT.nm, VT.st]
  obtain ⟨oL, capL, rfl, hL1, hL2, hL3⟩ := hL
  obtain ⟨oM, capM, rfl, hM1, hM2, hM3⟩ := hM
  unfold maxLen at hL2 hM2
  obtain ⟨pr, hpr⟩ : ∃ pr, preB k s = pr := ⟨_, rfl⟩
  have CT := hid (fun (h : k = 7) X => rptoml_any s X (by subst h; have := node_stamp hnode; omega))
  have CF := hid (fun (h : k = 3) X => rpfloat_any s X (by
    subst h
    have hnum := node_num hnode
    unfold numB at hnum; simp only [Bool.and_eq_true, decide_eq_true_eq] at hnum; rw [size_list] at hnum; omega))
  rw [← size_list, flt_run] at CF
  have HPR := hid hpr
  unfold preB at HPR
  rw [hpr]
  obtain ⟨R, hR⟩ : ∃ R, (pr && (syL L && syL V)) = R := ⟨_, rfl⟩
  have HR := hid hR
  rw [hR]
  clear hR
  obtain ⟨A, hA⟩ : ∃ A, w.alloc (.cells #[.int .i64 k, .int .i64 n, .string s, .slice oL L.length capL, .slice oM V.length capM] 27) = A := ⟨_, rfl⟩
  have HBA : Hid (Below w.heap.size w A) := hid (by rw [← hA]; exact valloc_bel (Below.refl _ _) _)
  have hAz : A.heap.size = w.heap.size + 1 := by rw [← hA]; simp
  have HBX := hid (fun (wr : World) (h : Below (w.heap.size + 1) A wr) (j : Nat) (u : Value) hj => box_cell w wr _ _ _ _ _ _ (by rw [hA]; exact h) j u hj)
  clear hpr hnode hpL hpV hsz
  go_enter Tryz.func22, Tryz.ntmps22
  go_upto_region 1 with fail
  have b0 := HBX.out A (Below.refl _ _) 0 _ rfl
  have b2 := HBX.out A (Below.refl _ _) 2 _ rfl
  clear hA
  go_cut [29] (fun v wx => v = .bool (!pr) ∧ Hid (Below (w.heap.size + 1) A wx))
  case first => as_aux_lemma =>
    by_cases k0 : k = 0
    · have hp : pr = false := by rw [← HPR.out, if_pos k0]
      subst hp k0
      go_wp2_with fail
      go_meet
      exact ⟨rfl, Below.refl _ _⟩
    obtain ⟨k0a, k0b⟩ := ikey k 0 k0
    rw [if_neg k0] at HPR
    by_cases k7 : k = 7
    · subst k7
      rw [if_pos rfl] at HPR
      have C1 := hid (CT.out rfl)
      rw [HPR.out] at C1
      clear CT CF
      cases pr
      · go_wp2_with fail
        go_at_call 41
        refine (C1.out _).mono ?_
        rintro e w1 ⟨rfl, hb1⟩
        rw [hAz] at hb1
        replace b0 := HBX.out w1 hb1 0 _ rfl
        have HB1 := hid hb1
        clear hb1
        go_wp2_with fail
        go_meet
        exact ⟨rfl, HB1.out⟩
      · go_wp2_with fail
        go_at_call 41
        refine (C1.out _).mono ?_
        rintro e w1 ⟨rfl, hb1⟩
        rw [hAz] at hb1
        replace b0 := HBX.out w1 hb1 0 _ rfl
        have HB1 := hid hb1
        clear hb1
        go_wp2_with fail
        go_meet
        exact ⟨rfl, HB1.out⟩
    obtain ⟨k7a, k7b⟩ := ikey k 7 k7
    rw [if_neg k7] at HPR
    by_cases k3 : k = 3
    · subst k3
      rw [if_pos rfl] at HPR
      have C1 := hid (CF.out rfl)
      rw [HPR.out] at C1
      clear CT CF
      cases pr
      · go_wp2_with fail
        go_at_call 42
        refine (C1.out _).mono ?_
        rintro e w1 ⟨rfl, hb1⟩
        rw [hAz] at hb1
        have HB1 := hid hb1
        clear hb1
        go_wp2_with fail
        go_meet
        exact ⟨rfl, HB1.out⟩
      · go_wp2_with fail
        go_at_call 42
        refine (C1.out _).mono ?_
        rintro e w1 ⟨rfl, hb1⟩
        rw [hAz] at hb1
        have HB1 := hid hb1
        clear hb1
        go_wp2_with fail
        go_meet
        exact ⟨rfl, HB1.out⟩
    obtain ⟨k3a, k3b⟩ := ikey k 3 k3
    rw [if_neg k3] at HPR
    have hp : pr = true := HPR.out.symm
    subst hp
    go_wp2_with fail
    go_meet
    exact ⟨rfl, Below.refl _ _⟩
  case rest =>
  obtain ⟨rfl, HBc⟩ := hcut
  clear b0 b2 CT CF HPR
  cases pr with
  | false =>
    have HFa : Hid (R = false) := hid (by rw [← HR.out]; rfl)
    go_wp2_with fail
    go_ret
    exact ⟨by rw [HFa.out]; rfl, HBA.out.trans (HBc.out.mono (Nat.le_succ _))⟩
  | true =>
  rw [Bool.true_and] at HR
  simp only [Bool.not_true]
  go_wp2_with fail
  go_loopw [3] (fun i wr => ∃ j : Nat, j ≤ L.length ∧ i = .int .i64 j ∧ Hid (Below (w.heap.size + 1) A wr) ∧ Hid (syL (L.take j) = true)) (fun i _ => L.length - (intOf i).toNat)
  case atStart => exact ⟨0, Nat.zero_le _, rfl, HBc.out, rfl⟩
  case round =>
    clear HBc
    obtain ⟨j, hj, rfl, HB, HA⟩ := hrel
    have b3 := HBX.out wr HB.out 3 _ rfl
    have hbw : Below w.heap.size w wr := HBA.out.trans (HB.out.mono (Nat.le_succ _))
    by_cases hlt : j < L.length
    · obtain ⟨t, ht⟩ : ∃ t, L[j]? = some t := ⟨L[j], List.getElem?_eq_getElem hlt⟩
      obtain rfl := hL3 (by omega)
      obtain ⟨d0, d1, d2, d3, d4⟩ := (cL j t ht).onto hbw
      obtain ⟨o1, n1, c1, o2, n2, c2, hp, hq⟩ := hv_slices (rL j t ht)
      have HRr := hid ((rL j t ht).onto hbw)
      rw [hp, hq] at HRr
      rw [hp] at d3
      rw [hq] at d4
      have hszs := szL_take_succ L j t ht
      have hsl1 := szL_take_le L (j + 1)
      have HT := hid (syL_take L j t ht)
      have HX := hid (fun h => syL_no L j t ht h)
      have C1 := hid (ih t _ _ wr (by omega) HRr.out (HPL.out j t ht))
      simp only [vv] at C1
      generalize syT t = q at *
      have hws := HB.out.size
      clear hp hq
      cases q with
      | true =>
        go_wp2_with fail
        go_at_call 22
        refine C1.out.mono ?_
        rintro e w1 ⟨rfl, hb1⟩
        have HB1 := hid (HB.out.trans (hb1.mono (by omega)))
        clear hb1 C1
        go_wp2_with fail
        go_round
        case rel => exact ⟨j + 1, hlt, val_int (by omega), HB1.out, by rw [HT.out, HA.out]; rfl⟩
        case measure => simp [intOf]; omega
      | false =>
        have HFa : Hid (R = false) := hid (by rw [← HR.out, HX.out rfl]; rfl)
        have HBW := hid hbw
        go_wp2_with fail
        go_at_call 22
        refine C1.out.mono ?_
        rintro e w1 ⟨rfl, hb1⟩
        have HB1 := hid (vonto HBW.out hb1)
        clear hb1 C1
        go_wp2_with fail
        go_ret
        exact ⟨by rw [HFa.out]; rfl, HB1.out⟩
    · obtain rfl : j = L.length := by omega
      rw [List.take_length] at HA
      clear hbw hj hlt
      go_wp2_with fail
      clear b3
      go_loopw [4] (fun i wr => ∃ j : Nat, j ≤ V.length ∧ i = .int .i64 j ∧ Hid (Below (w.heap.size + 1) A wr) ∧ Hid (syL (V.take j) = true)) (fun i _ => V.length - (intOf i).toNat)
      case atStart => exact ⟨0, Nat.zero_le _, rfl, HB.out, rfl⟩
      case round =>
        clear HB
        obtain ⟨j, hj, rfl, HB, HAV⟩ := hrel
        have b4 := HBX.out wr HB.out 4 _ rfl
        have hbw : Below w.heap.size w wr := HBA.out.trans (HB.out.mono (Nat.le_succ _))
        by_cases hlt : j < V.length
        · obtain ⟨t, ht⟩ : ∃ t, V[j]? = some t := ⟨V[j], List.getElem?_eq_getElem hlt⟩
          obtain ⟨c, hc⟩ : ∃ c, K[j]? = some c := ⟨K[j], List.getElem?_eq_getElem (by omega)⟩
          obtain rfl := hM3 (by omega)
          have hnode := (cM j t ht).onto hbw
          simp only [Node, nx] at hnode
          obtain ⟨d0, d1, d2, d3, d4⟩ := hnode
          have e0 := keepCell hbw (cK j c hc).1
          obtain ⟨o1, n1, c1, o2, n2, c2, hp, hq⟩ := hv_slices (rM j t ht)
          have HRr := hid ((rM j t ht).onto hbw)
          rw [hp, hq] at HRr
          rw [hp] at d3
          rw [hq] at d4
          have hszs := szL_take_succ V j t ht
          have hsl1 := szL_take_le V (j + 1)
          have HT := hid (syL_take V j t ht)
          have HX := hid (fun h => syL_no V j t ht h)
          have C1 := hid (ih t _ _ wr (by omega) HRr.out (HPV.out j t ht))
          simp only [vv] at C1
          generalize syT t = q at *
          have hws := HB.out.size
          clear hp hq
          cases q with
          | true =>
            go_wp2_with fail
            go_at_call 22
            refine C1.out.mono ?_
            rintro e w1 ⟨rfl, hb1⟩
            have HB1 := hid (HB.out.trans (hb1.mono (by omega)))
            clear hb1 C1
            go_wp2_with fail
            go_round
            case rel => exact ⟨j + 1, hlt, val_int (by omega), HB1.out, by rw [HT.out, HAV.out]; rfl⟩
            case measure => simp [intOf]; omega
          | false =>
            have HFa : Hid (R = false) := hid (by rw [← HR.out, HX.out rfl, Bool.and_false])
            have HBW := hid hbw
            go_wp2_with fail
            go_at_call 22
            refine C1.out.mono ?_
            rintro e w1 ⟨rfl, hb1⟩
            have HB1 := hid (vonto HBW.out hb1)
            clear hb1 C1
            go_wp2_with fail
            go_ret
            exact ⟨by rw [HFa.out]; rfl, HB1.out⟩
        · obtain rfl : j = V.length := by omega
          rw [List.take_length] at HAV
          have HTr : Hid (R = true) := hid (by rw [← HR.out, HA.out, HAV.out]; rfl)
          have HBW := hid hbw
          go_wp2_with fail
          go_ret
          exact ⟨by rw [HTr.out]; rfl, HBW.out⟩
end Go.Proofs.YtiaepihdfbahaaaGreatDoor
