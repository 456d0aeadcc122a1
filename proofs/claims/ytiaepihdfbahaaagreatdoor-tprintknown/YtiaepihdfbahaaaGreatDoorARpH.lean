/- The document's body, walked. -/
import Derived.Test.YtiaepihdfbahaaaGreatDoorAMathBl
import Derived.Test.YtiaepihdfbahaaaGreatDoorATqJ
import Derived.Test.YtiaepihdfbahaaaGreatDoorARpG
import Derived.Test.YtiaepihdfbahaaaGreatDoorARpC
namespace Go.Proofs.YtiaepihdfbahaaaGreatDoor
open Go.RowKit

def BdOk (N : Nat) : Prop := ∀ (T : VT) (x y : Value) (u v : ByteArray) (w : World), szT T ≤ N → HV w T x y → plainT T = true → wnT T → szT T ≤ 4096 → v.size + 24600 * (hgL T.vs + 1) ≤ 900000 → (bdT T u.data.toList v.data.toList).length ≤ 10000000000 →
    Calls Tryz.prog 28 #[vv T x y, .string u, .string v] w fun e w' => e = .returned (.string (mkS (bdT T u.data.toList v.data.toList))) ∧ Below w.heap.size w w'
theorem rpbox_of {w W : World} {a b c d e : Value} (h : W = w.alloc (.cells #[a, b, c, d, e] 27)) : W.cell? ⟨w.heap.size, 0, none⟩ = some a ∧ W.cell? ⟨w.heap.size, 1, none⟩ = some b ∧ W.cell? ⟨w.heap.size, 2, none⟩ = some c ∧ W.cell? ⟨w.heap.size, 3, none⟩ = some d ∧ W.cell? ⟨w.heap.size, 4, none⟩ = some e ∧ Below w.heap.size w W := by
  subst h
  obtain ⟨a0, a1, a2, a3, a4⟩ := tpbox w a b c d e
  exact ⟨a0, a1, a2, a3, a4, valloc_bel (Below.refl _ _) _⟩
theorem bdX_map {t : VT} (h : t.kd = 6) (s q : List UInt8) : bdX t s q = bdT t (hhB s (hd1 q)) q := by
  cases t with
  | mk k n u L K V =>
  have h : k = 6 := h
  rw [bdX, if_pos h, bdT]
theorem bdX_list {t : VT} (h6 : ¬ t.kd = 6) (s q : List UInt8) : bdX t s q = if dtbB t = true then bdL t.ls s q else s := by
  cases t with
  | mk k n u L K V =>
  have h : ¬ k = 6 := h6
  rw [bdX, if_neg h]; rfl
set_option maxRecDepth 100000 in
set_option maxHeartbeats 4000000 in
theorem body_map (N : Nat) (ih : BdOk N) (T : VT) (x y : Value) (u v : ByteArray) (w : World) (hN : szT T ≤ N + 1) (hT : HV w T x y) (hpl : plainT T = true) (hwn : wnT T) (hsz : szT T ≤ 4096) (hv : v.size + 24600 * (hgL T.vs + 1) ≤ 900000) (hlen : (bdT T u.data.toList v.data.toList).length ≤ 10000000000) :
    Calls Tryz.prog 28 #[vv T x y, .string u, .string v] w fun e w' => e = .returned (.string (mkS (bdT T u.data.toList v.data.toList))) ∧ Below w.heap.size w w' := by
  cases hT with
  | mk a b f g p q hk hn hs hL hM hK cL cK cM rL rM =>
  rename_i k n s L K V
  rw [plainT_eq] at hpl
  simp only [Bool.and_eq_true, VT.ls, VT.vs] at hpl
  obtain ⟨⟨hnode, hpL⟩, hpV⟩ := hpl
  simp only [vv, VT.kd, VT.nm, VT.st]
  rw [wnT] at hwn
  obtain ⟨hwn1, -, hwL, hwV⟩ := hwn
  simp only [VT.vs] at hv
  have hsz1 : szT (.mk k n s L K V) = 1 + szL L + szL V := by rw [szT]
  rw [hsz1] at hN hsz
  obtain ⟨oL, capL, rfl, hL1, hL2, hL3⟩ := hL
  obtain ⟨oM, capM, rfl, hM1, hM2, hM3⟩ := hM
  unfold maxLen at hL2 hM2
  rw [bdT] at hlen
  have HR := hid (show bdT (.mk k n s L K V) u.data.toList v.data.toList = bdM V K (plM V K u.data.toList) v.data.toList by rw [bdT])
  have hu : u.size ≤ 10000000000 := by
    have h1 := plM_ge V K u.data.toList
    have h2 := bdM_ge V K (plM V K u.data.toList) v.data.toList
    rw [size_list] at h1; omega
  have HLP : Hid (∀ j, (plM (V.take j) (K.take j) u.data.toList).length ≤ 10000000000) := hid (fun j => by
    have h2 := bdM_ge V K (plM V K u.data.toList) v.data.toList
    have e : plM V K u.data.toList = plM (V.drop j) (K.drop j) (plM (V.take j) (K.take j) u.data.toList) := by
      rw [← plM_app _ _ _ _ _ (by rw [List.length_take, List.length_take, hK]), List.take_append_drop, List.take_append_drop]
    have h3 := plM_ge (V.drop j) (K.drop j) (plM (V.take j) (K.take j) u.data.toList)
    rw [← e] at h3
    omega)
  obtain ⟨A, hA⟩ : ∃ A, w.alloc (.cells #[.int .i64 k, .int .i64 n, .string s, .slice oL L.length capL, .slice oM V.length capM] 27) = A := ⟨_, rfl⟩
  have HBA : Hid (Below w.heap.size w A) := hid (by rw [← hA]; exact valloc_bel (Below.refl _ _) _)
  have hAz : A.heap.size = w.heap.size + 1 := by rw [← hA]; simp
  have HBX := hid (fun (wr : World) (h : Below (w.heap.size + 1) A wr) (j : Nat) (u : Value) hj => box_cell w wr _ _ _ _ _ _ (by rw [hA]; exact h) j u hj)
  have CT := hid (fun (t : VT) (x y : Value) (X : World) (h : HV X t x y) => rptab_any t x y X h)
  have CI := hid (fun (t : VT) (x y : Value) (X : World) (h : HV X t x y) (hp : plainT t = true) (hl : (ivT t).length ≤ 1000000000) => inl_any (szT t) t x y X (Nat.le_refl _) h hp hl)
  have CK := hid (fun (c : ByteArray) X (h : c.size ≤ 100000) => rpkey_any c X h)
  have HPV := hid ((plainL_get V).1 hpV)
  have HWV := hid hwV
  have HKS : Hid (∀ c ∈ K, c.size ≤ 4096) := hid (keys_le hnode hK)
  go_enter Tryz.func28, Tryz.ntmps28
  go_upto_region 1 with fail
  clear hA
  go_wp2_with fail
  go_loopw [7, 8] (fun sv iv wr => ∃ (j : Nat) (m : ByteArray), j ≤ V.length ∧ iv = .int .i64 j ∧ sv = .string m ∧ m.size ≤ 10000000000 ∧ Hid (m = mkS (plM (V.take j) (K.take j) u.data.toList)) ∧ Hid (Below (w.heap.size + 1) A wr)) (fun _ iv _ => V.length - (intOf iv).toNat)
  case atStart => exact ⟨0, u, Nat.zero_le _, rfl, rfl, hu, (show u = _ by rw [List.take_zero, List.take_zero, plM]; exact mkS_of u _ rfl), Below.refl _ _⟩
  case round =>
    obtain ⟨j, m, hj, rfl, rfl, hms, HM, HB⟩ := hrel
    have hbw : Below w.heap.size w wr := HBA.out.trans (HB.out.mono (Nat.le_succ _))
    have hws := HB.out.size
    have b4 := HBX.out wr HB.out 4 _ rfl
    by_cases hlt : j < V.length
    · obtain rfl := hM3 (by omega)
      obtain ⟨t, ht⟩ : ∃ t, V[j]? = some t := ⟨V[j], List.getElem?_eq_getElem hlt⟩
      obtain ⟨c, hc⟩ : ∃ c, K[j]? = some c := ⟨K[j]'(by omega), List.getElem?_eq_getElem (by omega)⟩
      have hnd := (cM j t ht).onto hbw
      simp only [Node, nx] at hnd
      obtain ⟨d0, d1', d2', d3, d4⟩ := hnd
      obtain ⟨o1, n1, c1, o2, n2, c2, hp, hq⟩ := hv_slices (rM j t ht)
      rw [hp] at d3
      rw [hq] at d4
      have dk := keepCell hbw (cK j c hc).1
      have HNX := hid (pl_next u.data.toList ht hc)
      have HTV := hid (rM j t ht)
      rw [hp, hq] at HTV
      have HTP := hid (HPV.out j t ht)
      have HIL := hid (ivT_len t (HPV.out j t ht) (wnL_at V j t HWV.out ht))
      have hst1 := szL_get V j t ht
      have hcs0 : c.size ≤ 4096 := HKS.out c (List.mem_of_getElem? hc)
      have hcs : c.size ≤ 100000 := by omega
      have HLX := HLP.out (j + 1)
      rw [HNX.out] at HLX
      have HLX := hid HLX
      have HBw := hid hbw
      clear hp hq hbw
      by_cases k6 : t.kd = 6
      · have hz : plpB t c.data.toList (plM (V.take j) (K.take j) u.data.toList) = plM (V.take j) (K.take j) u.data.toList := by
          unfold plpB plnD; rw [decide_eq_true k6]; rfl
        rw [hz] at HNX
        rw [k6] at d0
        clear hz
        go_wp2_with fail
        go_roundw
        case rel => exact ⟨j + 1, m, hlt, val_int (by omega), rfl, hms, (show m = _ by rw [HNX.out]; exact HM.out), HB.out.trans ((valloc_bel (Below.refl _ _) _).mono (by omega))⟩
        case measure => simp [intOf]; omega
      · obtain ⟨k6a, k6b⟩ := ikey t.kd 6 k6
        obtain ⟨W, hW⟩ : ∃ W, wr.alloc (.cells #[.int .i64 t.kd, .int .i64 t.nm, .string t.st, .slice o1 n1 c1, .slice o2 n2 c2] 27) = W := ⟨_, rfl⟩
        obtain ⟨g0, g1, g2, g3, g4⟩ := tpbox wr (.int .i64 t.kd) (.int .i64 t.nm) (.string t.st) (.slice o1 n1 c1) (.slice o2 n2 c2)
        have hbW : Below wr.heap.size wr W := by rw [← hW]; exact valloc_bel (Below.refl _ _) _
        have HBW := hid (HB.out.trans (hbW.mono (by omega)))
        have HBV := hid (HBw.out.trans (hbW.mono (by have := HBw.out.size; omega)))
        have HDK := hid (keepCell hbW dk)
        have CT2 := hid (fun (X : World) (hX : Below W.heap.size W X) => CT.out t _ _ X (HTV.out.onto (HBV.out.trans (hX.mono (by have := HBV.out.size; omega)))))
        simp only [vv] at CT2
        have HPD : Hid (plnD t = !(decide (t.kd = 5) && tblB t)) := hid (by unfold plnD dtbB; rw [decide_eq_false k6]; rfl)
        obtain ⟨D, hD⟩ : ∃ D, (decide (t.kd = 5) && tblB t) = D := ⟨_, rfl⟩
        rw [hD] at CT2 HPD
        clear hD
        clear dk hbW
        have HW := hid hW
        clear hW
        go_wp2_with fail
        go_at_call 49
        rw [HW.out] at g0 g1 g2 g3 g4 ⊢
        refine (CT2.out _ (Below.refl _ _)).mono ?_
        rintro e w1 ⟨rfl, hb1⟩
        have dk := HDK.out
        have g0 := keepCell hb1 g0
        have g1 := keepCell hb1 g1
        have g2 := keepCell hb1 g2
        have g3 := keepCell hb1 g3
        have g4 := keepCell hb1 g4
        have dk := keepCell hb1 dk
        have HB1 := hid (HBW.out.trans (hb1.mono (by have := HBW.out.size; omega)))
        have HV1 := hid (HBV.out.trans (hb1.mono (by have := HBV.out.size; omega)))
        clear hb1 CT2
        have b4 := HBX.out w1 HB1.out 4 _ rfl
        cases D with
        | true =>
          have hz : plpB t c.data.toList (plM (V.take j) (K.take j) u.data.toList) = plM (V.take j) (K.take j) u.data.toList := by
            unfold plpB; rw [HPD.out]; rfl
          rw [hz] at HNX
          clear hz
          go_wp2_with fail
          go_roundw
          case rel => exact ⟨j + 1, m, hlt, val_int (by omega), rfl, hms, (show m = _ by rw [HNX.out]; exact HM.out), HB1.out⟩
          case measure => simp [intOf]; omega
        | false =>
          have hpp : plpB t c.data.toList (plM (V.take j) (K.take j) u.data.toList) = plM (V.take j) (K.take j) u.data.toList ++ (pkB c.data.toList ++ ([32, 61, 32] ++ (ivT t ++ [10]))) := by
            unfold plpB; rw [HPD.out]; rfl
          rw [hpp] at HNX
          have hll := HLX.out
          rw [hpp] at hll
          simp only [List.length_append] at hll
          clear hpp
          obtain ⟨pt, hpt⟩ : ∃ pt, mkS (ivT t) = pt := ⟨_, rfl⟩
          obtain ⟨qt, hqt⟩ : ∃ qt, mkS (pkB c.data.toList) = qt := ⟨_, rfl⟩
          have HPT := hid hpt
          have HQT := hid hqt
          have hil := HIL.out
          have hps : pt.size ≤ 1000000000 := by rw [← hpt, mkS_size]; omega
          have hqs : qt.size ≤ 10000000000 := by rw [← hqt, mkS_size]; omega
          have hinh := abv_some w1
          have KQ := hid (fun X : Abv w1 => CK.out c X.u hcs)
          have KP := hid (fun X : Abv w1 => CI.out t _ _ X.u (HTV.out.onto (vonto HV1.out X.h)) HTP.out (by have := HIL.out; omega))
          simp only [vv] at KP
          rw [hpt] at KP
          rw [hqt] at KQ
          clear hpt hqt hll
          have y0 := above_cell g0
          have y1 := above_cell g1
          have y2 := above_cell g2
          have y3 := above_cell g3
          have y4 := above_cell g4
          have yk := above_cell dk
          have z4 := above_cell b4
          clear g0 g1 g2 g3 g4 dk b4
          go_wp2_with fail
          refine wp_region_above (by kernel_rfl) (by kernel_rfl) ?_
          repeat (go_big_quiet_step ((first
            | (go_at_call 14; with_reducible exact above_of (KQ.out _))
            | (go_at_call 50; with_reducible exact above_of (KP.out _)))))
          refine wpQuiet_nil ?_
          intro _ hw'
          obtain ⟨X, hX⟩ := hw'
          subst hX
          go_wp2_with fail
          have hq : m ++ qt ++ (⟨#[32, 61, 32]⟩ : ByteArray) ++ pt ++ (⟨#[10]⟩ : ByteArray) = mkS (plM (V.take (j + 1)) (K.take (j + 1)) u.data.toList) := by
            rw [HNX.out, by_snoc (by_snoc (by_snoc (by_snoc HM.out HQT.out.symm) (show (⟨#[32, 61, 32]⟩ : ByteArray) = mkS [32, 61, 32] from rfl)) HPT.out.symm) (show (⟨#[10]⟩ : ByteArray) = mkS [10] from rfl)]
            simp only [List.append_assoc]
          refine ⟨⟨j + 1, _, hlt, val_int (by omega), rfl, (by rw [by_len hq]; exact HLP.out _), hq, HB1.out.trans (X.h.mono (by have := HB1.out.size; omega))⟩, ?_⟩
          simp [intOf]; omega
    · obtain rfl : j = V.length := by omega
      rw [List.take_length, ← hK, List.take_length] at HM
      obtain ⟨P, hP⟩ : ∃ P, plM V K u.data.toList = P := ⟨_, rfl⟩
      rw [hP] at HM HR hlen
      have HLQ : Hid (∀ j, (bdM (V.take j) (K.take j) P v.data.toList).length ≤ 10000000000) := hid (fun j => Nat.le_trans (bdM_take V K hK P v.data.toList j) hlen)
      have HHW := hid HB.out
      have hvz := size_list v
      have HIH : Hid (∀ (t : VT) (x y : Value) (a q : ByteArray) (X : World), (∃ i, V[i]? = some t) → HV X t x y → q.size ≤ v.size + 24600 → (bdT t a.data.toList q.data.toList).length ≤ 10000000000 → Calls Tryz.prog 28 #[vv t x y, .string a, .string q] X fun e w' => e = .returned (.string (mkS (bdT t a.data.toList q.data.toList))) ∧ Below X.heap.size X w') := hid (fun t x y a q X hii h hq hb => by
        obtain ⟨i, hi⟩ := hii
        have h1 := szL_get V i t hi
        have h2 := (hgL_get V _).1 (Nat.le_refl _) i t hi
        have h3 := hg_ls t
        exact ih t x y a q X (by omega) h ((plainL_get V).1 hpV i t hi) (wnL_at V i t hwV hi) (by omega) (by omega) hb)
      have HIL2 : Hid (∀ (t ti : VT) (x y : Value) (a q : ByteArray) (X : World), (∃ i, V[i]? = some t) → (∃ i, t.ls[i]? = some ti) → HV X ti x y → q.size ≤ v.size + 24600 → (bdT ti a.data.toList q.data.toList).length ≤ 10000000000 → Calls Tryz.prog 28 #[vv ti x y, .string a, .string q] X fun e w' => e = .returned (.string (mkS (bdT ti a.data.toList q.data.toList))) ∧ Below X.heap.size X w') := hid (fun t ti x y a q X hii hii2 h hq hb => by
        obtain ⟨i, hi⟩ := hii
        obtain ⟨i2, hi2⟩ := hii2
        have h1 := szL_get V i t hi
        have h2 := (hgL_get V _).1 (Nat.le_refl _) i t hi
        have h3 := hg_ls t
        have h4 := szL_get t.ls i2 ti hi2
        have h5 := (hgL_get t.ls _).1 (Nat.le_refl _) i2 ti hi2
        have h6 := sz_both t
        have h7 := hg_ls ti
        have hp := (plainL_get V).1 hpV i t hi
        rw [plainT_eq, Bool.and_eq_true, Bool.and_eq_true] at hp
        have hw := wnL_at V i t hwV hi
        have hwl : wnL t.ls := by
          cases t with
          | mk k n s L K V => rw [wnT] at hw; exact hw.2.2.1
        exact ih ti x y a q X (by omega) h ((plainL_get t.ls).1 hp.1.2 i2 ti hi2) (wnL_at t.ls i2 ti hwl hi2) (by omega) (by omega) hb)
      have HJP := hid (fun (c : ByteArray) (h : c.size ≤ 4096) => jp_le (p := v.data.toList) h)
      have HND : Hid (∀ (i : Nat) (t : VT), V[i]? = some t → (t.kd = 5 ∨ t.ls = []) ∧ plainT t = true) := hid (fun i t hi => by
        have hp := (plainL_get V).1 hpV i t hi
        refine ⟨?_, hp⟩
        cases t with
        | mk k n s L K V =>
          rw [plainT, Bool.and_eq_true, Bool.and_eq_true] at hp
          exact (node_len hp.1.1).1)
      have hvs : v.size ≤ 900000 := by omega
      rename_i wr0
      clear hlen hP HLP hbw ih hpV hwV hwL hpL hwn1 hN hsz hsz1 hv hnode hL3 cL rL
      go_wp2_with fail
      clear b4
      go_loopw [7, 10] (fun sv iv wx => ∃ (j : Nat) (m : ByteArray), j ≤ V.length ∧ iv = .int .i64 j ∧ sv = .string m ∧ m.size ≤ 10000000000 ∧ Hid (m = mkS (bdM (V.take j) (K.take j) P v.data.toList)) ∧ Hid (Below (w.heap.size + 1) A wx)) (fun _ iv _ => V.length - (intOf iv).toNat)
      case atStart => exact ⟨0, m, Nat.zero_le _, rfl, rfl, hms, (show m = _ by rw [List.take_zero, List.take_zero, bdM]; exact HM.out), HHW.out⟩
      case round =>
        obtain ⟨i, r, hi, rfl, rfl, hrs, HMr, HBr⟩ := hrel
        by_cases hlt : i < V.length
        · obtain rfl := hM3 (by omega)
          obtain ⟨t, ht⟩ : ∃ t, V[i]? = some t := ⟨V[i], List.getElem?_eq_getElem hlt⟩
          obtain ⟨c, hc⟩ : ∃ c, K[i]? = some c := ⟨K[i]'(by omega), List.getElem?_eq_getElem (by omega)⟩
          have b4 := HBX.out _ HBr.out 4 _ rfl
          have hbw := HBA.out.trans (HBr.out.mono (Nat.le_succ _))
          have hws := HBr.out.size
          have hnd := (cM i t ht).onto hbw
          simp only [Node, nx] at hnd
          obtain ⟨d0, d1', d2', d3, d4⟩ := hnd
          obtain ⟨ta, tb, tf, tg, tp, tq, o1, o2, c1, c2, hp, hq, hl1, hl2, hL3, -, -, -, -, -, tcL, -, -, trL, -, -, -⟩ := (rM i t ht).parts
          have HTV := hid (rM i t ht)
          rw [hp, hq] at HTV
          rw [hp] at d3
          rw [hq] at d4
          obtain ⟨n1, hn1⟩ : ∃ n, t.ls.length = n := ⟨_, rfl⟩
          obtain ⟨n2, hn2⟩ : ∃ n, t.vs.length = n := ⟨_, rfl⟩
          rw [hn1] at d3 HTV hl1 hL3
          rw [hn2] at d4 HTV
          have HN1 := hid hn1.symm
          have HTL := hid tcL
          have HTR := hid trL
          have HTA := hid hL3
          have dk := keepCell hbw (cK i c hc).1
          have HNX := hid (bd_next P v.data.toList ht hc)
          have HLX := HLQ.out (i + 1)
          rw [HNX.out] at HLX
          have HLX := hid HLX
          have hcs0 : c.size ≤ 4096 := HKS.out c (List.mem_of_getElem? hc)
          have hcs : c.size ≤ 100000 := by omega
          have HLV := hid (HND.out i t ht)
          have HCK := hid (fun X => CK.out c X hcs)
          obtain ⟨qt, hqt⟩ : ∃ qt, mkS (pkB c.data.toList) = qt := ⟨_, rfl⟩
          rw [hqt] at HCK
          have HQT := hid hqt
          have hjl := HJP.out c hcs0
          have hqz : qt.size ≤ 24600 := by rw [← hqt, mkS_size]; have := pk_le hcs0; omega
          have HIB := hid (fun (X : World) (h : HV X t (.slice o1 n1 c1) (.slice o2 n2 c2)) (a q : ByteArray) hq hb => HIH.out t _ _ a q X ⟨i, ht⟩ h hq hb)
          have HIE := hid (fun ti (x y : Value) (a q : ByteArray) (X : World) h1 h hq hb => HIL2.out t ti x y a q X ⟨i, ht⟩ h1 h hq hb)
          simp only [vv] at HIB HIE
          have CTT := hid (fun (X : World) (h : HV X t (.slice o1 n1 c1) (.slice o2 n2 c2)) => CT.out t _ _ X h)
          simp only [vv] at CTT
          have HVW := hid hbw
          clear hp hq hqt tcL trL hL3 hn1 hn2 hbw
          go_upto_region 12 with fail
          refine tpwp_gen ?_
          intro W hW
          obtain ⟨g0, g1, g2, g3, g4, hbW⟩ := rpbox_of hW
          have HBW := hid (HBr.out.trans (hbW.mono (by omega)))
          have HBV := hid (HVW.out.trans (hbW.mono (by have := HVW.out.size; omega)))
          have dk := keepCell hbW dk
          clear hW hbW d0 d1' d2' d3 d4 b4
          have b4 := HBX.out W HBW.out 4 _ rfl
          go_wp2_with fail
          go_at_call 14
          refine (HCK.out _).mono ?_
          rintro e w1 ⟨rfl, hb1⟩
          have HB1 := hid (HBW.out.trans (hb1.mono (by have := HBW.out.size; omega)))
          have HV1 := hid (HBV.out.trans (hb1.mono (by have := HBV.out.size; omega)))
          have g0 := keepCell hb1 g0
          have g1 := keepCell hb1 g1
          have g2 := keepCell hb1 g2
          have g3 := keepCell hb1 g3
          have g4 := keepCell hb1 g4
          clear hb1 HCK HBW HBV dk b4
          have b4 := HBX.out w1 HB1.out 4 _ rfl
          by_cases hv0 : v.size = 0
          · have hve := hid (z_eq hv0)
            have HJQ : Hid (qt = mkS (jpB v.data.toList c.data.toList)) := hid (by rw [hve.out, ← HQT.out]; rfl)
            have hjz : qt.size ≤ 1000000 := by omega
            have e0 : v.toList.isEmpty = true := emp_yes _ (by rw [hve.out])
            go_upto_region 15 with fail
            generalize qt = jq at HJQ hjz ⊢
            have hjl2 : jq.data.toList = (jpB v.data.toList c.data.toList) := by rw [HJQ.out, mkS_list]
            have hrl : r.data.toList = (bdM (V.take i) (K.take i) P v.data.toList) := by rw [HMr.out, mkS_list]
            have hjq2 : jq.size ≤ v.size + 24600 := by
              have h1 := size_list jq
              rw [hjl2] at h1
              omega
            by_cases k6 : t.kd = 6
            · have hls : t.ls = [] := (HLV.out.1).resolve_left (fun h => by rw [k6] at h; exact absurd h (by decide))
              have hn1 : n1 = 0 := by rw [HN1.out, hls]; rfl
              subst hn1
              have HXE := hid (bdX_map k6 (bdM (V.take i) (K.take i) P v.data.toList) (jpB v.data.toList c.data.toList))
              rw [HXE.out] at HNX HLX
              obtain ⟨hh, hhh⟩ : ∃ x, mkS (hhB r.data.toList (hd1 jq.data.toList)) = x := ⟨_, rfl⟩
              have hhl : hh.data.toList = hhB (bdM (V.take i) (K.take i) P v.data.toList) (hd1 (jpB v.data.toList c.data.toList)) := by rw [← hhh, mkS_list, hrl, hjl2]
              obtain ⟨bt, hbt⟩ : ∃ x, mkS (bdT t hh.data.toList jq.data.toList) = x := ⟨_, rfl⟩
              have HBT : Hid (bt = mkS (bdM (V.take (i + 1)) (K.take (i + 1)) P v.data.toList)) := hid (by rw [← hbt, HNX.out, hhl, hjl2])
              have hbz : bt.size ≤ 10000000000 := by rw [← hbt, mkS_size, hhl, hjl2]; exact HLX.out
              have KH := hid (fun X : Abv w1 => (rphead_any r ((⟨#[91]⟩ : ByteArray) ++ jq ++ (⟨#[93]⟩ : ByteArray)) X.u (by omega) (by rw [ByteArray.size_append, ByteArray.size_append]; show 1 + jq.size + 1 ≤ _; omega)).mono (fun e w' (h : e = _ ∧ w' = _) => show e = .returned (.string hh) ∧ Below X.u.heap.size X.u w' from ⟨by rw [h.1, hd1_is, hhh], by rw [h.2]; exact Below.refl _ _⟩))
              have KB := hid (fun X : Abv w1 => HIB.out X.u (HTV.out.onto (vonto HV1.out X.h)) hh jq hjq2 (by rw [hhl, hjl2]; exact HLX.out))
              rw [hbt] at KB
              rw [k6] at g0 KB
              clear hhh hbt hhl hjl2 hrl hls HXE HNX HLX HIB HIE CTT HTL HTR HTA HLV
              have y0 := above_cell g0
              have y1 := above_cell g1
              have y2 := above_cell g2
              have y3 := above_cell g3
              have y4 := above_cell g4
              have hinh := abv_some w1
              go_upto_region 16 with fail
              clear g0 g1 g2 g3 g4 b4
              refine wp_region_above (by kernel_rfl) (by kernel_rfl) ?_
              repeat (go_big_quiet_step ((first
                | (go_at_call 51; with_reducible exact above_of (KH.out _))
                | (go_at_call 28; with_reducible exact above_of (KB.out _)))))
              refine wpQuiet_nil ?_
              intro _ hw'
              obtain ⟨X, hX⟩ := hw'
              subst hX
              have g3 := y3 X
              have HXB := hid (HB1.out.trans (X.h.mono (by have := HB1.out.size; omega)))
              generalize X.u = XU at g3 HXB ⊢
              clear y0 y1 y2 y3 y4 KH KB hinh
              go_wp2_with fail
              go_loopw [7, 13] (fun sv kv wx => sv = .string bt ∧ kv = .int .i64 0 ∧ wx = XU) (fun _ _ _ => 0)
              case atStart => exact ⟨rfl, rfl, rfl⟩
              case round =>
                obtain ⟨rfl, rfl, rfl⟩ := hrel
                go_wp2_with fail
                go_roundw
                case rel => exact ⟨i + 1, bt, hlt, val_int (by omega), rfl, hbz, HBT.out, HXB.out⟩
                case measure => simp [intOf]; omega
            · obtain ⟨k6a, k6b⟩ := ikey t.kd 6 k6
              have HXE := hid (bdX_list k6 (bdM (V.take i) (K.take i) P v.data.toList) (jpB v.data.toList c.data.toList))
              rw [HXE.out] at HNX HLX
              have HDT : Hid (∀ D, dtbB t = D → ∀ X, HV X t (.slice o1 n1 c1) (.slice o2 n2 c2) → Calls Tryz.prog 49 #[.agg #[.int .i64 t.kd, .int .i64 t.nm, .string t.st, .slice o1 n1 c1, .slice o2 n2 c2]] X fun e w' => e = .returned (.bool D) ∧ Below X.heap.size X w') := hid (fun D hD X h => by rw [← hD]; exact CTT.out X h)
              cases hD : dtbB t with
              | false =>
                have CTB := hid (HDT.out false hD)
                rw [hD, if_neg (by decide)] at HNX HLX
                have HRN : Hid (r = mkS (bdM (V.take (i + 1)) (K.take (i + 1)) P v.data.toList)) := hid (by rw [HNX.out]; exact HMr.out)
                clear hjl2 hrl HXE HNX HLX HIB HIE CTT HTL HTR HTA HLV HDT hD
                go_wp2_with fail
                go_loopw [7, 13] (fun sv kv wx => sv = .string r ∧ kv = .int .i64 0 ∧ wx = w1) (fun _ _ _ => 0)
                case atStart => exact ⟨rfl, rfl, rfl⟩
                case round =>
                  obtain ⟨rfl, rfl, rfl⟩ := hrel
                  by_cases hn0 : n1 = 0
                  · subst hn0
                    go_wp2_with fail
                    go_roundw
                    case rel => exact ⟨i + 1, r, hlt, val_int (by omega), rfl, hrs, HRN.out, HB1.out⟩
                    case measure => simp [intOf]; omega
                  · have hn0p : 0 < n1 := by omega
                    have CT1 := hid (CTB.out _ (HTV.out.onto HV1.out))
                    go_wp2_with fail
                    go_at_call 49
                    refine CT1.out.mono ?_
                    rintro e w2 ⟨rfl, hb2⟩
                    have HB2 := hid (HB1.out.trans (hb2.mono (by have := HB1.out.size; omega)))
                    clear hb2 CT1
                    go_wp2_with fail
                    go_roundw
                    case rel => exact ⟨i + 1, r, hlt, val_int (by omega), rfl, hrs, HRN.out, HB2.out⟩
                    case measure => simp [intOf]; omega
              | true =>
                have CTB := hid (HDT.out true hD)
                rw [hD, if_pos rfl] at HNX HLX
                have HLB := hid (fun j => Nat.le_trans (bdL_take t.ls (bdM (V.take i) (K.take i) P v.data.toList) (jpB v.data.toList c.data.toList) j) HLX.out)
                have HLN := hid (fun j (ti : VT) h => bl_next (L := t.ls) (j := j) (t := ti) (bdM (V.take i) (K.take i) P v.data.toList) (jpB v.data.toList c.data.toList) h)
                have HLE : Hid (bdL (t.ls.take n1) (bdM (V.take i) (K.take i) P v.data.toList) (jpB v.data.toList c.data.toList) = bdM (V.take (i + 1)) (K.take (i + 1)) P v.data.toList) := hid (by rw [HNX.out, HN1.out, List.take_length])
                have HJL := hid hjl2
                have HR0 : Hid (r = mkS (bdL (t.ls.take 0) (bdM (V.take i) (K.take i) P v.data.toList) (jpB v.data.toList c.data.toList))) := hid (by rw [List.take_zero, bdL]; exact HMr.out)
                clear hjl2 hrl HXE HNX HLX HIB CTT HLV HDT hD
                go_wp2_with fail
                go_loopw [7, 13] (fun sv kv wx => ∃ (kk : Nat) (rr : ByteArray), kk ≤ n1 ∧ sv = .string rr ∧ kv = .int .i64 kk ∧ rr.size ≤ 10000000000 ∧ Hid (rr = mkS (bdL (t.ls.take kk) (bdM (V.take i) (K.take i) P v.data.toList) (jpB v.data.toList c.data.toList))) ∧ Hid (Below w1.heap.size w1 wx)) (fun _ kv _ => n1 - (intOf kv).toNat)
                case atStart => exact ⟨0, r, Nat.zero_le _, rfl, rfl, hrs, HR0.out, Below.refl _ _⟩
                case round =>
                  obtain ⟨kk, rr, hkk, rfl, rfl, hrr, HRR, HBX2⟩ := hrel
                  have hbx := HBX2.out
                  have g0 := keepCell hbx g0
                  have g1 := keepCell hbx g1
                  have g2 := keepCell hbx g2
                  have g3 := keepCell hbx g3
                  have g4 := keepCell hbx g4
                  by_cases hkl : kk < n1
                  · obtain ⟨ti, hti⟩ : ∃ ti, t.ls[kk]? = some ti := ⟨t.ls[kk]'(by rw [← HN1.out]; exact hkl), List.getElem?_eq_getElem (by rw [← HN1.out]; exact hkl)⟩
                    obtain rfl := HTA.out (by omega)
                    have CT1 := hid (CTB.out _ (HTV.out.onto (vonto HV1.out hbx)))
                    have hnd := (HTL.out kk ti hti).onto (vonto HV1.out hbx)
                    obtain ⟨s1, z1, x1, s2, z2, x2, hf, hg2⟩ := hv_slices (HTR.out kk ti hti)
                    have HTI := hid (HTR.out kk ti hti)
                    rw [hf, hg2] at HTI hnd
                    simp only [Node] at hnd
                    obtain ⟨d0, d1', d2', d3, d4⟩ := hnd
                    have hrl := by have := congrArg (fun x : ByteArray => x.data.toList) HRR.out; simpa only [mkS_list] using this
                    have HNK := hid (HLN.out kk ti hti)
                    have hlk := HLB.out (kk + 1)
                    rw [HNK.out] at hlk
                    obtain ⟨hh, hhh⟩ : ∃ x, mkS (hhB rr.data.toList (hd2 jq.data.toList)) = x := ⟨_, rfl⟩
                    have hhl : hh.data.toList = hhB (bdL (t.ls.take kk) (bdM (V.take i) (K.take i) P v.data.toList) (jpB v.data.toList c.data.toList)) (hd2 (jpB v.data.toList c.data.toList)) := by rw [← hhh, mkS_list, hrl, HJL.out]
                    obtain ⟨bt, hbt⟩ : ∃ x, mkS (bdT ti hh.data.toList jq.data.toList) = x := ⟨_, rfl⟩
                    have HBT : Hid (bt = mkS (bdL (t.ls.take (kk + 1)) (bdM (V.take i) (K.take i) P v.data.toList) (jpB v.data.toList c.data.toList))) := hid (by rw [← hbt, HNK.out, hhl, HJL.out])
                    have hbz : bt.size ≤ 10000000000 := by rw [← hbt, mkS_size, hhl, HJL.out]; exact hlk
                    have HE1 : Hid (∀ X, HV X ti (.slice s1 z1 x1) (.slice s2 z2 x2) → Calls Tryz.prog 28 #[.agg #[.int .i64 ti.kd, .int .i64 ti.nm, .string ti.st, .slice s1 z1 x1, .slice s2 z2 x2], .string hh, .string jq] X fun e w' => e = .returned (.string bt) ∧ Below X.heap.size X w') := hid (fun X h => by
                      have := HIE.out ti _ _ hh jq X ⟨kk, hti⟩ h hjq2 (by rw [hhl, HJL.out]; exact hlk)
                      rw [hbt] at this
                      exact this)
                    clear hf hg2 hti hrl hlk hbt hhl HNK
                    go_wp2_with fail
                    go_at_call 49
                    refine CT1.out.mono ?_
                    rintro e w2 ⟨rfl, hb2⟩
                    have g3 := keepCell hb2 g3
                    have d0 := keepCell hb2 d0
                    have d1' := keepCell hb2 d1'
                    have d2' := keepCell hb2 d2'
                    have d3 := keepCell hb2 d3
                    have d4 := keepCell hb2 d4
                    have HX2 := hid (vonto hbx hb2)
                    have KH := hid (fun X : Abv w2 => (rphead_any rr ((⟨#[91, 91]⟩ : ByteArray) ++ jq ++ (⟨#[93, 93]⟩ : ByteArray)) X.u (by omega) (by rw [ByteArray.size_append, ByteArray.size_append]; show 2 + jq.size + 2 ≤ _; omega)).mono (fun e w' (h : e = _ ∧ w' = _) => show e = .returned (.string hh) ∧ Below X.u.heap.size X.u w' from ⟨by rw [h.1, hd2_is, hhh], by rw [h.2]; exact Below.refl _ _⟩))
                    have KB := hid (fun X : Abv w2 => HE1.out X.u (HTI.out.onto (vonto (vonto HV1.out HX2.out) X.h)))
                    clear hhh hb2 CT1 hbx
                    have z3 := above_cell g3
                    have y0 := above_cell d0
                    have y1 := above_cell d1'
                    have y2 := above_cell d2'
                    have y3 := above_cell d3
                    have y4 := above_cell d4
                    have hinh := abv_some w2
                    clear g0 g1 g2 g3 g4 d0 d1' d2' d3 d4 b4
                    go_upto_region 20 with fail
                    refine wp_region_above (by kernel_rfl) (by kernel_rfl) ?_
                    repeat (go_big_quiet_step ((first
                      | (go_at_call 51; with_reducible exact above_of (KH.out _))
                      | (go_at_call 28; with_reducible exact above_of (KB.out _)))))
                    refine wpQuiet_nil ?_
                    intro _ hw'
                    obtain ⟨X, hX⟩ := hw'
                    subst hX
                    have HXB := hid (vonto HX2.out X.h)
                    go_wp2_with fail
                    go_roundw
                    case rel => exact ⟨kk + 1, bt, hkl, rfl, val_int (by omega), hbz, HBT.out, HXB.out⟩
                    case measure => simp [intOf]; omega
                  · obtain rfl : kk = n1 := by omega
                    have HRN : Hid (rr = mkS (bdM (V.take (i + 1)) (K.take (i + 1)) P v.data.toList)) := hid (by rw [← HLE.out]; exact HRR.out)
                    have HBF := hid (HB1.out.trans (hbx.mono (by have := HB1.out.size; omega)))
                    clear hbx
                    go_wp2_with fail
                    go_roundw
                    case rel => exact ⟨i + 1, rr, hlt, val_int (by omega), rfl, hrr, HRN.out, HBF.out⟩
                    case measure => simp [intOf]; omega
          · have HJQ : Hid (v ++ (⟨#[46]⟩ : ByteArray) ++ qt = mkS (jpB v.data.toList c.data.toList)) := hid (by
              unfold jpB
              rw [if_neg (by rw [size_list]; exact hv0), ← HQT.out]
              exact mkS_of _ _ (by simp only [tp_app, mkS_list]))
            have hjz : (v ++ (⟨#[46]⟩ : ByteArray) ++ qt).size ≤ 1000000 := by rw [ByteArray.size_append, ByteArray.size_append]; show v.size + 1 + qt.size ≤ _; omega
            have e0 := nz_seq hv0
            go_upto_region 15 with fail
            generalize v ++ (⟨#[46]⟩ : ByteArray) ++ qt = jq at HJQ hjz ⊢
            have hjl2 : jq.data.toList = (jpB v.data.toList c.data.toList) := by rw [HJQ.out, mkS_list]
            have hrl : r.data.toList = (bdM (V.take i) (K.take i) P v.data.toList) := by rw [HMr.out, mkS_list]
            have hjq2 : jq.size ≤ v.size + 24600 := by
              have h1 := size_list jq
              rw [hjl2] at h1
              omega
            by_cases k6 : t.kd = 6
            · have hls : t.ls = [] := (HLV.out.1).resolve_left (fun h => by rw [k6] at h; exact absurd h (by decide))
              have hn1 : n1 = 0 := by rw [HN1.out, hls]; rfl
              subst hn1
              have HXE := hid (bdX_map k6 (bdM (V.take i) (K.take i) P v.data.toList) (jpB v.data.toList c.data.toList))
              rw [HXE.out] at HNX HLX
              obtain ⟨hh, hhh⟩ : ∃ x, mkS (hhB r.data.toList (hd1 jq.data.toList)) = x := ⟨_, rfl⟩
              have hhl : hh.data.toList = hhB (bdM (V.take i) (K.take i) P v.data.toList) (hd1 (jpB v.data.toList c.data.toList)) := by rw [← hhh, mkS_list, hrl, hjl2]
              obtain ⟨bt, hbt⟩ : ∃ x, mkS (bdT t hh.data.toList jq.data.toList) = x := ⟨_, rfl⟩
              have HBT : Hid (bt = mkS (bdM (V.take (i + 1)) (K.take (i + 1)) P v.data.toList)) := hid (by rw [← hbt, HNX.out, hhl, hjl2])
              have hbz : bt.size ≤ 10000000000 := by rw [← hbt, mkS_size, hhl, hjl2]; exact HLX.out
              have KH := hid (fun X : Abv w1 => (rphead_any r ((⟨#[91]⟩ : ByteArray) ++ jq ++ (⟨#[93]⟩ : ByteArray)) X.u (by omega) (by rw [ByteArray.size_append, ByteArray.size_append]; show 1 + jq.size + 1 ≤ _; omega)).mono (fun e w' (h : e = _ ∧ w' = _) => show e = .returned (.string hh) ∧ Below X.u.heap.size X.u w' from ⟨by rw [h.1, hd1_is, hhh], by rw [h.2]; exact Below.refl _ _⟩))
              have KB := hid (fun X : Abv w1 => HIB.out X.u (HTV.out.onto (vonto HV1.out X.h)) hh jq hjq2 (by rw [hhl, hjl2]; exact HLX.out))
              rw [hbt] at KB
              rw [k6] at g0 KB
              clear hhh hbt hhl hjl2 hrl hls HXE HNX HLX HIB HIE CTT HTL HTR HTA HLV
              have y0 := above_cell g0
              have y1 := above_cell g1
              have y2 := above_cell g2
              have y3 := above_cell g3
              have y4 := above_cell g4
              have hinh := abv_some w1
              go_upto_region 16 with fail
              clear g0 g1 g2 g3 g4 b4
              refine wp_region_above (by kernel_rfl) (by kernel_rfl) ?_
              repeat (go_big_quiet_step ((first
                | (go_at_call 51; with_reducible exact above_of (KH.out _))
                | (go_at_call 28; with_reducible exact above_of (KB.out _)))))
              refine wpQuiet_nil ?_
              intro _ hw'
              obtain ⟨X, hX⟩ := hw'
              subst hX
              have g3 := y3 X
              have HXB := hid (HB1.out.trans (X.h.mono (by have := HB1.out.size; omega)))
              generalize X.u = XU at g3 HXB ⊢
              clear y0 y1 y2 y3 y4 KH KB hinh
              go_wp2_with fail
              go_loopw [7, 13] (fun sv kv wx => sv = .string bt ∧ kv = .int .i64 0 ∧ wx = XU) (fun _ _ _ => 0)
              case atStart => exact ⟨rfl, rfl, rfl⟩
              case round =>
                obtain ⟨rfl, rfl, rfl⟩ := hrel
                go_wp2_with fail
                go_roundw
                case rel => exact ⟨i + 1, bt, hlt, val_int (by omega), rfl, hbz, HBT.out, HXB.out⟩
                case measure => simp [intOf]; omega
            · obtain ⟨k6a, k6b⟩ := ikey t.kd 6 k6
              have HXE := hid (bdX_list k6 (bdM (V.take i) (K.take i) P v.data.toList) (jpB v.data.toList c.data.toList))
              rw [HXE.out] at HNX HLX
              have HDT : Hid (∀ D, dtbB t = D → ∀ X, HV X t (.slice o1 n1 c1) (.slice o2 n2 c2) → Calls Tryz.prog 49 #[.agg #[.int .i64 t.kd, .int .i64 t.nm, .string t.st, .slice o1 n1 c1, .slice o2 n2 c2]] X fun e w' => e = .returned (.bool D) ∧ Below X.heap.size X w') := hid (fun D hD X h => by rw [← hD]; exact CTT.out X h)
              cases hD : dtbB t with
              | false =>
                have CTB := hid (HDT.out false hD)
                rw [hD, if_neg (by decide)] at HNX HLX
                have HRN : Hid (r = mkS (bdM (V.take (i + 1)) (K.take (i + 1)) P v.data.toList)) := hid (by rw [HNX.out]; exact HMr.out)
                clear hjl2 hrl HXE HNX HLX HIB HIE CTT HTL HTR HTA HLV HDT hD
                go_wp2_with fail
                go_loopw [7, 13] (fun sv kv wx => sv = .string r ∧ kv = .int .i64 0 ∧ wx = w1) (fun _ _ _ => 0)
                case atStart => exact ⟨rfl, rfl, rfl⟩
                case round =>
                  obtain ⟨rfl, rfl, rfl⟩ := hrel
                  by_cases hn0 : n1 = 0
                  · subst hn0
                    go_wp2_with fail
                    go_roundw
                    case rel => exact ⟨i + 1, r, hlt, val_int (by omega), rfl, hrs, HRN.out, HB1.out⟩
                    case measure => simp [intOf]; omega
                  · have hn0p : 0 < n1 := by omega
                    have CT1 := hid (CTB.out _ (HTV.out.onto HV1.out))
                    go_wp2_with fail
                    go_at_call 49
                    refine CT1.out.mono ?_
                    rintro e w2 ⟨rfl, hb2⟩
                    have HB2 := hid (HB1.out.trans (hb2.mono (by have := HB1.out.size; omega)))
                    clear hb2 CT1
                    go_wp2_with fail
                    go_roundw
                    case rel => exact ⟨i + 1, r, hlt, val_int (by omega), rfl, hrs, HRN.out, HB2.out⟩
                    case measure => simp [intOf]; omega
              | true =>
                have CTB := hid (HDT.out true hD)
                rw [hD, if_pos rfl] at HNX HLX
                have HLB := hid (fun j => Nat.le_trans (bdL_take t.ls (bdM (V.take i) (K.take i) P v.data.toList) (jpB v.data.toList c.data.toList) j) HLX.out)
                have HLN := hid (fun j (ti : VT) h => bl_next (L := t.ls) (j := j) (t := ti) (bdM (V.take i) (K.take i) P v.data.toList) (jpB v.data.toList c.data.toList) h)
                have HLE : Hid (bdL (t.ls.take n1) (bdM (V.take i) (K.take i) P v.data.toList) (jpB v.data.toList c.data.toList) = bdM (V.take (i + 1)) (K.take (i + 1)) P v.data.toList) := hid (by rw [HNX.out, HN1.out, List.take_length])
                have HJL := hid hjl2
                have HR0 : Hid (r = mkS (bdL (t.ls.take 0) (bdM (V.take i) (K.take i) P v.data.toList) (jpB v.data.toList c.data.toList))) := hid (by rw [List.take_zero, bdL]; exact HMr.out)
                clear hjl2 hrl HXE HNX HLX HIB CTT HLV HDT hD
                go_wp2_with fail
                go_loopw [7, 13] (fun sv kv wx => ∃ (kk : Nat) (rr : ByteArray), kk ≤ n1 ∧ sv = .string rr ∧ kv = .int .i64 kk ∧ rr.size ≤ 10000000000 ∧ Hid (rr = mkS (bdL (t.ls.take kk) (bdM (V.take i) (K.take i) P v.data.toList) (jpB v.data.toList c.data.toList))) ∧ Hid (Below w1.heap.size w1 wx)) (fun _ kv _ => n1 - (intOf kv).toNat)
                case atStart => exact ⟨0, r, Nat.zero_le _, rfl, rfl, hrs, HR0.out, Below.refl _ _⟩
                case round =>
                  obtain ⟨kk, rr, hkk, rfl, rfl, hrr, HRR, HBX2⟩ := hrel
                  have hbx := HBX2.out
                  have g0 := keepCell hbx g0
                  have g1 := keepCell hbx g1
                  have g2 := keepCell hbx g2
                  have g3 := keepCell hbx g3
                  have g4 := keepCell hbx g4
                  by_cases hkl : kk < n1
                  · obtain ⟨ti, hti⟩ : ∃ ti, t.ls[kk]? = some ti := ⟨t.ls[kk]'(by rw [← HN1.out]; exact hkl), List.getElem?_eq_getElem (by rw [← HN1.out]; exact hkl)⟩
                    obtain rfl := HTA.out (by omega)
                    have CT1 := hid (CTB.out _ (HTV.out.onto (vonto HV1.out hbx)))
                    have hnd := (HTL.out kk ti hti).onto (vonto HV1.out hbx)
                    obtain ⟨s1, z1, x1, s2, z2, x2, hf, hg2⟩ := hv_slices (HTR.out kk ti hti)
                    have HTI := hid (HTR.out kk ti hti)
                    rw [hf, hg2] at HTI hnd
                    simp only [Node] at hnd
                    obtain ⟨d0, d1', d2', d3, d4⟩ := hnd
                    have hrl := by have := congrArg (fun x : ByteArray => x.data.toList) HRR.out; simpa only [mkS_list] using this
                    have HNK := hid (HLN.out kk ti hti)
                    have hlk := HLB.out (kk + 1)
                    rw [HNK.out] at hlk
                    obtain ⟨hh, hhh⟩ : ∃ x, mkS (hhB rr.data.toList (hd2 jq.data.toList)) = x := ⟨_, rfl⟩
                    have hhl : hh.data.toList = hhB (bdL (t.ls.take kk) (bdM (V.take i) (K.take i) P v.data.toList) (jpB v.data.toList c.data.toList)) (hd2 (jpB v.data.toList c.data.toList)) := by rw [← hhh, mkS_list, hrl, HJL.out]
                    obtain ⟨bt, hbt⟩ : ∃ x, mkS (bdT ti hh.data.toList jq.data.toList) = x := ⟨_, rfl⟩
                    have HBT : Hid (bt = mkS (bdL (t.ls.take (kk + 1)) (bdM (V.take i) (K.take i) P v.data.toList) (jpB v.data.toList c.data.toList))) := hid (by rw [← hbt, HNK.out, hhl, HJL.out])
                    have hbz : bt.size ≤ 10000000000 := by rw [← hbt, mkS_size, hhl, HJL.out]; exact hlk
                    have HE1 : Hid (∀ X, HV X ti (.slice s1 z1 x1) (.slice s2 z2 x2) → Calls Tryz.prog 28 #[.agg #[.int .i64 ti.kd, .int .i64 ti.nm, .string ti.st, .slice s1 z1 x1, .slice s2 z2 x2], .string hh, .string jq] X fun e w' => e = .returned (.string bt) ∧ Below X.heap.size X w') := hid (fun X h => by
                      have := HIE.out ti _ _ hh jq X ⟨kk, hti⟩ h hjq2 (by rw [hhl, HJL.out]; exact hlk)
                      rw [hbt] at this
                      exact this)
                    clear hf hg2 hti hrl hlk hbt hhl HNK
                    go_wp2_with fail
                    go_at_call 49
                    refine CT1.out.mono ?_
                    rintro e w2 ⟨rfl, hb2⟩
                    have g3 := keepCell hb2 g3
                    have d0 := keepCell hb2 d0
                    have d1' := keepCell hb2 d1'
                    have d2' := keepCell hb2 d2'
                    have d3 := keepCell hb2 d3
                    have d4 := keepCell hb2 d4
                    have HX2 := hid (vonto hbx hb2)
                    have KH := hid (fun X : Abv w2 => (rphead_any rr ((⟨#[91, 91]⟩ : ByteArray) ++ jq ++ (⟨#[93, 93]⟩ : ByteArray)) X.u (by omega) (by rw [ByteArray.size_append, ByteArray.size_append]; show 2 + jq.size + 2 ≤ _; omega)).mono (fun e w' (h : e = _ ∧ w' = _) => show e = .returned (.string hh) ∧ Below X.u.heap.size X.u w' from ⟨by rw [h.1, hd2_is, hhh], by rw [h.2]; exact Below.refl _ _⟩))
                    have KB := hid (fun X : Abv w2 => HE1.out X.u (HTI.out.onto (vonto (vonto HV1.out HX2.out) X.h)))
                    clear hhh hb2 CT1 hbx
                    have z3 := above_cell g3
                    have y0 := above_cell d0
                    have y1 := above_cell d1'
                    have y2 := above_cell d2'
                    have y3 := above_cell d3
                    have y4 := above_cell d4
                    have hinh := abv_some w2
                    clear g0 g1 g2 g3 g4 d0 d1' d2' d3 d4 b4
                    go_upto_region 20 with fail
                    refine wp_region_above (by kernel_rfl) (by kernel_rfl) ?_
                    repeat (go_big_quiet_step ((first
                      | (go_at_call 51; with_reducible exact above_of (KH.out _))
                      | (go_at_call 28; with_reducible exact above_of (KB.out _)))))
                    refine wpQuiet_nil ?_
                    intro _ hw'
                    obtain ⟨X, hX⟩ := hw'
                    subst hX
                    have HXB := hid (vonto HX2.out X.h)
                    go_wp2_with fail
                    go_roundw
                    case rel => exact ⟨kk + 1, bt, hkl, rfl, val_int (by omega), hbz, HBT.out, HXB.out⟩
                    case measure => simp [intOf]; omega
                  · obtain rfl : kk = n1 := by omega
                    have HRN : Hid (rr = mkS (bdM (V.take (i + 1)) (K.take (i + 1)) P v.data.toList)) := hid (by rw [← HLE.out]; exact HRR.out)
                    have HBF := hid (HB1.out.trans (hbx.mono (by have := HB1.out.size; omega)))
                    clear hbx
                    go_wp2_with fail
                    go_roundw
                    case rel => exact ⟨i + 1, rr, hlt, val_int (by omega), rfl, hrr, HRN.out, HBF.out⟩
                    case measure => simp [intOf]; omega
        · obtain rfl : i = V.length := by omega
          have b4 := HBX.out _ HBr.out 4 _ rfl
          rw [List.take_length, ← hK, List.take_length] at HMr
          go_wp2_with fail
          go_ret
          exact ⟨ret_st (by rw [HMr.out, HR.out]), HBA.out.trans (HBr.out.mono (Nat.le_succ _))⟩
theorem body_any : ∀ N : Nat, BdOk N
  | 0 => fun T x y u v w h => by have := szT_pos T; omega
  | N + 1 => fun T x y u v w h1 h2 h3 h4 h5 h6 h7 => body_map N (body_any N) T x y u v w h1 h2 h3 h4 h5 h6 h7
set_option maxRecDepth 100000 in
theorem rprint_any (T : VT) (x y : Value) (w : World) (hT : HV w T x y) (hp : plainT T = true) (hz : szT T ≤ 4096) (hh : hgT T ≤ 32) :
    Calls Tryz.prog 15 #[vv T x y] w fun e w' => e = .returned (.string (mkS (bdT T [] []))) ∧ Below w.heap.size w w' := by
  have hwn := hT.wn
  have hhs := hg_ls T
  have hlen : (bdT T [] []).length ≤ 10000000000 := by
    cases T with
    | mk k n s L K V =>
    have hs1 : szT (.mk k n s L K V) = 1 + szL L + szL V := by rw [szT]
    have hh1 : hgT (.mk k n s L K V) = 1 + max (hgL L) (hgL V) := by rw [hgT]
    rw [hs1] at hz
    rw [hh1] at hh
    rw [plainT, Bool.and_eq_true, Bool.and_eq_true] at hp
    rw [wnT] at hwn
    have p1 := plM_len V K [] hp.2 hwn.2.2.2 hwn.2.1 (keys_le hp.1.1 hwn.2.1)
    have p2 := bdM_len V K (plM V K []) [] hp.2 hwn.2.2.2 hwn.2.1 (keys_le hp.1.1 hwn.2.1) (by simp only [List.length_nil]; omega)
    simp only [List.length_nil] at p1
    rw [bdT]
    omega
  have CB := hid (fun X (hX : Below w.heap.size w X) => body_any (szT T) T x y ⟨#[]⟩ ⟨#[]⟩ X (Nat.le_refl _) (hT.onto hX) hp hwn hz (by show 0 + _ ≤ _; omega) hlen)
  obtain ⟨o1, n1, c1, o2, n2, c2, rfl, rfl⟩ := hv_slices hT
  simp only [vv] at CB ⊢
  have HB0 := hid (valloc_bel (Below.refl w.heap.size w) (.cells #[.int .i64 T.kd, .int .i64 T.nm, .string T.st, .slice o1 n1 c1, .slice o2 n2 c2] 27))
  obtain ⟨f0, f1, f2, f3, f4⟩ := tpbox w (.int .i64 T.kd) (.int .i64 T.nm) (.string T.st) (.slice o1 n1 c1) (.slice o2 n2 c2)
  clear hT hp hwn hhs hlen hz hh
  go_enter Tryz.func15, Tryz.ntmps15
  go_wp2_with fail
  go_at_call 28
  refine (CB.out _ HB0.out).mono ?_
  rintro e w1 ⟨rfl, hb1⟩
  have HB1 := hid (vonto HB0.out hb1)
  clear hb1 CB
  go_wp2_with fail
  go_ret
  exact ⟨rfl, HB1.out⟩
end Go.Proofs.YtiaepihdfbahaaaGreatDoor
