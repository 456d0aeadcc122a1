import Derived.Test.YtjbccmnmcjmooaaDoorCrF
/- cread's reader: a row. -/
namespace Go.Proofs.YtjbccmnmcjmooaaDoor
open Go.RowKit

/-- fields, as values -/
def fvs (fs : List (List UInt8)) : List Value := fs.map (fun s => Value.string (mkS s))
/-- what reading a row ends in -/
def Ro (t : ByteArray) (b : Nat) (w : World) (R : CRR) (e : Ending) (w' : World) : Prop := match R with
  | .ok fs r => ∃ v, e = .returned v ∧ w'.ownsRow w.heap.size 9 1 v fs.length (fvs fs) ∧ Cr w' b t (t.size - r.length) ∧ Own b w w' ∧ 1 ≤ fs.length ∧ fs.length ≤ 64
  | .bad er r => cFaulted t er (t.size - r.length) e ∧ Own b w w'
theorem Tryd.cinfo_str : (Tryd.prog.info? 9).map (fun i => (i.zero, i.size, i.bytes)) = some (some (.string ⟨#[]⟩), 1, 16) := by kernel_rfl
theorem crow_new (w : World) (base : Nat) (u : Value) (ty : TypeId) (hb : base ≤ w.heap.size) : (w.alloc (.cells #[u] ty)).ownsRow base ty 1 (.slice (some ⟨w.heap.size, 0, none⟩) 1 1) 1 [u] :=
  ⟨rfl, Or.inr ⟨w.heap.size, 1, #[u], rfl, hb, heap_alloc_new w _, Nat.le_refl _, by unfold maxLen; omega, rfl, rfl⟩⟩
theorem crwL_step (F : List UInt8 → CFR) (g : Nat) (fs : List (List UInt8)) (r : List UInt8) : crwL F (g + 1) fs r = if r.head? = some 44 then (if fs.length = 64 then .bad 2 r.tail else match F r.tail with | .ok s q => crwL F g (fs ++ [s]) q | .bad e x => .bad e x)
    else if endB r = true then .ok fs (r.drop (endN r)) else .bad 4 r := rfl
theorem drop_pos {T : List UInt8} {k : Nat} {L : List UInt8} (h : T.drop k = L) (hk : k ≤ T.length) (p r : List UInt8) (e : L = p ++ r) : T.drop (T.length - r.length) = r := by
  have hl : L.length = T.length - k := by rw [← h, List.length_drop]
  have h2 : L.length = p.length + r.length := by rw [e, List.length_append]
  rw [show T.length - r.length = k + p.length by omega, ← List.drop_drop, h, e]; simp
set_option maxRecDepth 100000 in
set_option maxHeartbeats 8000000 in
theorem crow_any (b : Nat) (t : ByteArray) (k : Nat) (w : World) (h : Cr w b t k) (hk : k ≤ t.size) (hs : t.size ≤ 65536) :
    Calls Tryd.prog 38 #[.pointer (some ⟨b, 0, none⟩)] w (Ro t b w (crwF fldP (t.data.toList.drop k))) := by
  obtain ⟨T, hT⟩ : ∃ T, t.data.toList = T := ⟨_, rfl⟩
  have HT := hid hT
  have hTl : T.length = t.size := by rw [← hT, size_list]
  have CF := hid (cfield_any b t k w h hk hs)
  rw [hT] at CF ⊢
  obtain ⟨R0, hR0⟩ : ∃ R0, crwF fldP (T.drop k) = R0 := ⟨_, rfl⟩
  rw [hR0]
  have hbw := h.row.lt
  obtain ⟨i0, hi, hz0, hz1, hz2⟩ := info_parts Tryd.cinfo_str
  clear h hT
  go_enter Tryd.func38, Tryd.ntmps38
  go_wp2_with fail
  go_at_call 52
  refine CF.out.mono ?_
  intro e w1 hp
  unfold crwF at hR0
  cases hf : fldP (T.drop k) with
  | bad er r =>
    rw [hf] at hR0 hp
    simp only at hR0
    obtain ⟨hfa, ho1⟩ := hp
    have HPP : Hid (Ro t b w R0 e w1) := hid (by rw [← hR0]; exact ⟨hfa, ho1⟩)
    unfold cFaulted at hfa
    subst hfa
    generalize faultV t ((t.size - r.length : Nat) : Int) ((er : Nat) : Int) = fv at HPP ⊢
    clear ho1 CF hf hR0
    go_wp2_with fail
    first
    | exact HPP.out
    | exact ⟨rfl, HPP.out⟩
    | (simp only [bodyPost]; exact HPP.out)
  | ok s r =>
    rw [hf] at hR0 hp
    simp only at hR0
    obtain ⟨rfl, hc1, ho1⟩ := hp
    obtain ⟨hsl, p, hpr⟩ := (fldP_tail _).1 s r hf
    have HDR := hid (show T.drop (t.size - r.length) = r by rw [← hTl]; exact drop_pos rfl (by omega) p r hpr)
    have HC1 := hid hc1
    have HO1 := hid ho1
    have HR := hid hR0.symm
    have hs1 := ho1.size
    have hrl : r.length ≤ t.size := by
      have := congrArg List.length hpr
      rw [List.length_drop, List.length_append] at this; omega
    obtain ⟨m, hm⟩ : ∃ m, mkS s = m := ⟨_, rfl⟩
    have HMS := hid hm
    rw [hm]
    clear CF hc1 ho1 hf hR0 hpr hm
    go_upto_region 2 with fail
    refine cwp_gen ?_
    intro W hW
    have hbW : Below w1.heap.size w1 W := by rw [hW]; exact valloc_bel (Below.refl _ _) _
    have HC2 := hid (HC1.out.onto hbW)
    have HO2 := hid (HO1.out.trans (Own.of hbW))
    have HW2 : Hid (W.ownsRow w.heap.size 9 1 (.slice (some ⟨w1.heap.size, 0, none⟩) 1 1) 1 (fvs [s])) := hid (by rw [hW]; show World.ownsRow _ _ _ _ _ _ [.string (mkS s)]; rw [HMS.out]; exact crow_new w1 _ _ _ hs1)
    clear hW hbW HC1 HO1 HMS
    go_loopg [3] t.size (fun gk v wr => ∃ (fs : List (List UInt8)) (k' g : Nat), k' ≤ t.size ∧ t.size ≤ k' + gk ∧ t.size - k' < g ∧ 1 ≤ fs.length ∧ fs.length ≤ 64 ∧ Hid (Cr wr b t k') ∧ Hid (Own b w wr) ∧ Hid (wr.ownsRow w.heap.size 9 1 v fs.length (fvs fs)) ∧ Hid (R0 = crwL fldP g fs (T.drop k')))
    case atStart => exact ⟨[s], t.size - r.length, r.length + 1, by omega, by omega, by omega, by simp, by simp, HC2, HO2, HW2, hid (by rw [HDR.out]; exact HR.out)⟩
    case round =>
      obtain ⟨fs, k', g, hk', hg, hgf, hf1, hf64, HC', HO', HW', HR'⟩ := hrel
      clear HC2 HO2 HW2 HR HDR
      obtain ⟨g1, rfl⟩ : ∃ g1, g = g1 + 1 := ⟨g - 1, by omega⟩
      obtain ⟨L, hL⟩ : ∃ L, T.drop k' = L := ⟨_, rfl⟩
      have HL := hid hL
      have hLl : L.length = t.size - k' := by rw [← hL, List.length_drop, hTl]
      rw [hL, crwL_step] at HR'
      clear hL
      have hs' := HO'.out.size
      obtain ⟨c3, hv3⟩ : ∃ c, u3 = .slice (u3.ownBlock.map (fun b => ⟨b, 0, none⟩)) fs.length c := by
        rcases HW'.out.2 with ⟨rfl, hn⟩ | ⟨gg, cap, cur, rfl, -⟩
        · exact ⟨0, by rw [hn]; rfl⟩
        · exact ⟨cap, rfl⟩
      by_cases h44 : L.head? = some 44
      · rw [if_pos h44] at HR'
        have hl0 : 0 < L.length := by cases L with | nil => simp at h44 | cons a l => simp
        have CP := hid (cpasses_yes b t ⟨#[44]⟩ k' wr HC'.out hk' (by omega) (by decide) (by rw [HT.out, HL.out]; exact (hasP_one _ _).trans (decide_eq_true h44)))
        have e1 : (⟨#[44]⟩ : ByteArray).size = 1 := rfl
        rw [e1] at CP
        have HT1 : Hid (T.drop (k' + 1) = L.tail) := hid (by rw [← List.drop_drop, HL.out]; simp)
        have htl : L.tail.length = t.size - (k' + 1) := by simp; omega
        clear h44 e1
        have HV3 := hid hv3
        obtain ⟨ob, hob⟩ : ∃ ob, u3.ownBlock.map (fun b => (⟨b, 0, none⟩ : Addr)) = ob := ⟨_, rfl⟩
        rw [hob] at hv3
        subst hv3
        clear HV3 hob
        go_wp2_with fail
        go_at_call 53
        refine CP.out.mono ?_
        rintro e w2 ⟨rfl, hc2, ho2⟩
        have HC2 := hid hc2
        have HO2 := hid (HO'.out.trans ho2)
        have HW2 := hid (own_row_far HW'.out ho2 hbw)
        have hs2 := HO2.out.size
        clear CP hc2 ho2 HC' HO' HW' hs'
        by_cases h64 : fs.length = 64
        · rw [if_pos h64] at HR'
          have h64b : ((fs.length : Int) == 64) = true := by rw [h64]; rfl
          have CR := hid (crefuse_any b t (k' + 1) (k' + 1) 2 w2 HC2.out (by omega))
          have r1 := HC2.out.r1
          clear h64
          go_wp2_with fail
          go_at_call 36
          refine CR.out.mono ?_
          rintro e w3 ⟨hfa, hb9⟩
          have HPP : Hid (Ro t b w R0 e w3) := hid (by rw [HR'.out]; exact ⟨by rw [htl, show t.size - (t.size - (k' + 1)) = k' + 1 by omega]; exact hfa, HO2.out.trans (Own.of hb9)⟩)
          unfold cFaulted at hfa
          subst hfa
          generalize faultV t ((k' + 1 : Nat) : Int) ((2 : Nat) : Int) = fv at HPP ⊢
          clear hb9
          go_wp2_with fail
          first
          | exact HPP.out
          | exact ⟨rfl, HPP.out⟩
          | (simp only [bodyPost]; exact HPP.out)
        · rw [if_neg h64] at HR'
          have h64b : ((fs.length : Int) == 64) = false := by rw [beq_eq_false_iff_ne]; omega
          have CF := hid (cfield_any b t (k' + 1) w2 HC2.out (by omega) hs)
          rw [HT.out, HT1.out] at CF
          go_wp2_with fail
          go_at_call 52
          refine CF.out.mono ?_
          intro e w3 hp
          cases hf : fldP L.tail with
          | bad er r =>
            rw [hf] at HR' hp
            simp only at HR'
            obtain ⟨hfa, ho3⟩ := hp
            have HPP : Hid (Ro t b w R0 e w3) := hid (by rw [HR'.out]; exact ⟨hfa, HO2.out.trans ho3⟩)
            unfold cFaulted at hfa
            subst hfa
            generalize faultV t ((t.size - r.length : Nat) : Int) ((er : Nat) : Int) = fv at HPP ⊢
            clear ho3 CF hf
            go_wp2_with fail
            first
            | exact HPP.out
            | exact ⟨rfl, HPP.out⟩
            | (simp only [bodyPost]; exact HPP.out)
          | ok s2 r2 =>
            rw [hf] at HR' hp
            simp only at HR'
            obtain ⟨rfl, hc3, ho3⟩ := hp
            obtain ⟨hsl2, p2, hpr2⟩ := (fldP_tail _).1 s2 r2 hf
            have HDR2 := hid (show T.drop (t.size - r2.length) = r2 by rw [← hTl]; exact drop_pos HT1.out (by omega) p2 r2 hpr2)
            have hr2l : r2.length ≤ t.size - (k' + 1) := by
              have := congrArg List.length hpr2
              rw [List.length_append] at this; omega
            have HC3 := hid hc3
            have HO3 := hid (HO2.out.trans ho3)
            have HW3 := hid (own_row_far HW2.out ho3 hbw)
            have hs3 := HO3.out.size
            obtain ⟨m2, hm2⟩ : ∃ m, mkS s2 = m := ⟨_, rfl⟩
            have HMS2 := hid hm2
            rw [hm2]
            clear CF hc3 ho3 hf hpr2 hm2 HC2 HO2 HW2 hs2 HT1
            obtain ⟨g', rfl⟩ : ∃ g', gk = g' + 1 := ⟨gk - 1, by omega⟩
            go_wp2_with (at_builtin; go_must (refine wpList_append_own _ rfl (.tmp 18) (.tmp 21) 24 rfl w.heap.size 9 i0 (.string ⟨#[]⟩) 1 16 Tryd.underlying24 hi hz0 hz1 hz2 rfl (by decide) _ fs.length _ rfl (HW3.out.alloc _) ⟨w3.heap.size, 0, none⟩ 1 1 [.string m2] rfl rfl (new_cells w3 _ 9) (by simp [Value.oneCell']) (by unfold maxLen; omega) (by omega) (by simp; omega) ?_; intro v4 w4 hown hgr4 _))
            have hb3 := valloc_bel (Below.refl w3.heap.size w3) (.cells #[.string m2] 9)
            have HC4 := hid ((HC3.out.onto hb3).grown hgr4 (fun e => by have := (HW3.out.lt _ e).1; omega))
            have HO4 := hid (own_above (HO3.out.trans (Own.of hb3)) hgr4 rfl (fun k hk => (HW3.out.lt k hk).1))
            have HW4 : Hid (w4.ownsRow w.heap.size 9 1 v4 (fs ++ [s2]).length (fvs (fs ++ [s2]))) := hid (by
              rw [List.length_append]
              unfold fvs at hown ⊢
              rw [List.map_append]
              show w4.ownsRow _ _ _ _ _ (_ ++ [.string (mkS s2)])
              rw [HMS2.out]; exact hown)
            clear hown hgr4 hb3
            go_roundg g'
            case measure => omega
            case rel => exact ⟨fs ++ [s2], t.size - r2.length, g1, by omega, by omega, by omega, by simp, by rw [List.length_append]; simp; omega, HC4, HO4, HW4, hid (by rw [HDR2.out]; exact HR'.out)⟩
      · rw [if_neg h44] at HR'
        have CP := hid (cpasses_no b t ⟨#[44]⟩ k' wr HC'.out hk' (by rw [HT.out, HL.out]; exact (hasP_one _ _).trans (decide_eq_false h44)))
        clear h44 hv3
        go_wp2_with fail
        go_at_call 53
        refine CP.out.mono ?_
        rintro e w2 ⟨rfl, n2, hw2⟩
        have hb2 : Below wr.heap.size wr w2 := by rw [hw2]; exact below_drewN (Below.refl _ _) n2
        have HC2 := hid (HC'.out.onto hb2)
        have HO2 := hid (HO'.out.trans (Own.of hb2))
        have HW2 := hid (ownsRow_below HW'.out hb2)
        clear CP hb2 hw2 HC' HO' HW' hs'
        have CE := hid (cend_any b t k' w2 HC2.out hk')
        rw [HT.out, HL.out] at CE
        by_cases hen : endB L = true
        · rw [if_pos hen] at HR'
          rw [hen] at CE
          go_wp2_with fail
          go_at_call 54
          refine CE.out.mono ?_
          rintro e w3 ⟨rfl, n3, hw3⟩
          have hb3 : Below w2.heap.size w2 w3 := by rw [hw3]; exact below_drewN (Below.refl _ _) n3
          have HC3 := hid (HC2.out.onto hb3)
          have HO3 := hid (HO2.out.trans (Own.of hb3))
          have HW3 := hid (ownsRow_below HW2.out hb3)
          clear CE hb3 hw3 HC2 HO2 HW2
          by_cases h2 : L.head? = some 13 ∧ L.tail.head? = some 10
          · have CP := hid (cpasses_yes b t ⟨#[13, 10]⟩ k' w3 HC3.out hk' (by omega) (by decide) (by rw [HT.out, HL.out]; exact (hasP_two _ _ _).trans (decide_eq_true h2)))
            have e2 : (⟨#[13, 10]⟩ : ByteArray).size = 2 := rfl
            rw [e2] at CP
            have hE : endN L = 2 := by unfold endN; rw [if_neg (by rw [h2.1]; decide), if_pos h2]
            have hEl := endN_le L
            have HFIN : Hid (t.size - (L.drop (endN L)).length = k' + 2) := hid (by rw [List.length_drop]; omega)
            clear h2 e2 hE hen hEl
            go_wp2_with fail
            go_at_call 53
            refine CP.out.mono ?_
            rintro e w4 ⟨rfl, hc4, ho4⟩
            have HC4 := hid hc4
            have HO4 := hid (HO3.out.trans ho4)
            have HW4 := hid (own_row_far HW3.out ho4 hbw)
            clear CP hc4 ho4 HC3 HO3 HW3
            go_wp2_with fail
            go_ret
            rw [HR'.out]
            exact ⟨_, rfl, HW4.out, by rw [HFIN.out]; exact HC4.out, HO4.out, hf1, hf64⟩
          · have CP := hid (cpasses_no b t ⟨#[13, 10]⟩ k' w3 HC3.out hk' (by rw [HT.out, HL.out]; exact (hasP_two _ _ _).trans (decide_eq_false h2)))
            go_wp2_with fail
            go_at_call 53
            refine CP.out.mono ?_
            rintro e w4 ⟨rfl, n4, hw4⟩
            have hb4 : Below w3.heap.size w3 w4 := by rw [hw4]; exact below_drewN (Below.refl _ _) n4
            have HC4 := hid (HC3.out.onto hb4)
            have HO4 := hid (HO3.out.trans (Own.of hb4))
            have HW4 := hid (ownsRow_below HW3.out hb4)
            clear CP hb4 hw4 HC3 HO3 HW3
            by_cases h1 : L.head? = some 10
            · have CQ := hid (cpasses_yes b t ⟨#[10]⟩ k' w4 HC4.out hk' (by omega) (by decide) (by rw [HT.out, HL.out]; exact (hasP_one _ _).trans (decide_eq_true h1)))
              have e2 : (⟨#[10]⟩ : ByteArray).size = 1 := rfl
              rw [e2] at CQ
              have hE : endN L = 1 := by unfold endN; rw [if_pos h1]
              have hEl := endN_le L
              have HFIN : Hid (t.size - (L.drop (endN L)).length = k' + 1) := hid (by rw [List.length_drop]; omega)
              clear h1 h2 e2 hE hen hEl
              go_wp2_with fail
              go_at_call 53
              refine CQ.out.mono ?_
              rintro e w5 ⟨rfl, hc5, ho5⟩
              have HC5 := hid hc5
              have HO5 := hid (HO4.out.trans ho5)
              have HW5 := hid (own_row_far HW4.out ho5 hbw)
              clear CQ hc5 ho5 HC4 HO4 HW4
              go_wp2_with fail
              go_ret
              rw [HR'.out]
              exact ⟨_, rfl, HW5.out, by rw [HFIN.out]; exact HC5.out, HO5.out, hf1, hf64⟩
            · have CQ := hid (cpasses_no b t ⟨#[10]⟩ k' w4 HC4.out hk' (by rw [HT.out, HL.out]; exact (hasP_one _ _).trans (decide_eq_false h1)))
              have hE : endN L = 0 := by unfold endN; rw [if_neg h1, if_neg h2]
              have HFIN : Hid (t.size - (L.drop (endN L)).length = k') := hid (by rw [hE]; show t.size - L.length = k'; omega)
              clear h1 h2 hE hen
              go_wp2_with fail
              go_at_call 53
              refine CQ.out.mono ?_
              rintro e w5 ⟨rfl, n5, hw5⟩
              have hb5 : Below w4.heap.size w4 w5 := by rw [hw5]; exact below_drewN (Below.refl _ _) n5
              have HC5 := hid (HC4.out.onto hb5)
              have HO5 := hid (HO4.out.trans (Own.of hb5))
              have HW5 := hid (ownsRow_below HW4.out hb5)
              clear CQ hb5 hw5 HC4 HO4 HW4
              go_wp2_with fail
              go_ret
              rw [HR'.out]
              exact ⟨_, rfl, HW5.out, by rw [HFIN.out]; exact HC5.out, HO5.out, hf1, hf64⟩
        · rw [if_neg hen] at HR'
          have hen' : endB L = false := by cases he : endB L with | false => rfl | true => exact absurd he hen
          rw [hen'] at CE
          clear hen hen'
          go_wp2_with fail
          go_at_call 54
          refine CE.out.mono ?_
          rintro e w3 ⟨rfl, n3, hw3⟩
          have hb3 : Below w2.heap.size w2 w3 := by rw [hw3]; exact below_drewN (Below.refl _ _) n3
          have HC3 := hid (HC2.out.onto hb3)
          have HO3 := hid (HO2.out.trans (Own.of hb3))
          clear CE hb3 hw3 HC2 HO2 HW2
          have CR := hid (crefuse_any b t k' k' 4 w3 HC3.out (by omega))
          have r1 := HC3.out.r1
          go_wp2_with fail
          go_at_call 36
          refine CR.out.mono ?_
          rintro e w4 ⟨hfa, hb9⟩
          have HPP : Hid (Ro t b w R0 e w4) := hid (by rw [HR'.out]; exact ⟨by rw [hLl, show t.size - (t.size - k') = k' by omega]; exact hfa, HO3.out.trans (Own.of hb9)⟩)
          unfold cFaulted at hfa
          subst hfa
          generalize faultV t ((k' : Nat) : Int) ((4 : Nat) : Int) = fv at HPP ⊢
          clear hb9
          go_wp2_with fail
          first
          | exact HPP.out
          | exact ⟨rfl, HPP.out⟩
          | (simp only [bodyPost]; exact HPP.out)
end Go.Proofs.YtjbccmnmcjmooaaDoor
