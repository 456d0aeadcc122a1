import Derived.Test.YtjbccmnmcjmooaaDoorCrD
/- cread's reader: a field. -/
namespace Go.Proofs.YtjbccmnmcjmooaaDoor
open Go.RowKit

theorem cplain_any (b : Nat) (t : ByteArray) (k : Nat) (w : World) (h : Cr w b t k) (hk : k ≤ t.size) (hs : t.size ≤ 1000000) :
    Calls Tryd.prog 71 #[.pointer (some ⟨b, 0, none⟩)] w (Fo t b w (if (cplR (t.data.toList.drop k)).head? = some 34 then .bad 4 (cplR (t.data.toList.drop k)) else .ok (cplS (t.data.toList.drop k)) (cplR (t.data.toList.drop k)))) := by
  obtain ⟨L, hL⟩ : ∃ L, t.data.toList.drop k = L := ⟨_, rfl⟩
  rw [hL]
  have hln : L.length = t.size - k := by rw [← hL, List.length_drop, size_list]
  have hap := congrArg List.length (pln_app L)
  rw [List.length_append, hln] at hap
  have hdr : t.data.toList.drop (k + (cplS L).length) = cplR L := by
    rw [← List.drop_drop, hL]
    have e := congrArg (List.drop (cplS L).length) (pln_app L)
    rw [← e]; simp
  have hps : t.size - (cplR L).length = k + (cplS L).length := by omega
  refine (cplain_core b t (mkS L) (mkS (cplS L)) k (cplS L).length (!decide (cplR L = [])) (decide ((cplR L).head? = some 34)) w h (by omega) hs (mkS_of _ _ (by rw [drop_list, hL])) (fun _ => mkS_of _ _ ?_) (fun h => ?_) (mkS_size _) (by rw [mkS_size, hln]) (fun X => ?_) (fun X hX => ?_)).mono ?_
  · rw [take_list, mkS_list]
    have e := congrArg (List.take (cplS L).length) (pln_app L)
    rw [← e]; simp
  · have h' : cplR L = [] := by simpa using h
    have := pln_app L; rw [h', List.append_nil] at this; rw [this]
  · have := ixany_any ⟨#[44, 10, 13, 34]⟩ (mkS L) X rfl (by decide) (by rw [mkS_size]; omega)
    have e : (⟨#[44, 10, 13, 34]⟩ : ByteArray).data.toList = [44, 10, 13, 34] := rfl
    rw [e, mkS_list, cix_is] at this
    by_cases hz : cplR L = []
    · rw [if_pos hz] at this
      rw [if_neg (by simp [hz])]; exact this
    · rw [if_neg hz] at this
      rw [if_pos (by simp [hz])]; exact this
  · have := csees_any b t ⟨#[34]⟩ (k + (cplS L).length) X hX (by omega)
    have e : (⟨#[34]⟩ : ByteArray).data.toList = [34] := rfl
    rw [e, hdr, hasP_one] at this
    exact this
  · intro e w' hp
    by_cases hq : (cplR L).head? = some 34
    · rw [decide_eq_true hq] at hp
      rw [if_pos hq]
      unfold Fo
      simp only [hps]
      exact hp
    · rw [decide_eq_false hq] at hp
      rw [if_neg hq]
      unfold Fo
      simp only [hps]
      exact hp
/-- a row of bytes that is owned, read as a text -/
theorem c_conv_own (w : World) (base : Nat) (v : Value) (l : List UInt8) (h : w.ownsRow base 5 1 v l.length (Lib.strCells (mkS l))) :
    (convert 39 9 v).run Tryd.prog w = .ok (.string (mkS l)) w := by
  have h' := h
  rcases h' with ⟨-, ⟨rfl, hn⟩ | ⟨g, cap, cur, rfl, -⟩⟩
  · obtain rfl : l = [] := List.length_eq_zero_iff.1 hn
    exact run_convert_bytes_nil w 39 5 Tryd.underlying39 Tryd.underlying5 0 0 9 Tryd.underlying9
  · refine run_convert_bytes_back w 39 9 5 ⟨g, 0, none⟩ cap l Tryd.underlying39 Tryd.underlying5 Tryd.underlying9 (fun j hj => ?_)
    refine h.cells (g := g) rfl j _ ?_
    unfold Lib.strCells
    rw [mkS_list, List.getElem?_map, List.getElem?_eq_getElem hj]; rfl
theorem c_own_app {w : World} {base : Nat} {v : Value} {a x : List UInt8} {m : ByteArray} (hm : mkS x = m) (h : w.ownsRow base 5 1 v (a.length + m.size) (Lib.strCells (mkS a) ++ Lib.strCells m)) :
    w.ownsRow base 5 1 v (a ++ x).length (Lib.strCells (mkS (a ++ x))) := by
  subst hm
  rw [mkS_size] at h
  have e : Lib.strCells (mkS (a ++ x)) = Lib.strCells (mkS a) ++ Lib.strCells (mkS x) := by
    unfold Lib.strCells; rw [mkS_list, mkS_list, mkS_list, List.map_append]
  rw [e, List.length_append]
  exact h
/-- a change above a world keeps a reader of it -/
theorem own_above {w a c : World} {b : Nat} {v : Value} {base : Nat} (h : Own b w a) (hg : a.grownBy c v.ownBlock) (hb : base = w.heap.size) (hl : ∀ k, v.ownBlock = some k → base ≤ k) : Own b w c :=
  ⟨hg.os.trans h.os, hg.tape.trans h.tape, hg.output.trans h.output, Nat.le_trans h.size hg.size, fun i hi hn => (hg.block i (Nat.lt_of_lt_of_le hi h.size) (fun e => by have := hl i e.symm; omega)).trans (h.block i hi hn)⟩
theorem Cr.grown {w w' : World} {b : Nat} {t : ByteArray} {k : Nat} {row : Option Nat} (h : Cr w b t k) (hg : w.grownBy w' row) (hn : row ≠ some b) : Cr w' b t k :=
  ⟨hg.cell h.r0 (fun e => hn e.symm), hg.cell h.r1 (fun e => hn e.symm), h.row.onto (hg.block b h.row.lt (fun e => hn e.symm))⟩
theorem own_row_far {w w' : World} {b base : Nat} {ty : TypeId} {sz : Nat} {v : Value} {n : Nat} {xs : List Value} (h : w.ownsRow base ty sz v n xs) (ho : Own b w w') (hb : b < base) : w'.ownsRow base ty sz v n xs := by
  refine h.kept (row := some b) ho ?_
  cases hv : v.ownBlock with
  | none => exact Or.inl rfl
  | some k => right; intro e; injection e with e; have := (h.lt k hv).1; omega
theorem cwp_gen {P : Program} {c : Code} {Q : Exit → Act → World → Prop} {a : Act} {w : World} (h : ∀ W, W = w → Code.wp P c Q a W) : Code.wp P c Q a w := h w rfl
theorem cset_to {w : World} {b k k2 : Nat} {t : ByteArray} {z : Int} (h : Cr w b t k) (hz : z = (k2 : Int)) : Cr (w.setCell ⟨b, 1, none⟩ (.int .i64 z)) b t k2 := by subst hz; exact h.set1 k2
set_option maxRecDepth 100000 in
set_option maxHeartbeats 4000000 in
theorem cquoted_any (b : Nat) (t : ByteArray) (k : Nat) (w : World) (h : Cr w b t k) (hk : k ≤ t.size) (hs : t.size ≤ 65536) :
    Calls Tryd.prog 70 #[.pointer (some ⟨b, 0, none⟩)] w (Fo t b w (qt [] (t.data.toList.drop k))) := by
  obtain ⟨R0, hR0⟩ : ∃ R0, qt [] (t.data.toList.drop k) = R0 := ⟨_, rfl⟩
  rw [hR0]
  have HR := hid hR0.symm
  have HC := hid h
  have hbw := h.row.lt
  obtain ⟨i1, hi, hz0, hz1, hz2⟩ := info_parts Tryd.info_u8
  obtain ⟨T, hT⟩ : ∃ T, t.data.toList = T := ⟨_, rfl⟩
  have HT := hid hT
  have hTl : T.length = t.size := by rw [← hT, size_list]
  rw [hT] at HR
  obtain ⟨A, hA⟩ : ∃ A : ByteArray, A = ⟨#[34]⟩ := ⟨_, rfl⟩
  have HA := hid hA
  clear h hR0 hT hA
  go_enter Tryd.func70, Tryd.ntmps70
  go_wp2_with fail
  go_loopg [3, 4, 5, 6] t.size (fun gk v _ _ _ wr => ∃ (acc : List UInt8) (k' : Nat), k' ≤ t.size ∧ t.size ≤ k' + gk ∧ acc.length ≤ k' ∧ Hid (Cr wr b t k') ∧ Hid (Own b w wr) ∧ Hid (wr.ownsRow w.heap.size 5 1 v acc.length (Lib.strCells (mkS acc))) ∧ Hid (R0 = qt acc (T.drop k')))
  case atStart => exact ⟨[], k, hk, by omega, Nat.zero_le _, HC, Own.refl _ _, World.ownsRow_nil _ _ _ _, HR⟩
  case round =>
    obtain ⟨acc, k', hk', hg, hal, HC', HO', HW', HR'⟩ := hrel
    clear HR HC
    have r0 := HC'.out.r0
    have r1 := HC'.out.r1
    obtain ⟨M, hM⟩ : ∃ M, t.extract k' t.size = M := ⟨_, rfl⟩
    have HM := hid hM
    have hMl : M.data.toList = T.drop k' := by rw [← hM, drop_list, HT.out]
    have hMz : M.size = t.size - k' := by rw [← size_list, hMl, List.length_drop, hTl]
    have hal' : acc.length ≤ 65536 := by omega
    rcases split34 (T.drop k') 34 with hno | ⟨p, r, hpr, hno⟩
    · have CU := hid (fun X => cut_no M X (by rw [hMl]; exact ix_none _ _ hno))
      rw [qt_open _ _ hno] at HR'
      have CR := hid (fun X h => crefuse_any b t k' t.size 4 X h (by omega))
      clear hMl hno hM
      go_wp2_with fail
      go_quiet ((go_at_call 79; rw [HM.out]; exact (CU.out _).mono (by rintro e w5 ⟨rfl, m, rfl⟩; exact ⟨rfl, _, by rw [World.drewN_drewN]⟩)))
      have HC2 := hid (HC'.out.drewN nq)
      have HO2 : Hid (Own b w (wr.drewN nq)) := hid (HO'.out.trans (Own.of (below_drewN (Below.refl _ _) nq)))
      clear CU HC' HO' r0 r1
      generalize wr.drewN nq = w2 at HC2 HO2 ⊢
      have r0 := HC2.out.r0
      go_wp2_with fail
      go_at_call 36
      refine (CR.out _ HC2.out).mono ?_
      rintro e w3 ⟨hfa, hb3⟩
      have HPP : Hid (Fo t b w R0 e w3) := hid (by rw [HR'.out]; exact ⟨hfa, HO2.out.trans (Own.of hb3)⟩)
      unfold cFaulted at hfa
      subst hfa
      generalize faultV t ((t.size : Nat) : Int) ((4 : Nat) : Int) = fv at HPP ⊢
      clear hb3
      go_wp2_with fail
      first
      | exact HPP.out
      | exact ⟨rfl, HPP.out⟩
      | (simp only [bodyPost]; exact HPP.out)
    · have hMp : M.data.toList = p ++ 34 :: r := by rw [hMl, hpr]
      have hpl : p.length + 1 + r.length = t.size - k' := by
        have := congrArg List.length hMp
        rw [size_list, hMz] at this; simp at this; omega
      have CU := hid (fun X => cut_yes M p.length X (by omega) (by omega) (by rw [hMp]; exact ix_some _ _ _ hno))
      have hm0 : M.extract 0 p.length = mkS p := mkS_of _ _ (by rw [take_list, hMp]; simp)
      rw [hm0] at CU
      have hmz : (mkS p).size = p.length := mkS_size p
      have HDR : Hid (T.drop (k' + (p.length + 1)) = r) := hid (by rw [← List.drop_drop, hpr]; simp)
      rw [hpr, qt_piece _ _ _ hno] at HR'
      obtain ⟨m, hm⟩ : ∃ m, mkS p = m := ⟨_, rfl⟩
      have HMP := hid hm
      rw [hm] at CU hmz
      generalize M.extract (p.length + 1) M.size = m9 at CU
      clear hm0 hMl hMp hpr hno hM hm
      go_wp2_with fail
      go_quiet ((go_at_call 79; rw [HM.out]; exact (CU.out _).mono (by rintro e w5 ⟨rfl, m, rfl⟩; exact ⟨rfl, _, by rw [World.drewN_drewN]⟩)))
      have HC2 := hid (HC'.out.drewN nq)
      have HO2 : Hid (Own b w (wr.drewN nq)) := hid (HO'.out.trans (Own.of (below_drewN (Below.refl _ _) nq)))
      have HW2 := hid (ownsRow_below HW'.out (below_drewN (Below.refl _ _) nq))
      clear CU HC' HO' r0 r1 HW'
      generalize wr.drewN nq = w2 at HC2 HO2 HW2 ⊢
      have hs2 := HO2.out.size
      go_upto_region 6 with (at_builtin; go_must (refine Lib.wpList_append_own_string _ rfl _ _ 39 9 rfl w.heap.size 5 i1 Tryd.underlying39 Tryd.underlying9 hi hz0 hz1 hz2 _ acc.length (Lib.strCells (mkS acc)) rfl HW2.out m rfl (by unfold maxLen; omega) (by omega) hs2 ?_; intro v3 w3 hown hgr3 _))
      have HC3 := hid (HC2.out.grown hgr3 (fun e => by have := (HW2.out.lt _ e).1; omega))
      have HO3 := hid (own_above HO2.out hgr3 rfl (fun k hk => (HW2.out.lt k hk).1))
      have HW3 := hid (c_own_app HMP.out hown)
      clear hown hgr3 HC2 HO2 HW2 hs2
      have r1 := HC3.out.r1
      have rf := HC3.out.row.frozen
      go_upto_region 7 with fail
      refine cwp_gen ?_
      intro W hW
      have HC4 : Hid (Cr W b t (k' + (p.length + 1))) := hid (by rw [hW]; exact cset_to HC3.out (by omega))
      have HO4 : Hid (Own b w W) := hid (by rw [hW]; exact HO3.out.set _ _)
      have HW4 := hid (show W.ownsRow w.heap.size 5 1 v3 (acc ++ p).length (Lib.strCells (mkS (acc ++ p))) by rw [hW]; exact own_row_far HW3.out (Own.set (Own.refl b w3) 1 _) hbw)
      clear hW r1 rf HC3 HO3 HW3
      have hapl : (acc ++ p).length ≤ 65536 := by rw [List.length_append]; omega
      have hapk : (acc ++ p).length + 1 ≤ k' + (p.length + 1) + 1 := by rw [List.length_append]; omega
      generalize acc ++ p = ac at HR' HW4 hapl hapk
      obtain ⟨K, hK⟩ : ∃ K, k' + (p.length + 1) = K := ⟨_, rfl⟩
      have hKs : K ≤ t.size := by omega
      have hKg : k' + 1 ≤ K := by omega
      have hrl : r.length = t.size - K := by omega
      rw [hK] at HC4 HDR hapk
      clear hK HMP HM hmz hpl hMz hal hal'
      obtain ⟨g', rfl⟩ : ∃ g', gk = g' + 1 := ⟨gk - 1, by omega⟩
      by_cases h34 : r.head? = some 34
      · obtain ⟨r2, rfl⟩ : ∃ r2, r = 34 :: r2 := by
          cases r with
          | nil => simp at h34
          | cons c r => simp at h34; subst h34; exact ⟨r, rfl⟩
        rw [qt_two] at HR'
        have CP := hid (cpasses_yes b t ⟨#[34]⟩ K W HC4.out hKs (by omega) (by decide) (by rw [HT.out, HDR.out]; exact hasP_one _ _))
        have e1 : (⟨#[34]⟩ : ByteArray).size = 1 := rfl
        rw [e1] at CP
        have hK1 : K + 1 ≤ t.size := by simp at hrl; omega
        have HDR2 : Hid (T.drop (K + 1) = r2) := hid (by rw [← List.drop_drop, HDR.out]; rfl)
        clear h34 e1
        go_wp2_with fail
        go_at_call 53
        refine CP.out.mono ?_
        rintro e w5 ⟨rfl, hc5, ho5⟩
        have HC5 := hid hc5
        have HO5 := hid (HO4.out.trans ho5)
        have HW5 := hid (own_row_far HW4.out ho5 hbw)
        have hs5 := HO5.out.size
        clear hc5 ho5 CP HC4 HO4 HW4
        go_wp2_with (at_builtin; go_must (refine Lib.wpList_append_own_string _ rfl _ _ 39 9 rfl w.heap.size 5 i1 Tryd.underlying39 Tryd.underlying9 hi hz0 hz1 hz2 _ ac.length (Lib.strCells (mkS ac)) rfl HW5.out ⟨#[34]⟩ rfl (by unfold maxLen; show ac.length + 1 ≤ _; omega) (by show ac.length + 1 ≤ _; omega) hs5 ?_; intro v6 w6 hown hgr6 _))
        have HC6 := hid (HC5.out.grown hgr6 (fun e => by have := (HW5.out.lt _ e).1; omega))
        have HO6 := hid (own_above HO5.out hgr6 rfl (fun k hk => (HW5.out.lt k hk).1))
        have HW6 := hid (c_own_app (x := [34]) rfl hown)
        clear hown hgr6
        go_roundg g'
        case measure => omega
        case rel => exact ⟨ac ++ [34], K + 1, hK1, by omega, by rw [List.length_append]; exact hapk, HC6, HO6, HW6, hid (by rw [HDR2.out]; exact HR'.out)⟩
      · rw [qt_shut _ _ h34] at HR'
        have CP := hid (cpasses_no b t ⟨#[34]⟩ K W HC4.out hKs (by rw [HT.out, HDR.out]; exact (hasP_one _ _).trans (decide_eq_false h34)))
        clear h34
        go_wp2_with fail
        go_at_call 53
        refine CP.out.mono ?_
        rintro e w5 ⟨rfl, n5, hw5⟩
        have hb5 : Below W.heap.size W w5 := by rw [hw5]; exact below_drewN (Below.refl _ _) n5
        have HC5 := hid (HC4.out.onto hb5)
        have HO5 := hid (HO4.out.trans (Own.of hb5))
        have HW5 := hid (ownsRow_below HW4.out hb5)
        clear hb5 hw5 CP HC4 HO4 HW4
        have CS := hid (csees_any b t ⟨#[44]⟩ K w5 HC5.out hKs)
        have e1 : (⟨#[44]⟩ : ByteArray).data.toList = [44] := rfl
        rw [HT.out, HDR.out, e1, hasP_one] at CS
        clear e1
        by_cases h44 : r.head? = some 44
        · rw [if_pos (Or.inl h44)] at HR'
          rw [decide_eq_true h44] at CS
          clear h44
          go_wp2_with fail
          go_at_call 72
          refine CS.out.mono ?_
          rintro e w6 ⟨rfl, n6, hw6⟩
          have hb6 : Below w5.heap.size w5 w6 := by rw [hw6]; exact below_drewN (Below.refl _ _) n6
          have HC6 := hid (HC5.out.onto hb6)
          have HO6 := hid (HO5.out.trans (Own.of hb6))
          have HW6 := hid (ownsRow_below HW5.out hb6)
          clear hb6 hw6 CS HC5 HO5 HW5
          have hcv := c_conv_own w6 w.heap.size v3 ac HW6.out
          go_wp2_with fail
          go_ret
          rw [HR'.out]
          exact ⟨rfl, by rw [show t.size - r.length = K by omega]; exact HC6.out, HO6.out⟩
        · rw [decide_eq_false h44] at CS
          by_cases hen : endB r = true
          · rw [if_pos (Or.inr hen)] at HR'
            clear h44
            go_wp2_with fail
            go_at_call 72
            refine CS.out.mono ?_
            rintro e w6 ⟨rfl, n6, hw6⟩
            have hb6 : Below w5.heap.size w5 w6 := by rw [hw6]; exact below_drewN (Below.refl _ _) n6
            have HC6 := hid (HC5.out.onto hb6)
            have HO6 := hid (HO5.out.trans (Own.of hb6))
            have HW6 := hid (ownsRow_below HW5.out hb6)
            clear hb6 hw6 CS HC5 HO5 HW5
            have CE := hid (cend_any b t K w6 HC6.out hKs)
            rw [HT.out, HDR.out, hen] at CE
            clear hen
            go_wp2_with fail
            go_at_call 54
            refine CE.out.mono ?_
            rintro e w7 ⟨rfl, n7, hw7⟩
            have hb7 : Below w6.heap.size w6 w7 := by rw [hw7]; exact below_drewN (Below.refl _ _) n7
            have HC7 := hid (HC6.out.onto hb7)
            have HO7 := hid (HO6.out.trans (Own.of hb7))
            have HW7 := hid (ownsRow_below HW6.out hb7)
            clear hb7 hw7 CE HC6 HO6 HW6
            have hcv := c_conv_own w7 w.heap.size v3 ac HW7.out
            go_wp2_with fail
            go_ret
            rw [HR'.out]
            exact ⟨rfl, by rw [show t.size - r.length = K by omega]; exact HC7.out, HO7.out⟩
          · rw [if_neg (fun h => h.elim h44 hen)] at HR'
            have hen' : endB r = false := by cases he : endB r with | false => rfl | true => exact absurd he hen
            clear h44 hen
            go_wp2_with fail
            go_at_call 72
            refine CS.out.mono ?_
            rintro e w6 ⟨rfl, n6, hw6⟩
            have hb6 : Below w5.heap.size w5 w6 := by rw [hw6]; exact below_drewN (Below.refl _ _) n6
            have HC6 := hid (HC5.out.onto hb6)
            have HO6 := hid (HO5.out.trans (Own.of hb6))
            clear hb6 hw6 CS HC5 HO5 HW5
            have CE := hid (cend_any b t K w6 HC6.out hKs)
            rw [HT.out, HDR.out, hen'] at CE
            clear hen'
            go_wp2_with fail
            go_at_call 54
            refine CE.out.mono ?_
            rintro e w7 ⟨rfl, n7, hw7⟩
            have hb7 : Below w6.heap.size w6 w7 := by rw [hw7]; exact below_drewN (Below.refl _ _) n7
            have HC7 := hid (HC6.out.onto hb7)
            have HO7 := hid (HO6.out.trans (Own.of hb7))
            clear hb7 hw7 CE HC6 HO6
            have CR := hid (fun X h => crefuse_any b t K K 4 X h (by omega))
            have r1 := HC7.out.r1
            go_wp2_with fail
            go_at_call 36
            refine (CR.out _ HC7.out).mono ?_
            rintro e w8 ⟨hfa, hb8⟩
            have HPP : Hid (Fo t b w R0 e w8) := hid (by rw [HR'.out]; exact ⟨by rw [show t.size - r.length = K by omega]; exact hfa, HO7.out.trans (Own.of hb8)⟩)
            unfold cFaulted at hfa
            subst hfa
            generalize faultV t (K : Int) ((4 : Nat) : Int) = fv at HPP ⊢
            clear hb8
            go_wp2_with fail
            first
            | exact HPP.out
            | exact ⟨rfl, HPP.out⟩
            | (simp only [bodyPost]; exact HPP.out)
end Go.Proofs.YtjbccmnmcjmooaaDoor
