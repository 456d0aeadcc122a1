
import Derived.Test.YtjcgkihkjjaefaaGreatDoorKFlI
import Derived.Test.YtjcgkihkjjaefaaGreatDoorKVGood
/- flat.row and flat.listOfMaps, walked. -/
namespace Go.Proofs.YtjcgkihkjjaefaaGreatDoor
open Go.RowKit

/-- a leaf's cell -/
def cellP (T : VT) : ByteArray := if celB T = true then mkS (celW T) else ⟨#[]⟩
def rowF (l : List (List PStep × VT)) (C : List (List PStep)) (R : List ByteArray) : List ByteArray := l.foldl (fun R e => R.set (posC C e.1) (cellP e.2)) R
def rowM (l : List (List PStep × VT)) (C : List (List PStep)) : List ByteArray := rowF l C (List.replicate C.length ⟨#[]⟩)
theorem rowF_len : ∀ (l : List (List PStep × VT)) (C : List (List PStep)) (R : List ByteArray), (rowF l C R).length = R.length
  | [], _, _ => rfl
  | e :: l, C, R => by
    show (rowF l C (R.set _ _)).length = _
    rw [rowF_len l, List.length_set]
theorem rowM_len (l : List (List PStep × VT)) (C : List (List PStep)) : (rowM l C).length = C.length := by unfold rowM; rw [rowF_len]; simp
theorem rowF_snoc (l : List (List PStep × VT)) (e : List PStep × VT) (C : List (List PStep)) (R : List ByteArray) : rowF (l ++ [e]) C R = (rowF l C R).set (posC C e.1) (cellP e.2) := by unfold rowF; rw [List.foldl_append]; rfl
theorem mem_set_of {α : Type} {R : List α} {i : Nat} {c x : α} (h : x ∈ R.set i c) : x ∈ R ∨ x = c := by
  rcases List.mem_or_eq_of_mem_set h with h | h
  · exact .inl h
  · exact .inr h
theorem rowF_mem : ∀ (l : List (List PStep × VT)) (C : List (List PStep)) (R : List ByteArray) (x : ByteArray), x ∈ rowF l C R → x ∈ R ∨ ∃ e ∈ l, x = cellP e.2
  | [], _, _, _, h => .inl h
  | e :: l, C, R, x, h => by
    rcases rowF_mem l C _ x h with h | ⟨e', h1, h2⟩
    · rcases mem_set_of h with h | h
      · exact .inl h
      · exact .inr ⟨e, by simp, h⟩
    · exact .inr ⟨e', by simp [h1], h2⟩
set_option maxRecDepth 100000 in
set_option maxHeartbeats 4000000 in
theorem row_any (l : List (List PStep × VT)) (C : List (List PStep)) (lv cv : Value) (w : World) (hL : InLf w l lv) (hC : InC w C cv) (hg : GlobC5 w) (hm : ∀ e ∈ l, Mono C e.1 ∧ posC C e.1 < C.length ∧ (cellP e.2).size ≤ maxLen) (hl : C.length ≤ 1000000) :
    Calls Tryz.prog 24 #[lv, cv] w fun e w' => ∃ u, e = .returned u ∧ StrO w w' (rowM l C) u ∧ Below w.heap.size w w' := by
  obtain ⟨al, ⟨ol, cl, rfl, hl1, hl2, hl3⟩, hle⟩ := hL
  have HCC := hid hC
  obtain ⟨ac, ⟨oc, cc, rfl, -⟩, -⟩ := hC
  unfold maxLen at hl2
  have HLE := hid hle
  have HM := hid hm
  have HG := hid hg
  have hmk := Tryz.madeS C.length (by omega) w
  have HN0 := hid (Fil.new w C.length (by omega))
  clear hle hm hg
  go_enter Tryz.func24, Tryz.ntmps24
  go_wp2_with fail
  generalize w.alloc (.cells (madeCells #[.string ⟨#[]⟩] C.length) 9) = w0 at *
  go_loopw [15] (fun i wr => ∃ j : Nat, i = .int .i64 j ∧ j ≤ l.length ∧ Hid (Fil w wr C.length (rowM (l.take j) C))) (fun i _ => l.length - (intOf i).toNat)
  case atStart => exact ⟨0, rfl, Nat.zero_le _, HN0⟩
  case round =>
    clear HN0
    obtain ⟨k, rfl, hk, HF⟩ := hrel
    by_cases hlt : k < l.length
    · obtain ⟨e, he⟩ : ∃ e, l[k]? = some e := ⟨l[k], List.getElem?_eq_getElem hlt⟩
      obtain rfl := hl3 (by omega)
      obtain ⟨u, x, y, c0, c1, hip, hhv⟩ := HLE.out k e he
      have c0' := keepCell HF.out.bel c0
      obtain ⟨d0, d1, d2, d3, d4⟩ := c1.onto HF.out.bel
      obtain ⟨o1, n1, k1, o2, n2, k2, rfl, rfl⟩ := hv_slices hhv
      simp only [nx] at d0 d1 d2 d3 d4
      obtain ⟨hmo, hpos, hcs⟩ := HM.out e (List.mem_of_getElem? he)
      obtain ⟨p, hp⟩ : ∃ p, e.1 = p := ⟨_, rfl⟩
      obtain ⟨T, hT⟩ : ∃ T, e.2 = T := ⟨_, rfl⟩
      have HNX := hid (show rowM (l.take (k + 1)) C = (rowM (l.take k) C).set (posC C p) (cellP T) by
        unfold rowM
        rw [List.take_add_one, he]
        show rowF (l.take k ++ [e]) C _ = _
        rw [rowF_snoc, hp, hT])
      rw [hp] at hip hmo hpos
      rw [hT] at d0 d1 d2 hhv
      obtain ⟨ou, cu, rfl⟩ := inp_slice hip
      have HIP := hid hip
      have HBS := hid (fun (W : World) (hW : Below wr.heap.size wr W) => bsearch_any C p _ _ W (HCC.out.onto (vonto HF.out.bel hW)) (HIP.out.onto (vonto HF.out.bel hW)) hmo hl)
      have HTX := hid (fun (W : World) (hW : Below wr.heap.size wr W) => cetext_any T _ _ W (HG.out.on (vonto HF.out.bel hW)) (hhv.onto (vonto HF.out.bel hW)))
      have HCP : Hid (cellP T = if celB T = true then mkS (celW T) else ⟨#[]⟩) := hid rfl
      rw [← HCP.out] at HTX
      simp only [vv] at HTX
      obtain ⟨H0, hH0⟩ : ∃ H0, hasC C p = H0 := ⟨_, rfl⟩
      obtain ⟨P0, hP0⟩ : ∃ P0, posC C p = P0 := ⟨_, rfl⟩
      obtain ⟨B0, hB0⟩ : ∃ B0, celB T = B0 := ⟨_, rfl⟩
      obtain ⟨S0, hS0⟩ : ∃ S0, cellP T = S0 := ⟨_, rfl⟩
      rw [hH0] at HBS
      rw [hP0] at HBS hpos HNX
      rw [hB0, hS0] at HTX
      rw [hS0] at HNX
      clear c0 c1 hip hhv hp hT he hmo hcs hH0 hP0 hB0 hS0 HCP
      go_wp2_with fail
      go_at_call 40
      refine (HBS.out _ (valloc_bel (Below.refl _ _) _)).mono ?_
      rintro e' w2 ⟨rfl, hb2⟩
      have z1 : w2.cell? ⟨wr.heap.size, 1, none⟩ = some (.int .i64 T.kd) := keepCell hb2 (by simp)
      have z2 : w2.cell? ⟨wr.heap.size, 2, none⟩ = some (.int .i64 T.nm) := keepCell hb2 (by simp)
      have z3 : w2.cell? ⟨wr.heap.size, 3, none⟩ = some (.string T.st) := keepCell hb2 (by simp)
      have z4 : w2.cell? ⟨wr.heap.size, 4, none⟩ = some (.slice o1 n1 k1) := keepCell hb2 (by simp)
      have z5 : w2.cell? ⟨wr.heap.size, 5, none⟩ = some (.slice o2 n2 k2) := keepCell hb2 (by simp)
      have HB2 := hid (vonto (valloc_bel (Below.refl wr.heap.size wr) (.cells #[.slice ou p.length cu, .int .i64 T.kd, .int .i64 T.nm, .string T.st, .slice o1 n1 k1, .slice o2 n2 k2] 40)) hb2)
      clear hb2
      go_wp2_with fail
      go_at_call 43
      refine (HTX.out _ HB2.out).mono ?_
      rintro e' w3 ⟨rfl, hb3⟩
      have HF3 := hid (HF.out.onto (vonto HB2.out hb3))
      obtain ⟨c, hcell⟩ := HF3.out.cell hpos
      have hfz := HF3.out.own.frozenAt P0
      clear hb3 z1 z2 z3 z4 z5
      go_wp2_with fail
      go_roundw
      case rel => exact ⟨k + 1, val_int (by omega), hlt, hid (by have := HF3.out.set P0 S0; rw [← HNX.out] at this; exact this)⟩
      case measure => simp [intOf]; omega
    · have htk : l.take k = l := List.take_of_length_le (by omega)
      rw [htk] at HF
      clear htk
      have HSZ : Hid (∀ c ∈ rowM l C, c.size ≤ maxLen) := hid (fun c hc => by
        rcases rowF_mem _ _ _ _ hc with h | ⟨e, h1, rfl⟩
        · rw [List.mem_replicate] at h
          rw [h.2]; exact Nat.zero_le _
        · exact (HM.out e h1).2.2)
      go_wp2_with fail
      go_ret
      exact ⟨_, rfl, HF.out.stro (rowM_len l C) HSZ.out, HF.out.bel⟩
/-- a Good list of maps, none of them empty -/
def lomB (T : VT) : Bool := decide (T.kd = 5) && !T.ls.isEmpty && mayB 0 1 T && T.ls.all (fun t => decide (t.kd = 6) && !t.vs.isEmpty)
theorem all_not {α : Type} {f : α → Bool} {L : List α} {i : Nat} {t : α} (h : L[i]? = some t) (hf : f t = false) : L.all f = false := by
  rw [List.all_eq_false]; exact ⟨t, List.mem_of_getElem? h, by rw [hf]; decide⟩
set_option maxRecDepth 100000 in
set_option maxHeartbeats 4000000 in
theorem lom_any (T : VT) (x y : Value) (w : World) (hT : HV w T x y) (hg : Glob w) :
    Calls Tryz.prog 21 #[vv T x y] w fun e w' => e = .returned (.bool (lomB T)) ∧ Below w.heap.size w w' := by
  obtain ⟨R, hR⟩ : ∃ R, lomB T = R := ⟨_, rfl⟩
  rw [hR]
  have hb0 : ∀ o, Below w.heap.size w (w.alloc o) := fun o => valloc_bel (Below.refl _ _) o
  have HGD := hid (fun (X : World) (hX : Below w.heap.size w X) => vgood_any T x y X (hg.on hX) (hT.onto hX))
  obtain ⟨al, bl, f, g, p, q, oL, oM, cL, cM, rfl, rfl, -, -, hL3, hM3, hK, -, hlL, hlM, kL, kK, kM, rL, rM, -, -⟩ := hT.parts
  simp only [vv] at HGD ⊢
  have HkL := hid kL; have HrL := hid rL
  clear kL kK kM rL rM hK hT hg
  by_cases h5 : T.kd = 5
  · have t5 : (T.kd == 5) = true := by simpa using h5
    have t5' : (T.kd != 5) = false := by simpa using h5
    by_cases h0 : T.ls.length = 0
    · have hf : R = false := by
        rw [← hR]; unfold lomB
        rw [List.eq_nil_of_length_eq_zero h0]; simp
      subst hf
      clear hR HGD
      go_enter Tryz.func21, Tryz.ntmps21
      go_wp2_with fail
      go_ret
      exact ⟨rfl, hb0 _⟩
    · have e0 : T.ls.isEmpty = false := by cases hl : T.ls with | nil => simp [hl] at h0 | cons a r => rfl
      cases hgd : mayB 0 1 T with
      | false =>
        have hf : R = false := by rw [← hR]; unfold lomB; rw [hgd]; simp
        subst hf
        rw [hgd] at HGD
        obtain rfl := hL3 (by omega)
        clear hR hgd hL3 h5
        go_enter Tryz.func21, Tryz.ntmps21
        go_wp2_with (go_at_call 39; go_must (refine (HGD.out _ (hb0 _)).mono ?_; rintro e w2 ⟨rfl, hb2⟩))
        go_ret
        exact ⟨rfl, vonto (hb0 _) hb2⟩
      | true =>
        rw [hgd] at HGD
        have HR := hid (show R = T.ls.all (fun t => decide (t.kd = 6) && !t.vs.isEmpty) by
          rw [← hR]; unfold lomB; rw [hgd, e0, decide_eq_true h5]; simp)
        obtain rfl := hL3 (by omega)
        have hz4 := (good_sz hgd).1
        have hls4 := len_sz T
        have hls5 : T.ls.length ≤ 1000000 := by omega
        clear hR hgd h5 e0 hL3 hz4 hls4
        go_enter Tryz.func21, Tryz.ntmps21
        go_wp2_with fail
        go_at_call 39
        refine (HGD.out _ (hb0 _)).mono ?_
        rintro e w2 ⟨rfl, hb2⟩
        have z3 : w2.cell? ⟨w.heap.size, 3, none⟩ = some (.slice (some al) T.ls.length cL) := keepCell hb2 (by simp)
        have HB2 := hid (vonto (hb0 _) hb2)
        clear hb2 HGD
        go_wp2_with fail
        go_loopw [22] (fun i wr => ∃ j : Nat, i = .int .i64 j ∧ j ≤ T.ls.length ∧ Hid (∀ k t, k < j → T.ls[k]? = some t → (decide (t.kd = 6) && !t.vs.isEmpty) = true) ∧ Hid (Below w.heap.size w wr)) (fun i _ => T.ls.length - (intOf i).toNat)
        case atStart => exact ⟨0, rfl, Nat.zero_le _, fun k t h => absurd h (Nat.not_lt_zero _), HB2⟩
        case round =>
          obtain ⟨j, rfl, hj, HJ, HB⟩ := hrel
          by_cases hlt : j < T.ls.length
          · obtain ⟨t, ht⟩ : ∃ t, T.ls[j]? = some t := ⟨T.ls[j], List.getElem?_eq_getElem hlt⟩
            obtain ⟨d0, d1, d2, d3, d4⟩ := (HkL.out j t ht).onto HB.out
            obtain ⟨al', bl', -, -, -, -, oL', oM', cL', cM', hf, hg', -⟩ := (HrL.out j t ht).parts
            rw [hf] at d3
            rw [hg'] at d4
            have HTT := hid ht
            clear hf hg' ht
            by_cases h6 : t.kd = 6
            · have t6 : (t.kd == 6) = true := by simpa using h6
              have t6' : (t.kd != 6) = false := by simpa using h6
              by_cases hv0 : t.vs.length = 0
              · have hR0 : R = false := by
                  rw [HR.out]
                  refine all_not HTT.out ?_
                  rw [List.eq_nil_of_length_eq_zero hv0]; simp
                subst hR0
                go_wp2_with fail
                go_ret
                exact ⟨rfl, vonto HB.out (valloc_bel (Below.refl _ _) _)⟩
              · have HJ2 := hid (show ∀ k s, k < j + 1 → T.ls[k]? = some s → (decide (s.kd = 6) && !s.vs.isEmpty) = true from fun k s hk hs => by
                  by_cases e : k = j
                  · subst e; rw [HTT.out] at hs; cases hs
                    rw [decide_eq_true h6, Bool.true_and]
                    cases hl : t.vs with
                    | nil => simp [hl] at hv0
                    | cons a r => rfl
                  · exact HJ.out k s (by omega) hs)
                go_wp2_with fail
                go_roundw
                case rel => exact ⟨j + 1, val_int (by omega), hlt, HJ2, hid (vonto HB.out (valloc_bel (Below.refl _ _) _))⟩
                case measure => simp [intOf]; omega
            · have t6 : (t.kd == 6) = false := by simpa using h6
              have t6' : (t.kd != 6) = true := by simpa using h6
              have hR0 : R = false := by
                rw [HR.out]
                refine all_not HTT.out ?_
                rw [decide_eq_false h6]; rfl
              subst hR0
              go_wp2_with fail
              go_ret
              exact ⟨rfl, vonto HB.out (valloc_bel (Below.refl _ _) _)⟩
          · have hR0 : R = true := by
              rw [HR.out, List.all_eq_true]
              intro t ht
              obtain ⟨k, hk⟩ := List.getElem?_of_mem ht
              exact HJ.out k t (by have := lt_of_some hk; omega) hk
            subst hR0
            go_wp2_with fail
            go_ret
            exact ⟨rfl, HB.out⟩
  · have hf : R = false := by rw [← hR]; unfold lomB; rw [decide_eq_false h5]; rfl
    have t5 : (T.kd == 5) = false := by simpa using h5
    have t5' : (T.kd != 5) = true := by simpa using h5
    subst hf
    clear hR HGD
    go_enter Tryz.func21, Tryz.ntmps21
    go_wp2_with fail
    go_ret
    exact ⟨rfl, hb0 _⟩
end Go.Proofs.YtjcgkihkjjaefaaGreatDoor
