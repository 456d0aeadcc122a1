/- value.Map, walked. -/
import Derived.Test.YtkhjahpkbjafaaaGreatDoorUVSorts
import Derived.Test.YtkhjahpkbjafaaaGreatDoorUVTextAll
import Derived.Test.YtkhjahpkbjafaaaGreatDoorUVPlus
import Derived.Test.YtkhjahpkbjafaaaGreatDoorUMathRead
/- Plain mathematics: parts with a comma between; how great what is read can be. -/
namespace Go.Proofs.YtkhjahpkbjafaaaGreatDoor
open Go.RowKit

theorem szL_perm {L M : List VT} (h : L.Perm M) : szL L = szL M := by
  induction h with
  | nil => rfl
  | cons x _ ih => simp only [szL, ih]
  | swap x y l => simp only [szL]; omega
  | trans _ _ h1 h2 => omega
set_option maxRecDepth 100000 in
set_option maxHeartbeats 2000000 in
theorem vmap_any (A : List (ByteArray × VT)) (w : World) (b off cap : Nat) (hA : InM w (A.map (·.1)) (A.map (·.2)) (.slice (some ⟨b, off, none⟩) A.length cap)) (h0 : 0 < A.length) (hl : szL (A.map (·.2)) ≤ 999999) :
    Calls Tryz.prog 93 #[.slice (some ⟨b, off, none⟩) A.length cap] w fun e w' => ∃ A' X Y, A'.Perm A ∧ Rising A' ∧ e = .returned (.tuple #[vv (mapR A') X Y, .int .i64 (keI (A'.map (·.1)))]) ∧ HF w' w.heap.size w'.heap.size (mapR A') X Y ∧ Below w.heap.size w w' := by
  have hlen : A.length ≤ 1000000 := by have := len_szL (A.map (·.2)); simp at this; omega
  have HCL := hid (fun (X : World) (hX : Below w.heap.size w X) => cloneP_any A X b off cap (hA.onto hX) h0 hlen)
  have HL := hid hl
  clear hA hl
  go_enter Tryz.func93, Tryz.ntmps93
  go_wp2_with fail
  go_at_call 116
  refine (HCL.out _ (valloc_bel (Below.refl _ _) _)).mono ?_
  rintro e w1 ⟨g, cap', rfl, hc1, hc2, hg1, hg2, hH, hb1⟩
  have R1 := hid (box_row hb1)
  have HB1 := hid (vonto (valloc_bel (Below.refl w.heap.size w) _) hb1)
  have HH := hid hH
  have hg3 : w.heap.size < g := by have := hg1; simp at this; omega
  have HS1 := hid hb1
  clear hH hb1 hg1
  go_wp2_with fail
  go_at_call 117
  refine (sortf_any A _ w1 g cap' HH.out hg2 hlen).mono ?_
  rintro e w2 ⟨rfl, A', hperm, hrise, hH2, hch⟩
  have hlen2 : A'.length = A.length := hperm.length_eq
  have HB2 := hid (HB1.out.trans (hch.below (show w.heap.size ≤ g by omega) HB1.out.size))
  have HBS := hid (HS1.out.trans (hch.below (show (w.alloc _).heap.size ≤ g by rw [World.size_alloc]; omega) HS1.out.size))
  have R2 := hid (R1.out.onto (hch.block _ R1.out.lt (by omega)))
  have hin := held_in (cap := cap') hH2 HBS.out (by omega) hc2
  rw [hlen2] at hin
  have HIN := hid hin
  have HP := hid hperm
  have HRI := hid hrise
  have HZ2 := hid (show szL (A'.map (·.2)) ≤ 999999 by rw [szL_perm (hperm.map (·.2))]; exact HL.out)
  clear hin hperm hrise hH2 hch
  go_wp2_with fail
  go_at_call 120
  refine (kerr_any _ _ _ w2 HIN.out).mono ?_
  rintro e w3 ⟨rfl, hb3⟩
  have R3 := hid (R2.out.onto (hb3.block _ R2.out.lt))
  have HB3 := hid (vonto HB2.out hb3)
  have HIN3 := hid (HIN.out.onto hb3)
  have HMR := hid (show mapR A' = if keI (A'.map (·.1)) = 0 then .mk 6 0 ⟨#[]⟩ [] (A'.map (·.1)) (A'.map (·.2)) else zeroT from rfl)
  obtain ⟨z, hz⟩ : ∃ z, keI (A'.map (·.1)) = z := ⟨_, rfl⟩
  have HZ := hid hz
  rw [hz] at HMR ⊢
  clear hb3 hz
  by_cases hz0 : z = 0
  · have tz : (z != 0) = false := by simpa using hz0
    rw [if_pos hz0] at HMR
    have HZ0 := hid hz0
    clear hz0
    have hCM : ∀ (i : Nat) (t : VT), (A'.map (·.2))[i]? = some t → CopyOk t := fun i t h => vcopy_any (szT t) t (Nat.le_refl _) (by have := szL_get _ i t h; have := HZ2.out; omega)
    have HMM := hid (copypairs_of _ _ _ w3 hCM HIN3.out (by have := hlen2; simp; omega))
    clear hCM
    go_wp2_with fail
    go_at_call 121
    refine HMM.out.mono ?_
    rintro e w4 ⟨Y, rfl, hY, hb4⟩
    obtain ⟨pY, nY, cY, rfl⟩ := hY.slice
    have HY := hid hY
    have R0 := hid (R3.out.onto (hb4.block _ R3.out.lt))
    have HB4 := hid (vonto HB3.out hb4)
    have hs3 : w.heap.size < w3.heap.size := R3.out.lt
    have hs4 := hb4.size
    clear hY hb4
    obtain ⟨u0, e0⟩ := R0.out.cell (o := 0) (by decide)
    obtain ⟨u1, e1⟩ := R0.out.cell (o := 1) (by decide)
    obtain ⟨u2, e2⟩ := R0.out.cell (o := 2) (by decide)
    obtain ⟨u3, e3⟩ := R0.out.cell (o := 3) (by decide)
    obtain ⟨u4, e4⟩ := R0.out.cell (o := 4) (by decide)
    have z0 := R0.out.frozen
    go_wp2_with fail
    refine bodyPost_ret (v := .tuple #[vv (.mk 6 0 ⟨#[]⟩ [] (A'.map (·.1)) (A'.map (·.2))) (.slice none 0 0) (.slice pY nY cY), .int .i64 0]) (by simp [results, Tryz.results93, go_sem, vv, VT.kd, VT.nm, VT.st, e0, e1, e2, e3, e4]) rfl ⟨A', .slice none 0 0, .slice pY nY cY, HP.out, HRI.out, by rw [HMR.out, HZ.out, HZ0.out], ?_, ?_⟩
    · rw [HMR.out]
      change HF (put5 w4 w.heap.size 0 (.int .i64 6) (.int .i64 0) (.string ⟨#[]⟩) (.slice none 0 0) (.slice pY nY cY)) w.heap.size (put5 w4 w.heap.size 0 (.int .i64 6) (.int .i64 0) (.string ⟨#[]⟩) (.slice none 0 0) (.slice pY nY cY)).heap.size _ _ _
      rw [put5_size]
      refine hf_of (m := w3.heap.size) list_wf.2.1 list_wf.2.2 (by decide) (by omega) hs4 (lf_nil _ _ _) ?_
      exact HY.out.onto (fun k g1 g2 => put5_heap _ _ _ _ _ _ _ _ _ (by omega))
    · exact vset_bel (vset_bel (vset_bel (vset_bel (vset_bel HB4.out (by simp)) (by simp)) (by simp)) (by simp)) (by simp)
  · have tz : (z != 0) = true := by simpa using hz0
    rw [if_neg hz0] at HMR
    clear hz0
    obtain ⟨u0, e0⟩ := R3.out.cell (o := 0) (by decide)
    obtain ⟨u1, e1⟩ := R3.out.cell (o := 1) (by decide)
    obtain ⟨u2, e2⟩ := R3.out.cell (o := 2) (by decide)
    obtain ⟨u3, e3⟩ := R3.out.cell (o := 3) (by decide)
    obtain ⟨u4, e4⟩ := R3.out.cell (o := 4) (by decide)
    have z0 := R3.out.frozen
    go_wp2_with fail
    refine bodyPost_ret (v := .tuple #[vv zeroT (.slice none 0 0) (.slice none 0 0), .int .i64 z]) (by simp [results, Tryz.results93, go_sem, vv, zeroT, VT.kd, VT.nm, VT.st, e0, e1, e2, e3, e4]) rfl ⟨A', .slice none 0 0, .slice none 0 0, HP.out, HRI.out, by rw [HMR.out, HZ.out], ?_, ?_⟩
    · rw [HMR.out]
      exact hf_zero _ _ _ (by simp; exact HB3.out.size)
    · exact vset_bel (vset_bel (vset_bel (vset_bel (vset_bel HB3.out (by simp)) (by simp)) (by simp)) (by simp)) (by simp)
set_option maxRecDepth 100000 in
set_option maxHeartbeats 2000000 in
theorem vmap_nil (w : World) :
    Calls Tryz.prog 93 #[.slice none 0 0] w fun e w' => ∃ X Y, e = .returned (.tuple #[vv (.mk 6 0 ⟨#[]⟩ [] [] []) X Y, .int .i64 0]) ∧ HF w' w.heap.size w'.heap.size (.mk 6 0 ⟨#[]⟩ [] [] []) X Y ∧ Below w.heap.size w w' := by
  have HCL := hid (fun X : World => AnyE.slices_Clone_nil Tryz.laysClone 0 0 X)
  have HSF := hid (fun X : World => AnyF.slices_SortFunc_none { Tryz.laysSort with } none 0 (.func (.func 118) #[] #[]) X)
  have HK := hid (fun X : World => kerr_any [] [] _ X (in_nil X))
  have HC := hid (fun X : World => copypairs_of [] [] _ X (fun i t h => by simp at h) (in_nil X) (by simp))
  go_enter Tryz.func93, Tryz.ntmps93
  go_wp2_with (first
    | (go_at_call 116; go_must (refine Calls.mono (HCL.out _) ?_; rintro e w1 ⟨rfl, rfl⟩))
    | (go_at_call 117; go_must (refine Calls.mono (HSF.out _) ?_; rintro e w1 ⟨rfl, rfl⟩)))
  go_at_call 120
  refine (HK.out _).mono ?_
  rintro e w3 ⟨rfl, hb3⟩
  rw [show keI [] = 0 from rfl]
  have R3 := hid (box_row hb3)
  have HB3 := hid (vonto (valloc_bel (Below.refl w.heap.size w) _) hb3)
  clear hb3
  go_wp2_with fail
  go_at_call 121
  refine (HC.out _).mono ?_
  rintro e w4 ⟨Y, rfl, hY, hb4⟩
  obtain ⟨pY, nY, cY, rfl⟩ := hY.slice
  have HY := hid hY
  have R0 := hid (R3.out.onto (hb4.block _ R3.out.lt))
  have HB4 := hid (vonto HB3.out hb4)
  have hs3 : w.heap.size < w3.heap.size := R3.out.lt
  have hs4 := hb4.size
  clear hY hb4
  obtain ⟨u0, e0⟩ := R0.out.cell (o := 0) (by decide)
  obtain ⟨u1, e1⟩ := R0.out.cell (o := 1) (by decide)
  obtain ⟨u2, e2⟩ := R0.out.cell (o := 2) (by decide)
  obtain ⟨u3, e3⟩ := R0.out.cell (o := 3) (by decide)
  obtain ⟨u4, e4⟩ := R0.out.cell (o := 4) (by decide)
  have z0 := R0.out.frozen
  go_wp2_with fail
  refine bodyPost_ret (v := .tuple #[vv (.mk 6 0 ⟨#[]⟩ [] [] []) (.slice none 0 0) (.slice pY nY cY), .int .i64 0]) (by simp [results, Tryz.results93, go_sem, vv, VT.kd, VT.nm, VT.st, e0, e1, e2, e3, e4]) rfl ⟨.slice none 0 0, .slice pY nY cY, rfl, ?_, ?_⟩
  · change HF (put5 w4 w.heap.size 0 (.int .i64 6) (.int .i64 0) (.string ⟨#[]⟩) (.slice none 0 0) (.slice pY nY cY)) w.heap.size (put5 w4 w.heap.size 0 (.int .i64 6) (.int .i64 0) (.string ⟨#[]⟩) (.slice none 0 0) (.slice pY nY cY)).heap.size _ _ _
    rw [put5_size]
    refine hf_of (m := w3.heap.size) list_wf.2.1 list_wf.2.2 (by decide) (by omega) hs4 (lf_nil _ _ _) ?_
    exact HY.out.onto (fun k g1 g2 => put5_heap _ _ _ _ _ _ _ _ _ (by omega))
  · exact vset_bel (vset_bel (vset_bel (vset_bel (vset_bel HB4.out (by simp)) (by simp)) (by simp)) (by simp)) (by simp)
end Go.Proofs.YtkhjahpkbjafaaaGreatDoor
namespace Go.Proofs.YtkhjahpkbjafaaaGreatDoor
open Go.RowKit

/-- what reading a part, or parts, ends in -/
inductive Sd (σ : Type) where
  | ok (s : σ) (n : Nat) (ws : List Wd)
  | bad (er at_ : Nat)
section
variable {σ : Type} (c : UInt8) (S : Nat → σ → Nat → List Wd → Sd σ)
def ptM : Nat → σ → Nat → List Wd → Sd σ
  | 0, _, _, _ => .bad 4 0
  | f + 1, s, n, ws => match S f s n ws with
    | .bad e a => .bad e a
    | .ok s' m q => if isM c q = true then .ok s' m q.tail else if isM 44 q = true then ptM f s' m q.tail else .bad 4 (atW q)
/-- behind a part -/
def ptL (f : Nat) (s : σ) (m : Nat) (q : List Wd) : Sd σ := if isM c q = true then .ok s m q.tail else if isM 44 q = true then ptM c S f s m q.tail else .bad 4 (atW q)
theorem ptM_bad {f : Nat} {s : σ} {n : Nat} {ws : List Wd} {e a : Nat} (h : S f s n ws = .bad e a) : ptM c S (f + 1) s n ws = .bad e a := by rw [ptM, h]
theorem ptM_ok {f : Nat} {s s' : σ} {n m : Nat} {ws q : List Wd} (h : S f s n ws = .ok s' m q) : ptM c S (f + 1) s n ws = ptL c S f s' m q := by rw [ptM, h]; rfl
end
def Sd.rd {σ : Type} (g : σ → VT) : Sd σ → Rd
  | .ok s n ws => .ok (g s) n ws
  | .bad e a => .bad e a
/-- a part of a list -/
def stL (d f : Nat) (s : List VT) (n : Nat) (ws : List Wd) : Sd (List VT) := match jrV f (d + 1) n ws with
  | .bad e a => .bad e a
  | .ok t m q => .ok (s ++ [t]) m q
/-- a part of a map -/
def stP (d f : Nat) (s : List (ByteArray × VT)) (n : Nat) : List Wd → Sd (List (ByteArray × VT))
  | [] => .bad 4 0
  | x :: r =>
    if ¬ x.kd = 2 then .bad 4 x.at_
    else if (findK (mkS x.tx) (s.map (·.1)) (s.map (·.2))).isSome = true then .bad 5 x.at_
    else if ¬ isM 58 r = true then .bad 4 (atW r)
    else match jrV f (d + 1) n r.tail with
      | .bad e a => .bad e a
      | .ok t m q => .ok (insP (mkS x.tx) t false s) m q
theorem isM_two {a c : UInt8} {q : List Wd} (h : a ≠ c) (ha : isM a q = true) : isM c q = false := by
  cases q with
  | nil => rfl
  | cons x r =>
    simp only [isM, decide_eq_true_eq] at ha
    simp only [isM, decide_eq_false_iff_not]
    intro hc
    rw [ha.2] at hc
    simp only [List.cons.injEq, and_true] at hc
    exact h hc.2
theorem jrL_pt (d : Nat) : ∀ (f n : Nat) (acc : List VT) (ws : List Wd), jrL f d n acc ws = (ptM 93 (stL d) f acc n ws).rd listT
  | 0, n, acc, ws => by rw [jrL, ptM]; rfl
  | f + 1, n, acc, ws => by
    rw [jrL, ptM]
    unfold stL
    cases hv : jrV f (d + 1) n ws with
    | bad e a => rfl
    | ok t m q =>
      simp only
      by_cases h44 : isM 44 q = true
      · rw [if_pos h44, if_neg (by rw [isM_two (by decide) h44]; decide), if_pos h44]
        exact jrL_pt d f m (acc ++ [t]) q.tail
      · rw [if_neg h44]
        by_cases h93 : isM 93 q = true
        · rw [if_pos h93, if_pos h93]; rfl
        · rw [if_neg h93, if_neg h93, if_neg h44]; rfl
theorem jrP_pt (d : Nat) : ∀ (f n : Nat) (acc : List (ByteArray × VT)) (ws : List Wd), jrP f d n acc ws = (ptM 125 (stP d) f acc n ws).rd mapT
  | 0, n, acc, ws => by rw [jrP, ptM]; rfl
  | f + 1, n, acc, [] => by rw [jrP, ptM]; rfl
  | f + 1, n, acc, x :: r => by
    rw [jrP, ptM]
    unfold stP
    dsimp only
    by_cases h0 : ¬ x.kd = 2
    · rw [if_pos h0, if_pos h0]; rfl
    rw [if_neg h0, if_neg h0]
    by_cases h1 : (findK (mkS x.tx) (acc.map (·.1)) (acc.map (·.2))).isSome = true
    · rw [if_pos h1, if_pos h1]; rfl
    rw [if_neg h1, if_neg h1]
    by_cases h2 : ¬ isM 58 r = true
    · rw [if_pos h2, if_pos h2]; rfl
    rw [if_neg h2, if_neg h2]
    cases hv : jrV f (d + 1) n r.tail with
    | bad e a => rfl
    | ok t m q =>
      simp only
      by_cases h44 : isM 44 q = true
      · rw [if_pos h44, if_neg (by rw [isM_two (by decide) h44]; decide), if_pos h44]
        exact jrP_pt d f m _ q.tail
      · rw [if_neg h44]
        by_cases h93 : isM 125 q = true
        · rw [if_pos h93, if_pos h93]; rfl
        · rw [if_neg h93, if_neg h93, if_neg h44]; rfl
theorem szL_app : ∀ (L M : List VT), szL (L ++ M) = szL L + szL M
  | [], M => by simp [szL]
  | t :: L, M => by rw [List.cons_append, szL, szL, szL_app L M]; omega
theorem szL_map_ins (k : ByteArray) (t : VT) : ∀ (d : Bool) (P : List (ByteArray × VT)), szL ((insP k t d P).map (·.2)) ≤ szL (P.map (·.2)) + (if d then 0 else szT t)
  | d, [] => by cases d <;> simp [insP, szL]
  | d, a :: r => by
    have ih := szL_map_ins k t (d || !(ltB a.1.data.toList k.data.toList)) r
    rw [insP, List.map_append, List.map_append, szL_app, szL_app, List.map_cons, szL]
    have h1 : szL ((if a.1.data.toList = k.data.toList then [] else [a]).map (·.2)) ≤ szT a.2 := by
      split <;> simp [szL]
    cases d with
    | true =>
      simp only [Bool.true_or, if_true, Bool.not_true, Bool.false_and, Bool.false_eq_true, if_false, List.map_nil, szL] at ih ⊢
      omega
    | false =>
      cases hl : ltB a.1.data.toList k.data.toList with
      | true =>
        rw [hl] at ih
        simp only [Bool.not_true, Bool.or_false, Bool.false_eq_true, if_false, Bool.and_false, List.map_nil, szL] at ih ⊢
        omega
      | false =>
        rw [hl] at ih
        simp only [Bool.not_false, Bool.or_true, if_true, Bool.and_self, List.map_cons, List.map_nil, szL, Bool.false_eq_true, if_false] at ih ⊢
        omega
/-- a value has no more nodes than were begun for it -/
theorem jr_sz : ∀ f : Nat, (∀ d n ws t m q, jrV f d n ws = .ok t m q → szT t + n ≤ m) ∧
    (∀ d n acc ws t m q, jrL f d n acc ws = .ok t m q → szT t + n ≤ m + 1 + szL acc) ∧
    (∀ d n acc ws t m q, jrP f d n acc ws = .ok t m q → szT t + n ≤ m + 1 + szL (acc.map (·.2)))
  | 0 => ⟨fun d n ws t m q h => (by rw [jrV] at h; cases h), fun d n acc ws t m q h => (by rw [jrL] at h; cases h), fun d n acc ws t m q h => (by rw [jrP] at h; cases h)⟩
  | f + 1 => by
    obtain ⟨ihV, ihL, ihP⟩ := jr_sz f
    have lf : ∀ k n s, szT (leafT k n s) = 1 := fun k n s => by simp [leafT, szT, szL]
    refine ⟨fun d n ws t m q h => ?_, fun d n acc ws t m q h => ?_, fun d n acc ws t m q h => ?_⟩
    · cases ws with
      | nil => rw [jrV] at h; cases h
      | cons x r =>
        rw [jrV] at h
        split at h
        · cases h
        · split at h
          · cases h
          · split at h
            · injection h with e1 e2 e3; subst e1 e2; rw [lf]; omega
            · split at h
              · injection h with e1 e2 e3; subst e1 e2; unfold numT; split <;> rw [lf] <;> omega
              · split at h
                · injection h with e1 e2 e3; subst e1 e2; unfold litT; (repeat' split) <;> rw [lf] <;> omega
                · split at h
                  · split at h
                    · injection h with e1 e2 e3; subst e1 e2; simp [listT, szT, szL]; omega
                    · have := ihL _ _ _ _ _ _ _ h; simp only [szL] at this; omega
                  · split at h
                    · injection h with e1 e2 e3; subst e1 e2; simp [mapT, szT, szL]; omega
                    · have := ihP _ _ _ _ _ _ _ h; simp only [List.map_nil, szL] at this; omega
    · rw [jrL] at h
      cases hv : jrV f (d + 1) n ws with
      | bad e a => rw [hv] at h; cases h
      | ok t' m' q' =>
        rw [hv] at h
        simp only at h
        have h2 := ihV _ _ _ _ _ _ hv
        have h3 : szL (acc ++ [t']) = szL acc + szT t' := by rw [szL_app]; simp [szL]
        split at h
        · have := ihL _ _ _ _ _ _ _ h; omega
        · split at h
          · injection h with e1 e2 e3; subst e1 e2
            simp only [listT, szT, szL]
            omega
          · cases h
    · cases ws with
      | nil => rw [jrP] at h; cases h
      | cons x r =>
        rw [jrP] at h
        split at h
        · cases h
        · split at h
          · cases h
          · split at h
            · cases h
            · cases hv : jrV f (d + 1) n r.tail with
              | bad e a => rw [hv] at h; cases h
              | ok t' m' q' =>
                rw [hv] at h
                simp only at h
                have h2 := ihV _ _ _ _ _ _ hv
                have h3 := szL_map_ins (mkS x.tx) t' false acc
                simp only [Bool.false_eq_true, if_false] at h3
                split at h
                · have := ihP _ _ _ _ _ _ _ h; omega
                · split at h
                  · injection h with e1 e2 e3; subst e1 e2
                    simp only [mapT, szT, szL]
                    omega
                  · cases h
end Go.Proofs.YtkhjahpkbjafaaaGreatDoor
