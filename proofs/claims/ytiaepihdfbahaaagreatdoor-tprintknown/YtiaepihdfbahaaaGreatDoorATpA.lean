/- tprint: a key; what is endless. -/
import Derived.Test.YtiaepihdfbahaaaGreatDoorAEscK
import Derived.Test.YtiaepihdfbahaaaGreatDoorATlK
namespace Go.Proofs.YtiaepihdfbahaaaGreatDoor
open Go.RowKit

/-- a key, written -/
def pkB (l : List UInt8) : List UInt8 := if brB l = true then l else qtA true l
set_option maxRecDepth 100000 in
set_option maxHeartbeats 1000000 in
theorem tpkey_any (s : ByteArray) (w : World) (hs : s.size ≤ 100000) :
    Calls Tryz.prog 13 #[.string s] w fun e w' => e = .returned (.string (mkS (pkB s.data.toList))) ∧ Below w.heap.size w w' := by
  have CB := hid (fun X => bare_any s X (by unfold maxLen; omega))
  have CQ := hid (fun X => tquote_any s X hs)
  have CL := hid (fun X => tclone_any s X (by omega))
  have hp : pkB s.data.toList = if brB s.data.toList = true then s.data.toList else qtA true s.data.toList := rfl
  cases hb : brB s.data.toList with
  | true =>
    rw [hb] at CB
    have HP : Hid (mkS (pkB s.data.toList) = s) := hid (by rw [hp, hb]; exact (mkS_of s _ rfl).symm)
    clear hp hb CQ
    go_enter Tryz.func13, Tryz.ntmps13
    go_wp2_with (first
      | (go_at_call 23; go_must (refine (CB.out _).mono ?_; rintro e w1 ⟨rfl, hb1⟩))
      | (go_at_call 24; go_must (refine (CL.out _).mono ?_; rintro e w2 ⟨rfl, hb2⟩)))
    go_ret
    exact ⟨by rw [HP.out]; rfl, vonto hb1 hb2⟩
  | false =>
    rw [hb] at CB
    have HP : Hid (mkS (pkB s.data.toList) = mkS (qtA true s.data.toList)) := hid (by rw [hp, hb]; rfl)
    clear hp hb CL
    go_enter Tryz.func13, Tryz.ntmps13
    go_wp2_with (first
      | (go_at_call 23; go_must (refine (CB.out _).mono ?_; rintro e w1 ⟨rfl, hb1⟩))
      | (go_at_call 25; go_must (refine (CQ.out _).mono ?_; rintro e w2 ⟨rfl, hb2⟩)))
    go_ret
    exact ⟨by rw [HP.out]; rfl, vonto hb1 hb2⟩
/-- is a stamp one of those that are among numbers? -/
theorem tn_kind (l : List UInt8) : decide ((tnR l).kd = 7) = infB (unS l) := by
  unfold tnR
  cases h : infB (unS l) with
  | true => rw [if_pos rfl]; rfl
  | false =>
    rw [if_neg (by decide), decide_eq_false_iff_not]
    have hi : ∀ o, ¬ (intR o).kd = 7 := fun o => by
      cases o with
      | none => decide
      | some v => show ¬ (2 : Int) = 7; decide
    split
    · exact hi _
    · split
      · exact hi _
      · split
        · unfold nuR numR
          split
          · split
            · split
              · intro k; exact absurd k (by show ¬ (2 : Int) = 7; decide)
              · intro k; exact absurd k (by show ¬ (3 : Int) = 7; decide)
            · decide
          · decide
        · decide
theorem tn_inf0 (l : List UInt8) (h : infB (unS l) = true) : tnE l = 0 := by unfold tnE; rw [if_pos h]
set_option maxRecDepth 100000 in
set_option maxHeartbeats 1000000 in
theorem tpend_any (s : ByteArray) (w : World) (hs : s.size ≤ 1000000) (hg : GlobN w) :
    Calls Tryz.prog 37 #[.string s] w fun e w' => e = .returned (.bool (infB (unS s.data.toList))) ∧ Below w.heap.size w w' := by
  have CN := hid (fun X (hX : Below w.heap.size w X) => tnumber_any s X hs (hg.on hX))
  have hk := tn_kind s.data.toList
  have h0 := tn_inf0 s.data.toList
  obtain ⟨k, n, x, hv⟩ := vv_parts (tnR s.data.toList)
  rw [hv] at CN
  have hkk : (tnR s.data.toList).kd = k := by unfold vv at hv; injection hv with hv; simp at hv; exact hv.1
  rw [hkk] at hk
  generalize tnE s.data.toList = er at *
  generalize infB (unS s.data.toList) = R at *
  have HB0 := hid (Below.refl w.heap.size w)
  clear hv hkk hg
  by_cases her : er = 0
  · subst her
    have g1 : ((0 : Int) == 0) = true := rfl
    cases R with
    | true =>
      have hk7 : k = 7 := of_decide_eq_true hk
      subst hk7
      go_enter Tryz.func37, Tryz.ntmps37
      go_wp2_with fail
      go_at_call 62
      refine (CN.out _ HB0.out).mono ?_
      rintro e w1 ⟨rfl, hb1⟩
      have HB1 := hid hb1
      clear hb1 CN
      go_wp2_with fail
      go_ret
      repeat (first | exact ⟨rfl, HB1.out⟩ | exact ⟨rfl, valloc_bel HB1.out _⟩)
    | false =>
      have hk7 : ¬ k = 7 := of_decide_eq_false hk
      have g7 : (k == 7) = false := beq_eq_false_iff_ne.2 hk7
      go_enter Tryz.func37, Tryz.ntmps37
      go_wp2_with fail
      go_at_call 62
      refine (CN.out _ HB0.out).mono ?_
      rintro e w1 ⟨rfl, hb1⟩
      have HB1 := hid hb1
      clear hb1 CN
      go_wp2_with fail
      go_ret
      repeat (first | exact ⟨rfl, HB1.out⟩ | exact ⟨rfl, valloc_bel HB1.out _⟩)
  · have hR : R = false := by cases R; rfl; exact absurd (h0 rfl) her
    subst hR
    have g1 : (er == 0) = false := beq_eq_false_iff_ne.2 her
    go_enter Tryz.func37, Tryz.ntmps37
    go_wp2_with fail
    go_at_call 62
    refine (CN.out _ HB0.out).mono ?_
    rintro e w1 ⟨rfl, hb1⟩
    have HB1 := hid hb1
    clear hb1 CN
    go_wp2_with fail
    go_ret
    repeat (first | exact ⟨rfl, HB1.out⟩ | exact ⟨rfl, valloc_bel HB1.out _⟩)
end Go.Proofs.YtiaepihdfbahaaaGreatDoor
