import Derived.Test.YtjbccmnmcjmooaaDoorCrE
/- cread's reader: a field, whole. -/
namespace Go.Proofs.YtjbccmnmcjmooaaDoor
open Go.RowKit

/-- the end of a field's reading: is it too long? -/
theorem fo_lim {t : ByteArray} {b : Nat} {w : World} {l : List UInt8} {e : Ending} {w' : World} {er : Nat} {r : List UInt8} (h : fld0 l = .bad er r) (hp : Fo t b w (fld0 l) e w') : Fo t b w (fldP l) e w' := by
  unfold fldP
  rw [h] at hp ⊢
  exact hp
set_option maxRecDepth 100000 in
set_option maxHeartbeats 4000000 in
theorem cfield_q (b : Nat) (t : ByteArray) (k : Nat) (L : List UInt8) (w : World) (h : Cr w b t k) (hk : k ≤ t.size) (hs : t.size ≤ 65536) (hL : t.data.toList.drop k = L) (h34 : L.head? = some 34) :
    Calls Tryd.prog 52 #[.pointer (some ⟨b, 0, none⟩)] w (Fo t b w (fldP L)) := by
  have hln : L.length = t.size - k := by rw [← hL, List.length_drop, size_list]
  have hl0 : 0 < L.length := by cases L with | nil => simp at h34 | cons a l => simp
  have CP := hid (cpasses_yes b t ⟨#[34]⟩ k w h hk (by omega) (by decide) (by rw [hL]; exact (hasP_one _ _).trans (decide_eq_true h34)))
  have e1 : (⟨#[34]⟩ : ByteArray).size = 1 := rfl
  rw [e1] at CP
  have HT1 : Hid (t.data.toList.drop (k + 1) = L.tail) := hid (by rw [← List.drop_drop, hL]; simp)
  have HF0 : Hid (fld0 L = qt [] L.tail) := hid (by unfold fld0; rw [if_pos h34])
  have r1 := h.r1
  clear h hL h34 e1
  go_enter Tryd.func52, Tryd.ntmps52
  go_wp2_with fail
  go_at_call 53
  refine CP.out.mono ?_
  rintro e w1 ⟨rfl, hc1, ho1⟩
  have CQ := hid (cquoted_any b t (k + 1) w1 hc1 (by omega) hs)
  rw [HT1.out, ← HF0.out] at CQ
  have HO1 := hid ho1
  clear CP hc1 ho1 HT1 HF0 r1
  go_wp2_with fail
  go_at_call 70
  refine CQ.out.mono ?_
  intro e w2 hp
  clear CQ
  cases hf : fld0 L with
  | bad er r =>
    have HPP : Hid (Fo t b w (fldP L) e w2) := hid (fo_lim hf (by rw [hf] at hp ⊢; exact ⟨hp.1, HO1.out.trans hp.2⟩))
    have hfa : cFaulted t er (t.size - r.length) e := by rw [hf] at hp; exact hp.1
    unfold cFaulted at hfa
    subst hfa
    generalize faultV t ((t.size - r.length : Nat) : Int) ((er : Nat) : Int) = fv at HPP ⊢
    generalize fldP L = FF at HPP ⊢
    clear hp hf
    go_wp2_with fail
    first
    | exact HPP.out
    | exact ⟨rfl, HPP.out⟩
    | (simp only [bodyPost]; exact HPP.out)
  | ok s r =>
    rw [hf] at hp
    obtain ⟨rfl, hc2, ho2⟩ := hp
    have hsl : s.length ≤ 65536 := by have := fld0_len _ _ _ hf; omega
    have hms : (mkS s).size = s.length := mkS_size s
    have HC2 := hid hc2
    have HO2 : Hid (Own b w w2) := hid (HO1.out.trans ho2)
    by_cases hl : 4096 < s.length
    · have HF2 : Hid (fldP L = .bad 2 L) := hid (by unfold fldP; rw [hf]; simp only [fldLim]; rw [if_pos hl])
      have CR := hid (crefuse_any b t (t.size - r.length) k 2 w2 HC2.out (by omega))
      generalize mkS s = m at hms ⊢
      clear hc2 ho2 hf
      go_wp2_with fail
      go_at_call 36
      refine CR.out.mono ?_
      rintro e w3 ⟨hfa, hb9⟩
      have HPP : Hid (Fo t b w (fldP L) e w3) := hid (by rw [HF2.out]; exact ⟨by rw [hln, show t.size - (t.size - k) = k by omega]; exact hfa, HO2.out.trans (Own.of hb9)⟩)
      unfold cFaulted at hfa
      subst hfa
      generalize faultV t ((k : Nat) : Int) ((2 : Nat) : Int) = fv at HPP ⊢
      generalize fldP L = FF at HPP ⊢
      clear hb9 HF2
      go_wp2_with fail
      first
      | exact HPP.out
      | exact ⟨rfl, HPP.out⟩
      | (simp only [bodyPost]; exact HPP.out)
    · have HF2 : Hid (fldP L = .ok s r) := hid (by unfold fldP; rw [hf]; simp only [fldLim]; rw [if_neg hl])
      have HMS : Hid (∃ m, mkS s = m) := hid ⟨_, rfl⟩
      obtain ⟨m, hm⟩ := HMS.out
      have HMM := hid hm
      rw [hm] at hms ⊢
      clear hc2 ho2 hf hm HMS
      go_wp2_with fail
      go_ret
      rw [HF2.out]
      exact ⟨by rw [HMM.out]; rfl, HC2.out, HO2.out⟩
set_option maxRecDepth 100000 in
set_option maxHeartbeats 4000000 in
theorem cfield_p (b : Nat) (t : ByteArray) (k : Nat) (L : List UInt8) (w : World) (h : Cr w b t k) (hk : k ≤ t.size) (hs : t.size ≤ 65536) (hL : t.data.toList.drop k = L) (h34 : ¬ L.head? = some 34) :
    Calls Tryd.prog 52 #[.pointer (some ⟨b, 0, none⟩)] w (Fo t b w (fldP L)) := by
  have hln : L.length = t.size - k := by rw [← hL, List.length_drop, size_list]
  have CP := hid (cpasses_no b t ⟨#[34]⟩ k w h hk (by rw [hL]; exact (hasP_one _ _).trans (decide_eq_false h34)))
  have HLL := hid hL
  have HF0 : Hid (fld0 L = if (cplR L).head? = some 34 then .bad 4 (cplR L) else .ok (cplS L) (cplR L)) := hid (by unfold fld0; rw [if_neg h34])
  have r1 := h.r1
  have HC := hid h
  clear h hL h34
  go_enter Tryd.func52, Tryd.ntmps52
  go_wp2_with fail
  go_at_call 53
  refine CP.out.mono ?_
  rintro e w1 ⟨rfl, n1, hw1⟩
  have hb1 : Below w.heap.size w w1 := by rw [hw1]; exact below_drewN (Below.refl _ _) n1
  have CQ := hid (cplain_any b t k w1 (HC.out.onto hb1) hk (by omega))
  rw [HLL.out, ← HF0.out] at CQ
  have HO1 : Hid (Own b w w1) := hid (Own.of hb1)
  clear CP HC HF0 r1 HLL hb1 hw1
  go_wp2_with fail
  go_at_call 71
  refine CQ.out.mono ?_
  intro e w2 hp
  clear CQ
  cases hf : fld0 L with
  | bad er r =>
    have HPP : Hid (Fo t b w (fldP L) e w2) := hid (fo_lim hf (by rw [hf] at hp ⊢; exact ⟨hp.1, HO1.out.trans hp.2⟩))
    have hfa : cFaulted t er (t.size - r.length) e := by rw [hf] at hp; exact hp.1
    unfold cFaulted at hfa
    subst hfa
    generalize faultV t ((t.size - r.length : Nat) : Int) ((er : Nat) : Int) = fv at HPP ⊢
    generalize fldP L = FF at HPP ⊢
    clear hp hf
    go_wp2_with fail
    first
    | exact HPP.out
    | exact ⟨rfl, HPP.out⟩
    | (simp only [bodyPost]; exact HPP.out)
  | ok s r =>
    rw [hf] at hp
    obtain ⟨rfl, hc2, ho2⟩ := hp
    have hsl : s.length ≤ 65536 := by have := fld0_len _ _ _ hf; omega
    have hms : (mkS s).size = s.length := mkS_size s
    have HC2 := hid hc2
    have HO2 : Hid (Own b w w2) := hid (HO1.out.trans ho2)
    by_cases hl : 4096 < s.length
    · have HF2 : Hid (fldP L = .bad 2 L) := hid (by unfold fldP; rw [hf]; simp only [fldLim]; rw [if_pos hl])
      have CR := hid (crefuse_any b t (t.size - r.length) k 2 w2 HC2.out (by omega))
      generalize mkS s = m at hms ⊢
      clear hc2 ho2 hf
      go_wp2_with fail
      go_at_call 36
      refine CR.out.mono ?_
      rintro e w3 ⟨hfa, hb9⟩
      have HPP : Hid (Fo t b w (fldP L) e w3) := hid (by rw [HF2.out]; exact ⟨by rw [hln, show t.size - (t.size - k) = k by omega]; exact hfa, HO2.out.trans (Own.of hb9)⟩)
      unfold cFaulted at hfa
      subst hfa
      generalize faultV t ((k : Nat) : Int) ((2 : Nat) : Int) = fv at HPP ⊢
      generalize fldP L = FF at HPP ⊢
      clear hb9 HF2
      go_wp2_with fail
      first
      | exact HPP.out
      | exact ⟨rfl, HPP.out⟩
      | (simp only [bodyPost]; exact HPP.out)
    · have HF2 : Hid (fldP L = .ok s r) := hid (by unfold fldP; rw [hf]; simp only [fldLim]; rw [if_neg hl])
      have HMS : Hid (∃ m, mkS s = m) := hid ⟨_, rfl⟩
      obtain ⟨m, hm⟩ := HMS.out
      have HMM := hid hm
      rw [hm] at hms ⊢
      clear hc2 ho2 hf hm HMS
      go_wp2_with fail
      go_ret
      rw [HF2.out]
      exact ⟨by rw [HMM.out]; rfl, HC2.out, HO2.out⟩
theorem cfield_any (b : Nat) (t : ByteArray) (k : Nat) (w : World) (h : Cr w b t k) (hk : k ≤ t.size) (hs : t.size ≤ 65536) :
    Calls Tryd.prog 52 #[.pointer (some ⟨b, 0, none⟩)] w (Fo t b w (fldP (t.data.toList.drop k))) := by
  by_cases h34 : (t.data.toList.drop k).head? = some 34
  · exact cfield_q b t k _ w h hk hs rfl h34
  · exact cfield_p b t k _ w h hk hs rfl h34
end Go.Proofs.YtjbccmnmcjmooaaDoor
