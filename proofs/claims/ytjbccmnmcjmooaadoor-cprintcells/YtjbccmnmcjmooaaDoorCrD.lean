import Derived.Test.YtjbccmnmcjmooaaDoorCrC
/- cread's reader: a field without quotes. -/
namespace Go.Proofs.YtjbccmnmcjmooaaDoor
open Go.RowKit

/-- what reading a field ends in -/
def Fo (t : ByteArray) (b : Nat) (w : World) (R : CFR) (e : Ending) (w' : World) : Prop := match R with
  | .ok s r => e = .returned (.string (mkS s)) ∧ Cr w' b t (t.size - r.length) ∧ Own b w w'
  | .bad er r => cFaulted t er (t.size - r.length) e ∧ Own b w w'
theorem cix_is (l : List UInt8) : Lib.indexAny l [44, 10, 13, 34] = if cplR l = [] then -1 else ((cplS l).length : Int) := by
  have hst : ∀ c : UInt8, ([44, 10, 13, 34] : List UInt8).contains c = stopB c := fun c => by
    unfold stopB; rw [Bool.eq_iff_iff]; simp
  have hno : Lib.NoAny l [44, 10, 13, 34] (cplS l).length := fun j b hj hb => by
    rw [hst]
    have hm : b ∈ cplS l := by
      have e : l[j]? = (cplS l)[j]? := by
        conv => lhs; rw [← pln_app l]
        rw [List.getElem?_append_left hj]
      rw [e] at hb
      exact List.mem_of_getElem? hb
    unfold cplS at hm
    have hall := List.all_takeWhile (p := fun c => !stopB c) (l := l)
    have := List.all_eq_true.1 hall b hm
    simpa using this
  rcases cplR_head l with h | ⟨c, q, h, hc⟩
  · rw [if_pos h]
    refine Lib.indexAny_none ?_
    have : cplS l = l := by have := pln_app l; rw [h, List.append_nil] at this; exact this
    rw [this] at hno; exact hno
  · rw [if_neg (by rw [h]; simp)]
    refine Lib.indexAny_hit (x := c) hno ?_ (by rw [hst]; exact hc)
    have e : l[(cplS l).length]? = (cplS l ++ cplR l)[(cplS l).length]? := by rw [pln_app]
    rw [e, List.getElem?_append_right (Nat.le_refl _), h]; simp
set_option maxRecDepth 100000 in
set_option maxHeartbeats 400000 in
theorem cclone_any (s : ByteArray) (w : World) (hs : s.size ≤ 1000000) :
    Calls Tryd.prog 24 #[.string s] w fun e w' => e = .returned (.string s) ∧ Below w.heap.size w w' := by
  have C := hid (fun X => Tryd.stringslite_Clone s X (by omega))
  go_enter Tryd.func24, Tryd.ntmps24
  go_wp2_with (go_at_call 35; go_must (refine (C.out _).mono ?_; rintro e w1 ⟨rfl, hb⟩))
  go_ret
  exact ⟨rfl, hb⟩
/-- what reading a field without quotes ends in -/
def CPl (t m : ByteArray) (b kn : Nat) (w : World) : Bool → Ending → World → Prop
  | true => fun e w' => cFaulted t 4 kn e ∧ Own b w w'
  | false => fun e w' => e = .returned (.string m) ∧ Cr w' b t kn ∧ Own b w w'
theorem cset_cr {w1 : World} {b k n : Nat} {t : ByteArray} (h : Cr w1 b t k) : Cr (w1.setCell ⟨b, 1, none⟩ (.int .i64 ((k : Int) + (n : Int)))) b t (k + n) := by
  have := h.set1 (k + n)
  exact_mod_cast this
set_option maxRecDepth 100000 in
set_option maxHeartbeats 2000000 in
theorem cplain_core (b : Nat) (t M m : ByteArray) (k n : Nat) (found Q : Bool) (w : World) (h : Cr w b t k) (hk : k + n ≤ t.size) (hs : t.size ≤ 1000000)
    (hE : t.extract k t.size = M) (hF : found = true → M.extract 0 n = m) (hN : found = false → M = m) (z1 : m.size = n) (z2 : M.size = t.size - k)
    (hI : ∀ X, Calls Tryd.prog 33 #[.string M, .string ⟨#[44, 10, 13, 34]⟩] X fun e w' => e = .returned (.int .i64 (if found = true then (n : Int) else -1)) ∧ Below X.heap.size X w')
    (hS : ∀ X, Cr X b t (k + n) → Calls Tryd.prog 72 #[.pointer (some ⟨b, 0, none⟩), .string ⟨#[34]⟩] X fun e w' => e = .returned (.bool Q) ∧ ∃ n, w' = X.drewN n) :
    Calls Tryd.prog 71 #[.pointer (some ⟨b, 0, none⟩)] w (CPl t m b (k + n) w Q) := by
  have CI := hid hI
  have CS := hid hS
  have CR := hid (fun X h => crefuse_any b t (k + n) (k + n) 4 X h hs)
  have CC := hid (fun X => cclone_any m X (by omega))
  have HE := hid hE
  have HXF := hid hF
  have HN := hid hN
  have HC := hid h
  have r0 := h.r0
  have r1 := h.r1
  have hkk : k ≤ t.size := by omega
  have hnM : n ≤ M.size := by omega
  clear hI hS hE hF hN h
  cases found with
  | true =>
    rw [if_pos rfl] at CI
    have HXF := hid (HXF.out rfl)
    clear HN
    cases Q with
    | true =>

      go_enter Tryd.func71, Tryd.ntmps71
      go_wp2_with fail
      go_quiet (fail)
      rw [HE.out]
      go_wp2_with fail
      go_at_call 33
      refine (CI.out _).mono ?_
      rintro e w1 ⟨rfl, hb1⟩
      have HC1 := hid ((HC.out.drewN nq).onto hb1)
      have HO1 : Hid (Own b w w1) := hid (Own.of (vonto (below_drewN (Below.refl _ _) nq) hb1))
      have r0 := HC1.out.r0
      have r1 := HC1.out.r1
      have rf := HC1.out.row.frozen
      clear hb1 CI
      go_upto_region 5 with fail
      rw [HXF.out]
      go_wp2_with fail
      have HC2 := hid (cset_cr (n := n) HC1.out)
      have HO2 := hid (HO1.out.set 1 (.int .i64 ((k : Int) + (n : Int))))
      clear r0 r1
      go_at_call 72
      refine (CS.out _ HC2.out).mono ?_
      rintro e w2 ⟨rfl, n2, hw2⟩
      have HC3 : Hid (Cr w2 b t (k + n)) := hid (by rw [hw2]; exact HC2.out.drewN n2)
      have HO3 : Hid (Own b w w2) := hid (by rw [hw2]; exact HO2.out.trans (Own.of (below_drewN (Below.refl _ _) n2)))
      have s1 := HC3.out.r1
      clear hw2 CS
      go_wp2_with fail
      go_at_call 36
      refine (CR.out _ HC3.out).mono ?_
      rintro e w3 ⟨hfa, hb3⟩
      have HPP : Hid (CPl t m b (k + n) w true e w3) := hid ⟨hfa, HO3.out.trans (Own.of hb3)⟩
      unfold cFaulted at hfa
      subst hfa
      generalize faultV t ((k + n : Nat) : Int) ((4 : Nat) : Int) = fv at HPP ⊢
      clear hb3
      go_wp2_with fail
      first
      | exact HPP.out
      | exact ⟨rfl, HPP.out⟩
      | (simp only [bodyPost]; exact HPP.out)
      all_goals trivial
    | false =>

      go_enter Tryd.func71, Tryd.ntmps71
      go_wp2_with fail
      go_quiet (fail)
      rw [HE.out]
      go_wp2_with fail
      go_at_call 33
      refine (CI.out _).mono ?_
      rintro e w1 ⟨rfl, hb1⟩
      have HC1 := hid ((HC.out.drewN nq).onto hb1)
      have HO1 : Hid (Own b w w1) := hid (Own.of (vonto (below_drewN (Below.refl _ _) nq) hb1))
      have r0 := HC1.out.r0
      have r1 := HC1.out.r1
      have rf := HC1.out.row.frozen
      clear hb1 CI
      go_upto_region 5 with fail
      rw [HXF.out]
      go_wp2_with fail
      have HC2 := hid (cset_cr (n := n) HC1.out)
      have HO2 := hid (HO1.out.set 1 (.int .i64 ((k : Int) + (n : Int))))
      clear r0 r1
      go_at_call 72
      refine (CS.out _ HC2.out).mono ?_
      rintro e w2 ⟨rfl, n2, hw2⟩
      have HC3 : Hid (Cr w2 b t (k + n)) := hid (by rw [hw2]; exact HC2.out.drewN n2)
      have HO3 : Hid (Own b w w2) := hid (by rw [hw2]; exact HO2.out.trans (Own.of (below_drewN (Below.refl _ _) n2)))
      have s1 := HC3.out.r1
      clear hw2 CS
      go_wp2_with fail
      go_at_call 24
      refine (CC.out _).mono ?_
      rintro e w3 ⟨rfl, hb3⟩
      have HC4 := hid (HC3.out.onto hb3)
      have HO4 := hid (HO3.out.trans (Own.of hb3))
      clear hb3
      go_wp2_with fail
      go_ret
      exact ⟨rfl, HC4.out, HO4.out⟩
      all_goals trivial
  | false =>
    rw [if_neg (by decide)] at CI
    have HN := hid (HN.out rfl)
    have CI2 := CI
    rw [HN.out] at CI2
    clear CI
    clear HXF
    cases Q with
    | true =>

      go_enter Tryd.func71, Tryd.ntmps71
      go_wp2_with fail
      go_quiet (fail)
      rw [HE.out, HN.out]
      go_wp2_with fail
      go_at_call 33
      refine (CI2.out _).mono ?_
      rintro e w1 ⟨rfl, hb1⟩
      have HC1 := hid ((HC.out.drewN nq).onto hb1)
      have HO1 : Hid (Own b w w1) := hid (Own.of (vonto (below_drewN (Below.refl _ _) nq) hb1))
      have r0 := HC1.out.r0
      have r1 := HC1.out.r1
      have rf := HC1.out.row.frozen
      clear hb1 CI2
      skip
      go_wp2_with fail
      have HC2 := hid (cset_cr (n := n) HC1.out)
      have HO2 := hid (HO1.out.set 1 (.int .i64 ((k : Int) + (n : Int))))
      clear r0 r1
      go_at_call 72
      refine (CS.out _ HC2.out).mono ?_
      rintro e w2 ⟨rfl, n2, hw2⟩
      have HC3 : Hid (Cr w2 b t (k + n)) := hid (by rw [hw2]; exact HC2.out.drewN n2)
      have HO3 : Hid (Own b w w2) := hid (by rw [hw2]; exact HO2.out.trans (Own.of (below_drewN (Below.refl _ _) n2)))
      have s1 := HC3.out.r1
      clear hw2 CS
      go_wp2_with fail
      go_at_call 36
      refine (CR.out _ HC3.out).mono ?_
      rintro e w3 ⟨hfa, hb3⟩
      have HPP : Hid (CPl t m b (k + n) w true e w3) := hid ⟨hfa, HO3.out.trans (Own.of hb3)⟩
      unfold cFaulted at hfa
      subst hfa
      generalize faultV t ((k + n : Nat) : Int) ((4 : Nat) : Int) = fv at HPP ⊢
      clear hb3
      go_wp2_with fail
      first
      | exact HPP.out
      | exact ⟨rfl, HPP.out⟩
      | (simp only [bodyPost]; exact HPP.out)
      all_goals trivial
    | false =>

      go_enter Tryd.func71, Tryd.ntmps71
      go_wp2_with fail
      go_quiet (fail)
      rw [HE.out, HN.out]
      go_wp2_with fail
      go_at_call 33
      refine (CI2.out _).mono ?_
      rintro e w1 ⟨rfl, hb1⟩
      have HC1 := hid ((HC.out.drewN nq).onto hb1)
      have HO1 : Hid (Own b w w1) := hid (Own.of (vonto (below_drewN (Below.refl _ _) nq) hb1))
      have r0 := HC1.out.r0
      have r1 := HC1.out.r1
      have rf := HC1.out.row.frozen
      clear hb1 CI2
      skip
      go_wp2_with fail
      have HC2 := hid (cset_cr (n := n) HC1.out)
      have HO2 := hid (HO1.out.set 1 (.int .i64 ((k : Int) + (n : Int))))
      clear r0 r1
      go_at_call 72
      refine (CS.out _ HC2.out).mono ?_
      rintro e w2 ⟨rfl, n2, hw2⟩
      have HC3 : Hid (Cr w2 b t (k + n)) := hid (by rw [hw2]; exact HC2.out.drewN n2)
      have HO3 : Hid (Own b w w2) := hid (by rw [hw2]; exact HO2.out.trans (Own.of (below_drewN (Below.refl _ _) n2)))
      have s1 := HC3.out.r1
      clear hw2 CS
      go_wp2_with fail
      go_at_call 24
      refine (CC.out _).mono ?_
      rintro e w3 ⟨rfl, hb3⟩
      have HC4 := hid (HC3.out.onto hb3)
      have HO4 := hid (HO3.out.trans (Own.of hb3))
      clear hb3
      go_wp2_with fail
      go_ret
      exact ⟨rfl, HC4.out, HO4.out⟩
      all_goals trivial
end Go.Proofs.YtjbccmnmcjmooaaDoor
