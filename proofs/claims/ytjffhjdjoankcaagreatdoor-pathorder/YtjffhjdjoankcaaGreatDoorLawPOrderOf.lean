/- PathOrder, walked: paths are in one order, both ways, and from one to another; only alike ones are alike. -/
import Derived.Test.YtjffhjdjoankcaaGreatDoorLawPartsOf
import Derived.Test.YtjffhjdjoankcaaGreatDoorPathDoc
namespace Go.Proofs.YtjffhjdjoankcaaGreatDoor
open Go.RowKit

theorem cp_val : ∀ a b : List PStep, -1 ≤ cmpP a b ∧ cmpP a b ≤ 1
  | [], [] => by decide
  | [], _ :: _ => by simp [cmpP]
  | _ :: _, [] => by simp [cmpP]
  | a :: p, b :: q => by
    rw [cmpP]
    split
    · exact cp_val p q
    · unfold cstep cmpZ
      have := cb_val a.key.data.toList b.key.data.toList
      split
      · split
        · decide
        · split <;> decide
      · split
        · decide
        · split
          · decide
          · omega
theorem text_ne {p q : List PStep} (hp : ∀ s ∈ p, Frm s) (hq : ∀ s ∈ q, Frm s) (h : p ≠ q) : ¬ mkS (textP p) = mkS (textP q) := by
  intro e
  have := congrArg (fun s : ByteArray => s.data.toList) e
  simp only [mkS_list] at this
  exact h (text_inj hp hq this)
set_option maxRecDepth 100000 in
set_option maxHeartbeats 8000000 in
theorem porder_walk (A B C : List PStep) (va vb vc : Value) (w : World) (hg : Glob5 w) (hA : InP w A va) (hB : InP w B vb) (hC : InP w C vc) :
    Calls Tryz.prog 7 #[va, vb, vc] w fun e w' => e = .returned (.bool true) ∧ Below w.heap.size w w' := by
  have HG := hid hg
  have IA := hid hA
  have IB := hid hB
  have IC := hid hC
  obtain ⟨a1, ⟨oa, ca, rfl, -⟩, -⟩ := hA
  obtain ⟨b1, ⟨ob, cb, rfl, -⟩, -⟩ := hB
  obtain ⟨c1, ⟨oc, cc, rfl, -⟩, -⟩ := hC
  generalize A.length = la at IA
  generalize B.length = lb at IB
  generalize C.length = lc at IC
  clear hg
  go_enter Tryz.func7, Tryz.ntmps7
  go_wp2_with fail
  go_at_call 10
  refine (pawake_any _ HG.out).mono ?_
  rintro e w1 ⟨rfl, hb1⟩
  have H1 := hid hb1
  have cM := hid (fun (P : List PStep) (v : Value) (h : InP w P v) (X : World) (hX : Below w.heap.size w X) => may_any P v X (h.onto hX))
  clear hb1
  go_wp2_with fail
  go_at_call 16
  refine (cM.out A _ IA.out _ H1.out).mono ?_
  rintro e w2 ⟨rfl, hb2⟩
  have H2 := hid (vonto H1.out hb2)
  clear hb2 H1
  cases hoA : pathOk A with
  | false => go_wp2_with fail; go_ret; exact ⟨rfl, H2.out⟩
  | true =>
  go_wp2_with fail
  go_at_call 16
  refine (cM.out B _ IB.out _ H2.out).mono ?_
  rintro e w3 ⟨rfl, hb3⟩
  have H3 := hid (vonto H2.out hb3)
  clear hb3 H2
  cases hoB : pathOk B with
  | false => go_wp2_with fail; go_ret; exact ⟨rfl, H3.out⟩
  | true =>
  go_wp2_with fail
  go_at_call 16
  refine (cM.out C _ IC.out _ H3.out).mono ?_
  rintro e w4 ⟨rfl, hb4⟩
  have H4 := hid (vonto H3.out hb4)
  clear hb4 H3
  cases hoC : pathOk C with
  | false => go_wp2_with fail; go_ret; exact ⟨rfl, H4.out⟩
  | true =>
  have FA := hid (frm_all hoA)
  have FB := hid (frm_all hoB)
  have FC := hid (frm_all hoC)
  have LA := hid (small_all hoA)
  have LB := hid (small_all hoB)
  have hlA : A.length ≤ 1000000 := by unfold pathOk at hoA; rw [Bool.and_eq_true, decide_eq_true_eq] at hoA; omega
  have hlB : B.length ≤ 1000000 := by unfold pathOk at hoB; rw [Bool.and_eq_true, decide_eq_true_eq] at hoB; omega
  clear hoA hoB hoC cM
  have cC := hid (fun (P Q : List PStep) (u v : Value) (h : InP w P u) (k : InP w Q v) (X : World) (hX : Below w.heap.size w X) => pcmp_any P Q u v X (h.onto hX) (k.onto hX))
  have cAB := hid (cC.out A B _ _ IA.out IB.out)
  have cBC := hid (cC.out B C _ _ IB.out IC.out)
  have cBA := hid (cC.out B A _ _ IB.out IA.out)
  have cAC := hid (cC.out A C _ _ IA.out IC.out)
  have cST := hid (fun (X : World) (hX : Below w.heap.size w X) => steps_any B _ X (IB.out.onto hX) hlB)
  have cTA := hid (fun (X : World) (hX : Below w.heap.size w X) => ptext_any A _ X (IA.out.onto hX) (HG.out.on hX) hlA LA.out)
  have cTB := hid (fun (X : World) (hX : Below w.heap.size w X) => ptext_any B _ X (IB.out.onto hX) (HG.out.on hX) hlB LB.out)
  rw [cp_anti A B] at cBA
  have vAB := cp_val A B
  have vBC := cp_val B C
  have hTR : Hid (cmpP A B = cmpP B C → cmpP A C = cmpP A B) := fun h => cp_trans FA.out FB.out FC.out rfl h.symm
  have hEQ : Hid (cmpP A B = 0 ↔ A = B) := ⟨fun h => cp_eq FA.out FB.out h, fun h => by rw [h]; exact cp_refl B⟩
  have hTX : Hid (mkS (textP A) = mkS (textP B) ↔ A = B) := ⟨fun h => Classical.byContradiction fun hn => text_ne FA.out FB.out hn h, fun h => by rw [h]⟩
  clear cC
  generalize cmpP A B = x at *
  generalize cmpP B C = y at *
  generalize cmpP A C = z at *
  generalize mkS (textP A) = sA at *
  generalize mkS (textP B) = sB at *
  by_cases hx0 : x = 0
  · have hAB := hid (hEQ.out.1 hx0)
    have hs := hTX.out.2 hAB.out
    subst hs
    by_cases hxy : x = y
    · have hz := hTR.out hxy
      subst hz
      subst hxy
      subst hx0
      clear hTR hEQ hTX vBC
      go_wp2_with fail
      go_at_call 22
      refine (cAB.out _ H4.out).mono ?_
      rintro e w5 ⟨rfl, hb5⟩
      have H5 := hid (vonto H4.out hb5)
      clear hb5
      go_wp2_with fail
      go_at_call 22
      refine (cBC.out _ H5.out).mono ?_
      rintro e w6 ⟨rfl, hb6⟩
      have H6 := hid (vonto H5.out hb6)
      clear hb6
      go_wp2_with fail
      go_at_call 22
      refine (cBA.out _ H6.out).mono ?_
      rintro e w8 ⟨rfl, hb8⟩
      have H8 := hid (vonto H6.out hb8)
      clear hb8
      go_wp2_with fail
      go_at_call 22
      refine (cAC.out _ H8.out).mono ?_
      rintro e w8b ⟨rfl, hb8b⟩
      have H8b := hid (vonto H8.out hb8b)
      clear hb8b H8
      have H8 := H8b
      go_wp2_with fail
      go_at_call 17
      refine (cST.out _ H8.out).mono ?_
      rintro e w9 ⟨vs, rfl, hI9, hb9⟩
      have H9 := hid (vonto H8.out hb9)
      clear hb9
      go_wp2_with fail
      go_at_call 21
      refine (psame_any A B _ _ _ (IA.out.onto H9.out) hI9 true (⟨fun _ => hAB.out, fun _ => rfl⟩)).mono ?_
      rintro e w10 ⟨rfl, hb10⟩
      have H10 := hid (vonto H9.out hb10)
      clear hb10
      go_wp2_with fail
      go_at_call 18
      refine (cTA.out _ H10.out).mono ?_
      rintro e w11 ⟨rfl, hb11⟩
      have H11 := hid (vonto H10.out hb11)
      clear hb11
      go_wp2_with fail
      go_at_call 18
      refine (cTB.out _ H11.out).mono ?_
      rintro e w12 ⟨rfl, hb12⟩
      have H12 := hid (vonto H11.out hb12)
      clear hb12
      go_wp2_with fail
      go_ret
      exact ⟨rfl, H12.out⟩
    · subst hx0
      clear hTR hEQ hTX cAC
      go_wp2_with fail
      go_at_call 22
      refine (cAB.out _ H4.out).mono ?_
      rintro e w5 ⟨rfl, hb5⟩
      have H5 := hid (vonto H4.out hb5)
      clear hb5
      go_wp2_with fail
      go_at_call 22
      refine (cBC.out _ H5.out).mono ?_
      rintro e w6 ⟨rfl, hb6⟩
      have H6 := hid (vonto H5.out hb6)
      clear hb6
      go_wp2_with fail
      go_at_call 22
      refine (cBA.out _ H6.out).mono ?_
      rintro e w8 ⟨rfl, hb8⟩
      have H8 := hid (vonto H6.out hb8)
      clear hb8
      go_wp2_with fail
      go_at_call 17
      refine (cST.out _ H8.out).mono ?_
      rintro e w9 ⟨vs, rfl, hI9, hb9⟩
      have H9 := hid (vonto H8.out hb9)
      clear hb9
      go_wp2_with fail
      go_at_call 21
      refine (psame_any A B _ _ _ (IA.out.onto H9.out) hI9 true (⟨fun _ => hAB.out, fun _ => rfl⟩)).mono ?_
      rintro e w10 ⟨rfl, hb10⟩
      have H10 := hid (vonto H9.out hb10)
      clear hb10
      go_wp2_with fail
      go_at_call 18
      refine (cTA.out _ H10.out).mono ?_
      rintro e w11 ⟨rfl, hb11⟩
      have H11 := hid (vonto H10.out hb11)
      clear hb11
      go_wp2_with fail
      go_at_call 18
      refine (cTB.out _ H11.out).mono ?_
      rintro e w12 ⟨rfl, hb12⟩
      have H12 := hid (vonto H11.out hb12)
      clear hb12
      go_wp2_with fail
      go_ret
      exact ⟨rfl, H12.out⟩
  · have hAB : Hid (¬ A = B) := hid (fun h => hx0 (hEQ.out.2 h))
    have hs := str_ne _ _ (fun h => hAB.out (hTX.out.1 h))
    have d0 : (x == 0) = false := by simpa using hx0
    by_cases hxy : x = y
    · have hz := hTR.out hxy
      subst hz
      subst hxy
      clear hTR hEQ hTX vBC
      go_wp2_with fail
      go_at_call 22
      refine (cAB.out _ H4.out).mono ?_
      rintro e w5 ⟨rfl, hb5⟩
      have H5 := hid (vonto H4.out hb5)
      clear hb5
      go_wp2_with fail
      go_at_call 22
      refine (cBC.out _ H5.out).mono ?_
      rintro e w6 ⟨rfl, hb6⟩
      have H6 := hid (vonto H5.out hb6)
      clear hb6
      go_wp2_with fail
      go_at_call 22
      refine (cBA.out _ H6.out).mono ?_
      rintro e w8 ⟨rfl, hb8⟩
      have H8 := hid (vonto H6.out hb8)
      clear hb8
      go_wp2_with fail
      go_at_call 22
      refine (cAC.out _ H8.out).mono ?_
      rintro e w8b ⟨rfl, hb8b⟩
      have H8b := hid (vonto H8.out hb8b)
      clear hb8b H8
      have H8 := H8b
      go_wp2_with fail
      go_at_call 17
      refine (cST.out _ H8.out).mono ?_
      rintro e w9 ⟨vs, rfl, hI9, hb9⟩
      have H9 := hid (vonto H8.out hb9)
      clear hb9
      go_wp2_with fail
      go_at_call 21
      refine (psame_any A B _ _ _ (IA.out.onto H9.out) hI9 false (⟨fun h => (by cases h), fun h => absurd h hAB.out⟩)).mono ?_
      rintro e w10 ⟨rfl, hb10⟩
      have H10 := hid (vonto H9.out hb10)
      clear hb10
      go_wp2_with fail
      go_at_call 18
      refine (cTA.out _ H10.out).mono ?_
      rintro e w11 ⟨rfl, hb11⟩
      have H11 := hid (vonto H10.out hb11)
      clear hb11
      go_wp2_with fail
      go_at_call 18
      refine (cTB.out _ H11.out).mono ?_
      rintro e w12 ⟨rfl, hb12⟩
      have H12 := hid (vonto H11.out hb12)
      clear hb12
      go_wp2_with fail
      go_ret
      exact ⟨rfl, H12.out⟩
    · clear hTR hEQ hTX cAC
      go_wp2_with fail
      go_at_call 22
      refine (cAB.out _ H4.out).mono ?_
      rintro e w5 ⟨rfl, hb5⟩
      have H5 := hid (vonto H4.out hb5)
      clear hb5
      go_wp2_with fail
      go_at_call 22
      refine (cBC.out _ H5.out).mono ?_
      rintro e w6 ⟨rfl, hb6⟩
      have H6 := hid (vonto H5.out hb6)
      clear hb6
      go_wp2_with fail
      go_at_call 22
      refine (cBA.out _ H6.out).mono ?_
      rintro e w8 ⟨rfl, hb8⟩
      have H8 := hid (vonto H6.out hb8)
      clear hb8
      go_wp2_with fail
      go_at_call 17
      refine (cST.out _ H8.out).mono ?_
      rintro e w9 ⟨vs, rfl, hI9, hb9⟩
      have H9 := hid (vonto H8.out hb9)
      clear hb9
      go_wp2_with fail
      go_at_call 21
      refine (psame_any A B _ _ _ (IA.out.onto H9.out) hI9 false (⟨fun h => (by cases h), fun h => absurd h hAB.out⟩)).mono ?_
      rintro e w10 ⟨rfl, hb10⟩
      have H10 := hid (vonto H9.out hb10)
      clear hb10
      go_wp2_with fail
      go_at_call 18
      refine (cTA.out _ H10.out).mono ?_
      rintro e w11 ⟨rfl, hb11⟩
      have H11 := hid (vonto H10.out hb11)
      clear hb11
      go_wp2_with fail
      go_at_call 18
      refine (cTB.out _ H11.out).mono ?_
      rintro e w12 ⟨rfl, hb12⟩
      have H12 := hid (vonto H11.out hb12)
      clear hb12
      go_wp2_with fail
      go_ret
      exact ⟨rfl, H12.out⟩
end Go.Proofs.YtjffhjdjoankcaaGreatDoor
