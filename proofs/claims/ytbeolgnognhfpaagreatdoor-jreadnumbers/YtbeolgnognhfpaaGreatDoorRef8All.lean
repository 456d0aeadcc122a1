import Derived.Test.YtbeolgnognhfpaaGreatDoorMathRead
import Derived.Test.YtbeolgnognhfpaaGreatDoorLexTail
import Derived.Test.YtbeolgnognhfpaaGreatDoorOrders
import Derived.Test.YtbeolgnognhfpaaGreatDoorVHold
import Derived.Test.YtbeolgnognhfpaaGreatDoorRefVal7
/- The document's reader of words: its memory; the word ahead, a sign, a fault. -/
/- The document's reader of words: numbers, words of letters; what it promises. -/
/- The document's reader of words: a value. -/
/- The document's reader of words: a list. -/
/- The document's reader of words: a map; the reader whole. -/
/- The document's reader of words, whole: its words are good, its value. -/
/- The document's Parse. -/
namespace Go.Proofs.YtbeolgnognhfpaaGreatDoor
open Go.RowKit

theorem Tryz.fld0 (a b c : Value) (w : World) : (Instr.field 89 (.agg #[a, b, c]) 0).run Tryz.prog w = .ok a w := by kernel_rfl
theorem Tryz.fld1 (a b c : Value) (w : World) : (Instr.field 89 (.agg #[a, b, c]) 1).run Tryz.prog w = .ok b w := by kernel_rfl
theorem Tryz.fld2 (a b c : Value) (w : World) : (Instr.field 89 (.agg #[a, b, c]) 2).run Tryz.prog w = .ok c w := by kernel_rfl
/-- the reader in memory: its words, where it is, how many nodes have begun, its fault -/
structure Rr (w : World) (b : Nat) (v : Value) (k n er at_ : Nat) : Prop where
  r0 : w.cell? ⟨b, 0, none⟩ = some v
  r1 : w.cell? ⟨b, 1, none⟩ = some (.int .i64 (k : Int))
  r2 : w.cell? ⟨b, 2, none⟩ = some (.int .i64 (n : Int))
  r3 : w.cell? ⟨b, 3, none⟩ = some (.int .i64 (er : Int))
  r4 : w.cell? ⟨b, 4, none⟩ = some (.int .i64 (at_ : Int))
  row : Row w b 88 5
theorem Rr.onto {w w' : World} {b : Nat} {v : Value} {k n er at_ : Nat} (h : Rr w b v k n er at_) (hb : Below w.heap.size w w') : Rr w' b v k n er at_ :=
  ⟨keepCell hb h.r0, keepCell hb h.r1, keepCell hb h.r2, keepCell hb h.r3, keepCell hb h.r4, h.row.onto (hb.block b h.row.lt)⟩
/-- only the reader's own cells among the elder ones have changed -/
def Own (b : Nat) (w w' : World) : Prop := w.grownBy w' (some b)
theorem Own.of {b : Nat} {w w' : World} (h : Below w.heap.size w w') : Own b w w' := ⟨h.os, h.tape, h.output, h.size, fun k hk _ => h.block k hk⟩
theorem Own.trans {b : Nat} {w w1 w2 : World} (h : Own b w w1) (k : Own b w1 w2) : Own b w w2 :=
  ⟨k.os.trans h.os, k.tape.trans h.tape, k.output.trans h.output, Nat.le_trans h.size k.size, fun i hi hn => (k.block i (Nat.lt_of_lt_of_le hi h.size) hn).trans (h.block i hi hn)⟩
theorem Own.refl (b : Nat) (w : World) : Own b w w := ⟨rfl, rfl, rfl, Nat.le_refl _, fun _ _ _ => rfl⟩
theorem Own.set {b : Nat} {w w1 : World} (h : Own b w w1) (o : Nat) (u : Value) : Own b w (w1.setCell ⟨b, o, none⟩ u) :=
  h.trans (set_grown w1 b o u)
theorem Own.cell {b : Nat} {w w' : World} (h : Own b w w') {a : Addr} {u : Value} (hc : w.cell? a = some u) (hn : ¬ a.block = b) : w'.cell? a = some u := by
  rw [World.cell?_of_block (w := w) (h.block a.block (World.block_lt_of_cell? w a hc) (fun e => hn (by injection e with e)))]; exact hc
theorem Rr.set1 {w : World} {b : Nat} {v : Value} {k n er at_ : Nat} (h : Rr w b v k n er at_) (k' : Nat) : Rr (w.setCell ⟨b, 1, none⟩ (.int .i64 (k' : Int))) b v k' n er at_ :=
  ⟨(set_other _ _ _ _ _ _ (Or.inr (by omega))).trans h.r0, set_same h.row (by omega) _, (set_other _ _ _ _ _ _ (Or.inr (by omega))).trans h.r2, (set_other _ _ _ _ _ _ (Or.inr (by omega))).trans h.r3, (set_other _ _ _ _ _ _ (Or.inr (by omega))).trans h.r4, h.row.set _ _⟩
theorem Rr.set2 {w : World} {b : Nat} {v : Value} {k n er at_ : Nat} (h : Rr w b v k n er at_) (n' : Nat) : Rr (w.setCell ⟨b, 2, none⟩ (.int .i64 (n' : Int))) b v k n' er at_ :=
  ⟨(set_other _ _ _ _ _ _ (Or.inr (by omega))).trans h.r0, (set_other _ _ _ _ _ _ (Or.inr (by omega))).trans h.r1, set_same h.row (by omega) _, (set_other _ _ _ _ _ _ (Or.inr (by omega))).trans h.r3, (set_other _ _ _ _ _ _ (Or.inr (by omega))).trans h.r4, h.row.set _ _⟩
theorem Rr.setE {w : World} {b : Nat} {v : Value} {k n er at_ : Nat} (h : Rr w b v k n er at_) (e' a' : Nat) : Rr ((w.setCell ⟨b, 3, none⟩ (.int .i64 (e' : Int))).setCell ⟨b, 4, none⟩ (.int .i64 (a' : Int))) b v k n e' a' := by
  have hr := h.row.set ⟨b, 3, none⟩ (.int .i64 (e' : Int))
  refine ⟨?_, ?_, ?_, ?_, set_same hr (by omega) _, hr.set _ _⟩
  · rw [set_other _ _ _ _ _ _ (Or.inr (by omega)), set_other _ _ _ _ _ _ (Or.inr (by omega))]; exact h.r0
  · rw [set_other _ _ _ _ _ _ (Or.inr (by omega)), set_other _ _ _ _ _ _ (Or.inr (by omega))]; exact h.r1
  · rw [set_other _ _ _ _ _ _ (Or.inr (by omega)), set_other _ _ _ _ _ _ (Or.inr (by omega))]; exact h.r2
  · rw [set_other _ _ _ _ _ _ (Or.inr (by omega))]; exact set_same h.row (by omega) _
set_option maxRecDepth 100000 in
set_option maxHeartbeats 1000000 in
theorem rfail_set (b : Nat) (v : Value) (k n a0 e a : Nat) (w : World) (h : Rr w b v k n 0 a0) :
    Calls Tryz.prog 56 #[.pointer (some ⟨b, 0, none⟩), .int .i64 (e : Int), .int .i64 (a : Int)] w fun x w' => x = .returned (.tuple #[]) ∧ Rr w' b v k n e a ∧ Own b w w' := by
  have HR := hid h
  have r3 := h.r3
  have r4 := h.r4
  have rf := h.row.frozen
  clear h
  go_enter Tryz.func56, Tryz.ntmps56
  go_wp2_with fail
  go_end0
  exact ⟨rfl, HR.out.setE e a, ((Own.refl b w).set _ _).set _ _⟩
set_option maxRecDepth 100000 in
set_option maxHeartbeats 1000000 in
theorem rfail_no (b : Nat) (v : Value) (k n er a0 : Nat) (e a : Int) (w : World) (h : Rr w b v k n er a0) (he : ¬ er = 0) :
    Calls Tryz.prog 56 #[.pointer (some ⟨b, 0, none⟩), .int .i64 e, .int .i64 a] w fun x w' => x = .returned (.tuple #[]) ∧ w' = w := by
  have r3 := h.r3
  have hb : ((er : Int) == 0) = false := by simp; omega
  clear h
  go_enter Tryz.func56, Tryz.ntmps56
  go_wp2_with fail
  go_end0
  exact ⟨rfl, rfl⟩
set_option maxRecDepth 100000 in
set_option maxHeartbeats 1000000 in
theorem rword_any (b : Nat) (ws : List Wd) (v : Value) (k n er a0 : Nat) (x : Wd) (w : World) (h : Rr w b v k n er a0) (hw : InW w ws v) (hx : ws[k]? = some x) (hl : ws.length ≤ 100000) :
    Calls Tryz.prog 55 #[.pointer (some ⟨b, 0, none⟩)] w fun e w' => e = .returned (.agg #[.int .i64 (x.kd : Int), .string (mkS x.tx), .int .i64 (x.at_ : Int)]) ∧ Below w.heap.size w w' := by
  obtain ⟨o, a, cap, rfl, hc1, hc2, ho, hcs⟩ := hw
  have hlt : k < ws.length := lt_of_some hx
  obtain rfl := ho (by omega)
  obtain ⟨c0, c1, c2⟩ := hcs k x hx
  have r0 := h.r0
  have r1 := h.r1
  unfold maxLen at hc2
  clear h hcs ho hx
  go_enter Tryz.func55, Tryz.ntmps55
  go_upto_region 1 with fail
  refine wp_region_h (S := fun X => Below w.heap.size w X) 11 (by kernel_rfl) (by kernel_rfl) ?_
  have hS0 := (valloc_bel (Below.refl w.heap.size w) (.cells #[.int .i64 0, .string ⟨#[]⟩, .int .i64 0] 89)).drew
  refine take_h (i := 0) (v := ?_) rfl (by kernel_rfl) (by kernel_rfl) (by kernel_rfl) (fun _ _ _ h => h) (by rfl) ?_ hS0 ?_
  rotate_left
  · (intro X hX; have y0 := keepCell hX r0; have y1 := keepCell hX r1; have y2 := keepCell hX c0; have y3 := keepCell hX c1; have y4 := keepCell hX c2; go_simp; try with_reducible rfl)
  simp only [Act.put, List.setIfInBounds_toArray, List.set_cons_zero, List.set_cons_succ]
  refine take_h (i := 1) (v := ?_) rfl (by kernel_rfl) (by kernel_rfl) (by kernel_rfl) (fun _ _ _ h => h) (by rfl) ?_ hS0 ?_
  rotate_left
  · (intro X hX; have y0 := keepCell hX r0; have y1 := keepCell hX r1; have y2 := keepCell hX c0; have y3 := keepCell hX c1; have y4 := keepCell hX c2; go_simp; try with_reducible rfl)
  simp only [Act.put, List.setIfInBounds_toArray, List.set_cons_zero, List.set_cons_succ]
  refine take_h (i := 2) (v := ?_) rfl (by kernel_rfl) (by kernel_rfl) (by kernel_rfl) (fun _ _ _ h => h) (by rfl) ?_ hS0 ?_
  rotate_left
  · (intro X hX; have y0 := keepCell hX r0; have y1 := keepCell hX r1; have y2 := keepCell hX c0; have y3 := keepCell hX c1; have y4 := keepCell hX c2; go_simp; try with_reducible rfl)
  simp only [Act.put, List.setIfInBounds_toArray, List.set_cons_zero, List.set_cons_succ]
  refine take_h (i := 3) (v := ?_) rfl (by kernel_rfl) (by kernel_rfl) (by kernel_rfl) (fun _ _ _ h => h) (by rfl) ?_ hS0 ?_
  rotate_left
  · (intro X hX; have y0 := keepCell hX r0; have y1 := keepCell hX r1; have y2 := keepCell hX c0; have y3 := keepCell hX c1; have y4 := keepCell hX c2; go_simp; try with_reducible rfl)
  simp only [Act.put, List.setIfInBounds_toArray, List.set_cons_zero, List.set_cons_succ]
  refine take_h (i := 4) (v := ?_) rfl (by kernel_rfl) (by kernel_rfl) (by kernel_rfl) (fun _ _ _ h => h) (by rfl) ?_ hS0 ?_
  rotate_left
  · (intro X hX; have y0 := keepCell hX r0; have y1 := keepCell hX r1; have y2 := keepCell hX c0; have y3 := keepCell hX c1; have y4 := keepCell hX c2; go_simp; try with_reducible rfl)
  simp only [Act.put, List.setIfInBounds_toArray, List.set_cons_zero, List.set_cons_succ]
  refine take_h (i := 5) (v := ?_) rfl (by kernel_rfl) (by kernel_rfl) (by kernel_rfl) (fun _ _ _ h => h) (by rfl) ?_ hS0 ?_
  rotate_left
  · (intro X hX; have y0 := keepCell hX r0; have y1 := keepCell hX r1; have y2 := keepCell hX c0; have y3 := keepCell hX c1; have y4 := keepCell hX c2; go_simp; try with_reducible rfl)
  simp only [Act.put, List.setIfInBounds_toArray, List.set_cons_zero, List.set_cons_succ]
  refine take_h (i := 6) (v := ?_) rfl (by kernel_rfl) (by kernel_rfl) (by kernel_rfl) (fun _ _ _ h => h) (by rfl) ?_ hS0 ?_
  rotate_left
  · (intro X hX; have y0 := keepCell hX r0; have y1 := keepCell hX r1; have y2 := keepCell hX c0; have y3 := keepCell hX c1; have y4 := keepCell hX c2; go_simp; try with_reducible rfl)
  simp only [Act.put, List.setIfInBounds_toArray, List.set_cons_zero, List.set_cons_succ]
  refine take_h (i := 7) (v := ?_) rfl (by kernel_rfl) (by kernel_rfl) (by kernel_rfl) (fun _ _ _ h => h) (by rfl) ?_ hS0 ?_
  rotate_left
  · (intro X hX; have y0 := keepCell hX r0; have y1 := keepCell hX r1; have y2 := keepCell hX c0; have y3 := keepCell hX c1; have y4 := keepCell hX c2; go_simp; try with_reducible rfl)
  simp only [Act.put, List.setIfInBounds_toArray, List.set_cons_zero, List.set_cons_succ]
  refine take_h (i := 8) (v := ?_) rfl (by kernel_rfl) (by kernel_rfl) (by kernel_rfl) (fun _ _ _ h => h) (by rfl) ?_ hS0 ?_
  rotate_left
  · (intro X hX; have y0 := keepCell hX r0; have y1 := keepCell hX r1; have y2 := keepCell hX c0; have y3 := keepCell hX c1; have y4 := keepCell hX c2; go_simp; try with_reducible rfl)
  simp only [Act.put, List.setIfInBounds_toArray, List.set_cons_zero, List.set_cons_succ]
  refine take_h (i := 9) (v := ?_) rfl (by kernel_rfl) (by kernel_rfl) (by kernel_rfl) (fun _ _ _ h => h) (by rfl) ?_ hS0 ?_
  rotate_left
  · (intro X hX; have y0 := keepCell hX r0; have y1 := keepCell hX r1; have y2 := keepCell hX c0; have y3 := keepCell hX c1; have y4 := keepCell hX c2; go_simp; try with_reducible rfl)
  simp only [Act.put, List.setIfInBounds_toArray, List.set_cons_zero, List.set_cons_succ]
  refine step_h (i := 10) rfl (by kernel_rfl) ?_
  intro KK hKK
  go_simp
  have hS1 := (valloc_bel (Below.refl w.heap.size w) (.cells #[.int .i64 (x.kd : Int), .string (mkS x.tx), .int .i64 (x.at_ : Int)] 89)).drew
  refine hKK.out _ _ hS1 (fun _ => ?_)
  clear hKK KK
  refine wpAnyH_done (by kernel_rfl) ?_ _
  go_wp2_with fail
  exact bodyPost_ret (v := .agg #[.int .i64 (x.kd : Int), .string (mkS x.tx), .int .i64 (x.at_ : Int)]) (by simp [results, Tryz.results55, go_sem]) rfl ⟨rfl, hS1⟩
theorem isM_no {c : UInt8} {x : Wd} {r : List Wd} (h : ¬ (x.kd = 1 ∧ x.tx = [c])) : isM c (x :: r) = false := decide_eq_false h
theorem isM_yes {c : UInt8} {x : Wd} {r : List Wd} (h : x.kd = 1 ∧ x.tx = [c]) : isM c (x :: r) = true := decide_eq_true h
set_option maxRecDepth 100000 in
set_option maxHeartbeats 2000000 in
theorem ris_any (b : Nat) (ws : List Wd) (v : Value) (k n er a0 : Nat) (c : UInt8) (w : World) (h : Rr w b v k n er a0) (hw : InW w ws v) (hk : k < ws.length) (hl : ws.length ≤ 100000) :
    Calls Tryz.prog 117 #[.pointer (some ⟨b, 0, none⟩), .string ⟨#[c]⟩] w fun e w' => e = .returned (.bool (decide (er = 0) && isM c (ws.drop k))) ∧ Below w.heap.size w w' := by
  obtain ⟨x, hx⟩ : ∃ x, ws[k]? = some x := ⟨ws[k], List.getElem?_eq_getElem hk⟩
  have HDR : Hid (ws.drop k = x :: ws.drop (k + 1)) := hid (by
    obtain ⟨h1, h2⟩ := List.getElem?_eq_some_iff.1 hx
    rw [List.drop_eq_getElem_cons h1, h2])
  have CW := hid (fun X (hX : Below w.heap.size w X) => rword_any b ws v k n er a0 x X (h.onto hX) (hw.onto hX) hx hl)
  have fl0 := fun (W : World) => Tryz.fld0 (.int .i64 (x.kd : Int)) (.string (mkS x.tx)) (.int .i64 (x.at_ : Int)) W
  have fl1 := fun (W : World) => Tryz.fld1 (.int .i64 (x.kd : Int)) (.string (mkS x.tx)) (.int .i64 (x.at_ : Int)) W
  have fl2 := fun (W : World) => Tryz.fld2 (.int .i64 (x.kd : Int)) (.string (mkS x.tx)) (.int .i64 (x.at_ : Int)) W
  have r3 := h.r3
  obtain ⟨T, hT⟩ : ∃ T : ByteArray, T = ⟨#[c]⟩ := ⟨_, rfl⟩
  have HTT := hid hT
  rw [← hT]
  clear h hw hx hT
  by_cases he : er = 0
  · subst he
    have HE := hid (show decide (0 = 0) = true from rfl)
    by_cases h1 : x.kd = 1
    · have hkb : ((x.kd : Int) == 1) = true := by rw [h1]; rfl
      by_cases h2 : x.tx = [c]
      · have te : ((mkS x.tx).toList == T.toList) = true := txt_is _ _ (by rw [mkS_list, h2, HTT.out])
        have HM := hid (isM_yes (r := ws.drop (k + 1)) ⟨h1, h2⟩)
        clear h1 h2
        go_enter Tryz.func117, Tryz.ntmps117
        go_wp2_with fail
        go_at_call 55
        refine (CW.out _ (Below.refl _ _)).mono ?_
        rintro e w1 ⟨rfl, hb1⟩
        go_wp2_with fail
        go_at_call 55
        refine (CW.out _ hb1).mono ?_
        rintro e w2 ⟨rfl, hb2⟩
        go_wp2_with fail
        go_ret
        exact ⟨by rw [HDR.out, HM.out]; rfl, vonto hb1 hb2⟩
      · have te : ((mkS x.tx).toList == T.toList) = false := txt_no _ _ (by rw [mkS_list, HTT.out]; exact h2)
        have HM := hid (isM_no (x := x) (r := ws.drop (k + 1)) (fun h => h2 h.2))
        clear h1 h2
        go_enter Tryz.func117, Tryz.ntmps117
        go_wp2_with fail
        go_at_call 55
        refine (CW.out _ (Below.refl _ _)).mono ?_
        rintro e w1 ⟨rfl, hb1⟩
        go_wp2_with fail
        go_at_call 55
        refine (CW.out _ hb1).mono ?_
        rintro e w2 ⟨rfl, hb2⟩
        go_wp2_with fail
        go_ret
        exact ⟨by rw [HDR.out, HM.out]; rfl, vonto hb1 hb2⟩
    · have hkb : ((x.kd : Int) == 1) = false := by simp; omega
      have HM := hid (isM_no (c := c) (x := x) (r := ws.drop (k + 1)) (fun h => h1 h.1))
      clear h1
      go_enter Tryz.func117, Tryz.ntmps117
      go_wp2_with fail
      go_at_call 55
      refine (CW.out _ (Below.refl _ _)).mono ?_
      rintro e w1 ⟨rfl, hb1⟩
      go_wp2_with fail
      go_ret
      exact ⟨by rw [HDR.out, HM.out]; rfl, hb1⟩
  · have heb : ((er : Int) == 0) = false := by simp; omega
    have HE := hid (decide_eq_false he)
    clear he
    go_enter Tryz.func117, Tryz.ntmps117
    go_wp2_with fail
    go_ret
    exact ⟨by rw [HE.out]; rfl, Below.refl _ _⟩
set_option maxRecDepth 100000 in
set_option maxHeartbeats 2000000 in
theorem rwant_yes (b : Nat) (ws : List Wd) (v : Value) (k n a0 : Nat) (c : UInt8) (w : World) (h : Rr w b v k n 0 a0) (hw : InW w ws v) (hk : k < ws.length) (hl : ws.length ≤ 100000) (hm : isM c (ws.drop k) = true) :
    Calls Tryz.prog 118 #[.pointer (some ⟨b, 0, none⟩), .string ⟨#[c]⟩] w fun e w' => e = .returned (.tuple #[]) ∧ Rr w' b v (k + 1) n 0 a0 ∧ Own b w w' := by
  have CI := hid (ris_any b ws v k n 0 a0 c w h hw hk hl)
  rw [hm] at CI
  have HR := hid h
  clear h hw hm
  simp only [decide_true, Bool.and_self] at CI
  go_enter Tryz.func118, Tryz.ntmps118
  go_wp2_with fail
  go_at_call 117
  refine CI.out.mono ?_
  rintro e w1 ⟨rfl, hb1⟩
  have HR1 := hid (HR.out.onto hb1)
  have HB1 := hid hb1
  have r1 := HR1.out.r1
  have rf := HR1.out.row.frozen
  clear hb1
  go_wp2_with fail
  go_end0
  refine ⟨rfl, ?_, (Own.of HB1.out).set _ _⟩
  have := HR1.out.set1 (k + 1)
  simpa using this
set_option maxRecDepth 100000 in
set_option maxHeartbeats 2000000 in
theorem rwant_no (b : Nat) (ws : List Wd) (v : Value) (k n a0 : Nat) (c : UInt8) (w : World) (h : Rr w b v k n 0 a0) (hw : InW w ws v) (hk : k < ws.length) (hl : ws.length ≤ 100000) (hm : isM c (ws.drop k) = false) :
    Calls Tryz.prog 118 #[.pointer (some ⟨b, 0, none⟩), .string ⟨#[c]⟩] w fun e w' => e = .returned (.tuple #[]) ∧ Rr w' b v k n 4 (atW (ws.drop k)) ∧ Own b w w' := by
  obtain ⟨x, hx⟩ : ∃ x, ws[k]? = some x := ⟨ws[k], List.getElem?_eq_getElem hk⟩
  have HAT : Hid (atW (ws.drop k) = x.at_) := hid (by
    obtain ⟨h1, h2⟩ := List.getElem?_eq_some_iff.1 hx
    rw [List.drop_eq_getElem_cons h1, h2]; rfl)
  have CI := hid (ris_any b ws v k n 0 a0 c w h hw hk hl)
  rw [hm] at CI
  have CW := hid (fun X (hX : Below w.heap.size w X) => rword_any b ws v k n 0 a0 x X (h.onto hX) (hw.onto hX) hx hl)
  have fl0 := fun (W : World) => Tryz.fld0 (.int .i64 (x.kd : Int)) (.string (mkS x.tx)) (.int .i64 (x.at_ : Int)) W
  have fl1 := fun (W : World) => Tryz.fld1 (.int .i64 (x.kd : Int)) (.string (mkS x.tx)) (.int .i64 (x.at_ : Int)) W
  have fl2 := fun (W : World) => Tryz.fld2 (.int .i64 (x.kd : Int)) (.string (mkS x.tx)) (.int .i64 (x.at_ : Int)) W
  have HR := hid h
  clear h hw hm hx
  simp only [Bool.and_false] at CI
  go_enter Tryz.func118, Tryz.ntmps118
  go_wp2_with fail
  go_at_call 117
  refine CI.out.mono ?_
  rintro e w1 ⟨rfl, hb1⟩
  have HB1 := hid hb1
  clear hb1
  go_wp2_with fail
  go_at_call 55
  refine (CW.out _ HB1.out).mono ?_
  rintro e w2 ⟨rfl, hb2⟩
  have HB2 := hid (vonto HB1.out hb2)
  clear hb2
  go_wp2_with fail
  go_at_call 56
  refine (rfail_set b v k n a0 4 x.at_ w2 (HR.out.onto HB2.out)).mono ?_
  rintro e w3 ⟨rfl, hr3, ho3⟩
  go_wp2_with fail
  first | go_end0 | refine bodyPost_ret (results_none rfl _ _ _) rfl ?_
  exact ⟨rfl, by rw [HAT.out]; exact hr3, (Own.of HB2.out).trans ho3⟩
set_option maxRecDepth 100000 in
set_option maxHeartbeats 2000000 in
theorem rwant_bad (b : Nat) (ws : List Wd) (v : Value) (k n er a0 : Nat) (c : UInt8) (w : World) (h : Rr w b v k n er a0) (he : ¬ er = 0) (hw : InW w ws v) (hk : k < ws.length) (hl : ws.length ≤ 100000) :
    Calls Tryz.prog 118 #[.pointer (some ⟨b, 0, none⟩), .string ⟨#[c]⟩] w fun e w' => e = .returned (.tuple #[]) ∧ Below w.heap.size w w' := by
  obtain ⟨x, hx⟩ : ∃ x, ws[k]? = some x := ⟨ws[k], List.getElem?_eq_getElem hk⟩
  have CI := hid (ris_any b ws v k n er a0 c w h hw hk hl)
  have CW := hid (fun X (hX : Below w.heap.size w X) => rword_any b ws v k n er a0 x X (h.onto hX) (hw.onto hX) hx hl)
  have fl0 := fun (W : World) => Tryz.fld0 (.int .i64 (x.kd : Int)) (.string (mkS x.tx)) (.int .i64 (x.at_ : Int)) W
  have fl1 := fun (W : World) => Tryz.fld1 (.int .i64 (x.kd : Int)) (.string (mkS x.tx)) (.int .i64 (x.at_ : Int)) W
  have fl2 := fun (W : World) => Tryz.fld2 (.int .i64 (x.kd : Int)) (.string (mkS x.tx)) (.int .i64 (x.at_ : Int)) W
  have HR := hid h
  have HE := hid he
  rw [decide_eq_false he, Bool.false_and] at CI
  clear h hw hx he
  go_enter Tryz.func118, Tryz.ntmps118
  go_wp2_with fail
  go_at_call 117
  refine CI.out.mono ?_
  rintro e w1 ⟨rfl, hb1⟩
  have HB1 := hid hb1
  clear hb1
  go_wp2_with fail
  go_at_call 55
  refine (CW.out _ HB1.out).mono ?_
  rintro e w2 ⟨rfl, hb2⟩
  have HB2 := hid (vonto HB1.out hb2)
  clear hb2
  go_wp2_with fail
  go_at_call 56
  refine (rfail_no b v k n er a0 4 _ w2 (HR.out.onto HB2.out) HE.out).mono ?_
  rintro e w3 ⟨rfl, rfl⟩
  go_wp2_with fail
  first | go_end0 | refine bodyPost_ret (results_none rfl _ _ _) rfl ?_
  exact ⟨rfl, HB2.out⟩
end Go.Proofs.YtbeolgnognhfpaaGreatDoor
namespace Go.Proofs.YtbeolgnognhfpaaGreatDoor
open Go.RowKit

theorem lit_is (s : ByteArray) (l : List UInt8) (h : s.data.toList = l) : (s.toList == l) = true := by rw [Lib.toList_data, h]; exact beq_self_eq_true _
theorem lit_no (s : ByteArray) (l : List UInt8) (h : ¬ s.data.toList = l) : (s.toList == l) = false := by rw [Lib.toList_data]; exact beq_eq_false_iff_ne.2 h
/-- words in memory, none in the reader's own block -/
def Wm (w : World) (b : Nat) (ws : List Wd) (v : Value) : Prop := ∃ (o : Option Addr) (a : Addr) (cap : Nat), v = .slice o ws.length cap ∧ ws.length ≤ cap ∧ cap ≤ maxLen ∧ (0 < ws.length → o = some a) ∧ ¬ a.block = b ∧ ∀ i x, ws[i]? = some x →
  w.cell? (a.add (i * 3)) = some (.int .i64 (x.kd : Nat)) ∧ w.cell? ⟨(a.add (i * 3)).block, (a.add (i * 3)).off + 1, none⟩ = some (.string (mkS x.tx)) ∧ w.cell? ⟨(a.add (i * 3)).block, (a.add (i * 3)).off + 2, none⟩ = some (.int .i64 (x.at_ : Nat))
theorem Wm.inw {w : World} {b : Nat} {ws : List Wd} {v : Value} (h : Wm w b ws v) : InW w ws v := by
  obtain ⟨o, a, c, h1, h2, h3, h4, -, h5⟩ := h
  exact ⟨o, a, c, h1, h2, h3, h4, h5⟩
theorem Wm.own {w w' : World} {b : Nat} {ws : List Wd} {v : Value} (h : Wm w b ws v) (hb : Own b w w') : Wm w' b ws v := by
  obtain ⟨o, a, c, h1, h2, h3, h4, h0, h5⟩ := h
  have hn : ∀ i, ¬ (a.add i).block = b := fun i e => h0 (by rw [← addr_block a i]; exact e)
  exact ⟨o, a, c, h1, h2, h3, h4, h0, fun i x hx => ⟨hb.cell (h5 i x hx).1 (hn _), hb.cell (h5 i x hx).2.1 (hn _), hb.cell (h5 i x hx).2.2 (hn _)⟩⟩
theorem Wm.onto {w w' : World} {b : Nat} {ws : List Wd} {v : Value} (h : Wm w b ws v) (hb : Below w.heap.size w w') : Wm w' b ws v := h.own (Own.of hb)
/-- what a call of the reader ends in -/
def Rp (b : Nat) (v : Value) (ws : List Wd) (R : Rd) (w : World) (e : Ending) (w' : World) : Prop := match R with
  | .ok t m q => ∃ X Y a, e = .returned (vv t X Y) ∧ Rr w' b v (ws.length - q.length) m 0 a ∧ HS w' (fun k => w.heap.size ≤ k ∧ k < w'.heap.size) t X Y ∧ Own b w w'
  | .bad er at_ => ∃ R' X Y k' n', e = .returned (vv R' X Y) ∧ ¬ er = 0 ∧ Rr w' b v k' n' er at_ ∧ k' < ws.length ∧ HS w' (fun k => w.heap.size ≤ k ∧ k < w'.heap.size) R' X Y ∧ Own b w w'
/-- the reader stands ahead of some words -/
structure At (w : World) (b : Nat) (v : Value) (ws : List Wd) (k n : Nat) : Prop where
  rr : ∃ a, Rr w b v k n 0 a
  wm : Wm w b ws v
  ends : EndW (ws.drop k)
  len : ws.length ≤ 100000
  txt : ∀ x ∈ ws, x.tx.length ≤ 65536
  nod : n ≤ 4096
theorem At.lt {w : World} {b : Nat} {v : Value} {ws : List Wd} {k n : Nat} (h : At w b v ws k n) : k < ws.length := by
  obtain ⟨x, r, he⟩ := h.ends.ne
  rcases Nat.lt_or_ge k ws.length with h1 | h1
  · exact h1
  · rw [List.drop_eq_nil_of_le h1] at he; cases he
def RvOk (N : Nat) : Prop := ∀ (b : Nat) (ws : List Wd) (v : Value) (k n d : Nat) (w : World) (f : Nat), At w b v ws k n → d ≤ 1000 → ws.length - k ≤ N → 2 * (ws.length - k) + 1 ≤ f →
    Calls Tryz.prog 54 #[.pointer (some ⟨b, 0, none⟩), .int .i64 (d : Int)] w (Rp b v ws (jrV f d n (ws.drop k)) w)
def RlOk (N : Nat) : Prop := ∀ (b : Nat) (ws : List Wd) (v : Value) (k n d : Nat) (w : World) (f : Nat), At w b v ws k n → d ≤ 32 → ws.length - k ≤ N → 2 * (ws.length - k) + 2 ≤ f →
    Calls Tryz.prog 84 #[.pointer (some ⟨b, 0, none⟩), .int .i64 (d : Int)] w (Rp b v ws (if isM 93 (ws.drop k) = true then .ok (listT []) n (ws.drop k).tail else jrL f d n [] (ws.drop k)) w)
def RpOk (N : Nat) : Prop := ∀ (b : Nat) (ws : List Wd) (v : Value) (k n d : Nat) (w : World) (f : Nat), At w b v ws k n → d ≤ 32 → ws.length - k ≤ N → 2 * (ws.length - k) + 2 ≤ f →
    Calls Tryz.prog 85 #[.pointer (some ⟨b, 0, none⟩), .int .i64 (d : Int)] w (Rp b v ws (if isM 125 (ws.drop k) = true then .ok (mapT []) n (ws.drop k).tail else jrP f d n [] (ws.drop k)) w)
theorem hs_leaf (w : World) (S : Nat → Prop) (k n : Int) (s : ByteArray) (hk : (Lit.int .i64 k).wf = true) (hn : (Lit.int .i64 n).wf = true) (hs : s.size ≤ maxLen) : HS w S (leafT k n s) (.slice none 0 0) (.slice none 0 0) :=
  .mk ⟨0, 0, none⟩ ⟨0, 0, none⟩ (fun _ => .int .i64 0) (fun _ => .int .i64 0) (fun _ => .int .i64 0) (fun _ => .int .i64 0) hk hn hs
    ⟨none, 0, rfl, Nat.le_refl _, Nat.zero_le _, fun h => absurd h (Nat.lt_irrefl 0)⟩ ⟨none, 0, rfl, Nat.le_refl _, Nat.zero_le _, fun h => absurd h (Nat.lt_irrefl 0)⟩ rfl
    (fun h => absurd h (Nat.lt_irrefl 0)) (fun h => absurd h (Nat.lt_irrefl 0)) (fun i t h => by simp at h) (fun i t h => by simp at h) (fun i t h => by simp at h) (fun i t h => by simp at h) (fun i t h => by simp at h)
set_option maxRecDepth 100000 in
set_option maxHeartbeats 1000000 in
theorem rnum8 (s : ByteArray) (w : World) (hs : s.size ≤ maxLen) :
    Calls Tryz.prog 82 #[.string s] w fun e w' => e = .returned (vv (numT s.data.toList) (.slice none 0 0) (.slice none 0 0)) ∧ Below w.heap.size w w' := by
  have CI := hid (fun X => int_any s X hs)
  have HS := hid (mkS_of s _ rfl)
  cases hi : intB s.data.toList with
  | true =>
    have HN := hid (show numT s.data.toList = leafT 2 (intV s.data.toList) ⟨#[]⟩ by unfold numT; rw [hi]; rfl)
    rw [hi] at CI
    clear hi
    generalize intV s.data.toList = iv at CI HN
    go_enter Tryz.func82, Tryz.ntmps82
    go_wp2_with (go_at_call 30; go_must (refine (CI.out _).mono ?_; rintro e w1 ⟨rfl, hw1⟩; obtain rfl := hw1.symm))
    exact bodyPost_ret (v := vv (leafT 2 iv ⟨#[]⟩) (.slice none 0 0) (.slice none 0 0)) (by simp [results, Tryz.results82, go_sem, vv, leafT, VT.kd, VT.nm, VT.st]) rfl ⟨by rw [HN.out], valloc_bel (Below.refl _ _) _⟩
  | false =>
    have HN := hid (show numT s.data.toList = leafT 3 0 s by unfold numT; rw [hi, ← HS.out]; rfl)
    rw [hi] at CI
    clear hi
    go_enter Tryz.func82, Tryz.ntmps82
    go_wp2_with (go_at_call 30; go_must (refine (CI.out _).mono ?_; rintro e w1 ⟨rfl, hw1⟩; obtain rfl := hw1.symm))
    exact bodyPost_ret (v := vv (leafT 3 0 s) (.slice none 0 0) (.slice none 0 0)) (by simp [results, Tryz.results82, go_sem, vv, leafT, VT.kd, VT.nm, VT.st]) rfl ⟨by rw [HN.out], valloc_bel (Below.refl _ _) _⟩
set_option maxRecDepth 100000 in
set_option maxHeartbeats 1000000 in
theorem rlit8 (s : ByteArray) (w : World) :
    Calls Tryz.prog 83 #[.string s] w fun e w' => e = .returned (vv (litT s.data.toList) (.slice none 0 0) (.slice none 0 0)) ∧ Below w.heap.size w w' := by
  by_cases h1 : s.data.toList = [116, 114, 117, 101]
  · have te := lit_is s [116, 114, 117, 101] h1
    have HN := hid (show litT s.data.toList = leafT 1 1 ⟨#[]⟩ by unfold litT; rw [if_pos h1])
    clear h1
    go_enter Tryz.func83, Tryz.ntmps83
    go_wp2_with fail
    exact bodyPost_ret (v := vv (leafT 1 1 ⟨#[]⟩) (.slice none 0 0) (.slice none 0 0)) (by simp [results, Tryz.results83, go_sem, vv, leafT, VT.kd, VT.nm, VT.st]) rfl ⟨by rw [HN.out], valloc_bel (Below.refl _ _) _⟩
  · have te := lit_no s [116, 114, 117, 101] h1
    by_cases h2 : s.data.toList = [102, 97, 108, 115, 101]
    · have te2 := lit_is s [102, 97, 108, 115, 101] h2
      have HN := hid (show litT s.data.toList = leafT 1 0 ⟨#[]⟩ by unfold litT; rw [if_neg h1, if_pos h2])
      clear h1 h2
      go_enter Tryz.func83, Tryz.ntmps83
      go_wp2_with fail
      exact bodyPost_ret (v := vv (leafT 1 0 ⟨#[]⟩) (.slice none 0 0) (.slice none 0 0)) (by simp [results, Tryz.results83, go_sem, vv, leafT, VT.kd, VT.nm, VT.st]) rfl ⟨by rw [HN.out], valloc_bel (Below.refl _ _) _⟩
    · have te2 := lit_no s [102, 97, 108, 115, 101] h2
      have HN := hid (show litT s.data.toList = leafT 0 0 ⟨#[]⟩ by unfold litT; rw [if_neg h1, if_neg h2])
      clear h1 h2
      go_enter Tryz.func83, Tryz.ntmps83
      go_wp2_with fail
      exact bodyPost_ret (v := vv (leafT 0 0 ⟨#[]⟩) (.slice none 0 0) (.slice none 0 0)) (by simp [results, Tryz.results83, go_sem, vv, leafT, VT.kd, VT.nm, VT.st]) rfl ⟨by rw [HN.out], valloc_bel (Below.refl _ _) _⟩
end Go.Proofs.YtbeolgnognhfpaaGreatDoor
namespace Go.Proofs.YtbeolgnognhfpaaGreatDoor
open Go.RowKit

theorem Rr.same {w w' : World} {b : Nat} {v : Value} {k n er at_ : Nat} (h : Rr w b v k n er at_) (e : w'.heap[b]? = w.heap[b]?) : Rr w' b v k n er at_ := by
  have c : ∀ o, w'.cell? ⟨b, o, none⟩ = w.cell? ⟨b, o, none⟩ := fun o => World.cell?_of_block (w := w) e
  exact ⟨(c 0).trans h.r0, (c 1).trans h.r1, (c 2).trans h.r2, (c 3).trans h.r3, (c 4).trans h.r4, h.row.onto e⟩
theorem Own.put1 {b : Nat} {w w1 : World} (h : Own b w w1) {H : Nat} (hH : w.heap.size ≤ H) (o : Nat) (u : Value) : Own b w (w1.setCell ⟨H, o, none⟩ u) :=
  ⟨(show (w1.setCell ⟨H, o, none⟩ u).os = w1.os from rfl).trans h.os, (show (w1.setCell ⟨H, o, none⟩ u).tape = w1.tape from rfl).trans h.tape, (show (w1.setCell ⟨H, o, none⟩ u).output = w1.output from rfl).trans h.output, by have := h.size; simpa using this, fun k hk hn => (Below.heap_setCell _ _ _ _ (by show k ≠ H; omega)).trans (h.block k hk hn)⟩
theorem Own.put {b : Nat} {w w1 : World} (h : Own b w w1) {H o : Nat} (hH : w.heap.size ≤ H) (v0 v1 v2 v3 v4 : Value) : Own b w (put5 w1 H o v0 v1 v2 v3 v4) := by
  unfold put5
  exact Own.put1 (Own.put1 (Own.put1 (Own.put1 (Own.put1 h hH _ _) hH _ _) hH _ _) hH _ _) hH _ _
theorem Z5.far {w w' : World} {H b : Nat} (h : Z5 w H) (ho : Own b w w') (hn : ¬ H = b) : Z5 w' H := by
  have hl : H < w.heap.size := World.block_lt_of_cell? w ⟨H, 0, none⟩ h.1.1
  obtain ⟨⟨h0, h1, h2, h3, h4⟩, hf⟩ := h
  have e : w'.heap[H]? = w.heap[H]? := ho.block H hl (fun e => hn (by injection e with e))
  have c : ∀ o, w'.cell? ⟨H, o, none⟩ = w.cell? ⟨H, o, none⟩ := fun o => World.cell?_of_block (w := w) e
  exact ⟨⟨(c 0).trans h0, (c 1).trans h1, (c 2).trans h2, (c 3).trans h3, (c 4).trans h4⟩, fun o => (World.frozen?_of_block (a := ⟨H, o, none⟩) e).trans (hf o)⟩
theorem hs_put {w : World} {H lo : Nat} {T : VT} {x y v0 v1 v2 v3 v4 : Value} (hb : H < lo) (h : HS w (fun k => lo ≤ k ∧ k < w.heap.size) T x y) {lo' : Nat} (hl : lo' ≤ lo) : HS (put5 w H 0 v0 v1 v2 v3 v4) (fun k => lo' ≤ k ∧ k < (put5 w H 0 v0 v1 v2 v3 v4).heap.size) T x y := by
  rw [put5_size]
  exact h.onto (fun k hk => put5_heap _ _ _ _ _ _ _ _ _ (by omega)) (fun k hk => ⟨by omega, hk.2⟩)
/-- what a call ended in, put into a box of one's own -/
theorem rp_put {b : Nat} {v : Value} {ws : List Wd} {R : Rd} {w W w4 : World} {e : Ending} (h : Rp b v ws R W e w4) (ho : Own b w W) (hb : b < w.heap.size) (hW : w.heap.size < W.heap.size) :
    ∃ T o n c o' n' c', e = .returned (vv T (.slice o n c) (.slice o' n' c')) ∧ Own b W w4 ∧ Rp b v ws R w (.returned (vv T (.slice o n c) (.slice o' n' c'))) (put5 w4 w.heap.size 0 (.int .i64 T.kd) (.int .i64 T.nm) (.string T.st) (.slice o n c) (.slice o' n' c')) := by
  cases R with
  | ok t m q =>
    obtain ⟨X, Y, a, rfl, h1, h2, h3⟩ := h
    obtain ⟨o, n, c, o', n', c', rfl, rfl⟩ := hv_slices h2.hv
    exact ⟨t, o, n, c, o', n', c', rfl, h3, _, _, a, rfl, h1.same (put5_heap _ _ _ _ _ _ _ _ _ (by omega)), hs_put hW h2 (by omega), Own.put (Own.trans ho h3) (Nat.le_refl _) _ _ _ _ _⟩
  | bad er at_ =>
    obtain ⟨R', X, Y, k', n'', rfl, h0, h1, hk, h2, h3⟩ := h
    obtain ⟨o, n, c, o', n', c', rfl, rfl⟩ := hv_slices h2.hv
    exact ⟨R', o, n, c, o', n', c', rfl, h3, R', _, _, k', n'', rfl, h0, h1.same (put5_heap _ _ _ _ _ _ _ _ _ (by omega)), hk, hs_put hW h2 (by omega), Own.put (Own.trans ho h3) (Nat.le_refl _) _ _ _ _ _⟩
theorem num_hs (w : World) (S : Nat → Prop) {l : List UInt8} (h : (mkS l).size ≤ maxLen) : HS w S (numT l) (.slice none 0 0) (.slice none 0 0) := by
  unfold numT
  split
  · exact hs_leaf _ _ _ _ _ (by decide) (intV_wf _) (by decide)
  · exact hs_leaf _ _ _ _ _ (by decide) (by decide) h
theorem lit_hs (w : World) (S : Nat → Prop) {l : List UInt8} (_h : (mkS l).size ≤ maxLen) : HS w S (litT l) (.slice none 0 0) (.slice none 0 0) := by
  unfold litT
  split
  · exact hs_leaf _ _ _ _ _ (by decide) (by decide) (by decide)
  · split
    · exact hs_leaf _ _ _ _ _ (by decide) (by decide) (by decide)
    · exact hs_leaf _ _ _ _ _ (by decide) (by decide) (by decide)
set_option maxRecDepth 100000 in
set_option maxHeartbeats 4000000 in
theorem rvalue8 (N : Nat) (hL : RlOk N) (hP : RpOk N) : RvOk (N + 1) := by
  intro b ws v k n d w f hA hd hN hf
  have HL := hid hL
  have HPP := hid hP
  have HA := hid hA
  have hk := hA.lt
  have hlen := hA.len
  have hnod := hA.nod
  obtain ⟨x, r, he⟩ := hA.ends.ne
  obtain ⟨g, rfl⟩ : ∃ g, f = g + 1 := ⟨f - 1, by omega⟩
  have hx : ws[k]? = some x := by
    have := congrArg (fun l => l[0]?) he
    simpa using this
  have hxt : x.tx.length ≤ 65536 := hA.txt x (List.mem_of_getElem? hx)
  have hr : ws.drop (k + 1) = r := by
    have := congrArg List.tail he
    simpa using this
  have hEW := hA.ends
  rw [he] at hEW ⊢
  have HEW := hid hEW
  have HR := hid hr
  obtain ⟨a, hrr⟩ := hA.rr
  have hbw : b < w.heap.size := hrr.row.lt
  have CW := hid (fun X (hX : Below w.heap.size w X) => rword_any b ws v k n 0 a x X (hrr.onto hX) (hA.wm.inw.onto hX) hx (by omega))
  have HRR := hid hrr
  have HTS : Hid ((mkS x.tx).size ≤ maxLen) := hid (by rw [← size_list, mkS_list]; unfold maxLen; omega)
  clear hL hP hA hrr hr hEW he hx
  have HJ := hid (show jrV (g + 1) d n (x :: r) = _ by rw [jrV])
  have r3 := keepCell (valloc_bel (Below.refl w.heap.size w) (.cells #[.int .i64 0, .int .i64 0, .string ⟨#[]⟩, .slice none 0 0, .slice none 0 0] 27)) HRR.out.r3
  go_enter Tryz.func54, Tryz.ntmps54
  go_wp2_with fail
  go_at_call 55
  refine (CW.out _ (valloc_bel (Below.refl w.heap.size w) (.cells #[.int .i64 0, .int .i64 0, .string ⟨#[]⟩, .slice none 0 0, .slice none 0 0] 27))).mono ?_
  rintro e w1 ⟨rfl, hb1⟩
  go_upto_region 4 with fail
  have hal := valloc_bel (Below.refl w1.heap.size w1) (.cells #[.int .i64 (x.kd : Int), .string (mkS x.tx), .int .i64 (x.at_ : Int)] 89)
  have hbel := vonto (vonto (valloc_bel (Below.refl w.heap.size w) (.cells #[.int .i64 0, .int .i64 0, .string ⟨#[]⟩, .slice none 0 0, .slice none 0 0] 27)) hb1) hal
  have Z1 := hid (((z5_new w).onto hb1).onto hal)
  have hs1 := hb1.size
  simp only [World.size_alloc] at hs1
  have m0 : (w1.alloc (.cells #[.int .i64 (x.kd : Int), .string (mkS x.tx), .int .i64 (x.at_ : Int)] 89)).cell? ⟨w1.heap.size, 0, none⟩ = some (.int .i64 (x.kd : Int)) := by simp
  have m1 : (w1.alloc (.cells #[.int .i64 (x.kd : Int), .string (mkS x.tx), .int .i64 (x.at_ : Int)] 89)).cell? ⟨w1.heap.size, 1, none⟩ = some (.string (mkS x.tx)) := by simp
  have m2 : (w1.alloc (.cells #[.int .i64 (x.kd : Int), .string (mkS x.tx), .int .i64 (x.at_ : Int)] 89)).cell? ⟨w1.heap.size, 2, none⟩ = some (.int .i64 (x.at_ : Int)) := by simp
  have R1 := hid (HRR.out.onto hbel)
  have OW1 := hid (Own.of (b := b) hbel)
  have hs1' := World.size_alloc w1 (.cells #[.int .i64 (x.kd : Int), .string (mkS x.tx), .int .i64 (x.at_ : Int)] 89)
  clear hb1 hal hbel r3 CW HRR
  generalize (w1.alloc (.cells #[.int .i64 (x.kd : Int), .string (mkS x.tx), .int .i64 (x.at_ : Int)] 89)) = W1 at Z1 m0 m1 m2 R1 OW1 hs1' ⊢
  have HS1 := hid hs1'
  clear hs1'
  by_cases h0 : x.kd = 0
  · rw [if_pos (Or.inl h0)] at HJ
    have hk0 : ((x.kd : Int) == 0) = true := by rw [h0]; rfl
    clear h0
    go_wp2_with fail
    go_at_call 56
    refine (rfail_set b v k n a 4 x.at_ W1 R1.out).mono ?_
    rintro e w2 ⟨rfl, hr2, ho2⟩
    have Z2 := hid (Z1.out.far ho2 (by omega))
    have HR2 := hid hr2
    have HO2 := hid (OW1.out.trans ho2)
    clear hr2 ho2
    obtain ⟨⟨q0, q1, q2, q3, q4⟩, qf⟩ := Z2.out
    go_wp2_with fail
    obtain ⟨s0, s1, s2, s3, s4⟩ := z5_put Z2.out zeroT (.slice none 0 0) (.slice none 0 0)
    simp only [put5, Nat.zero_add, zeroT, VT.kd, VT.nm, VT.st] at s0 s1 s2 s3 s4
    refine bodyPost_ret (v := vv zeroT (.slice none 0 0) (.slice none 0 0)) (by simp [results, Tryz.results54, go_sem, vv, zeroT, VT.kd, VT.nm, VT.st, s0, s1, s2, s3, s4]) rfl ?_
    rw [HJ.out]
    exact ⟨zeroT, _, _, k, n, rfl, by decide, HR2.out.same (put5_heap _ _ _ _ _ _ _ _ _ (by omega)), hk, hs_leaf _ _ 0 0 ⟨#[]⟩ (by decide) (by decide) (by decide), Own.put HO2.out (Nat.le_refl _) _ _ _ _ _⟩
  have hk0 : ((x.kd : Int) == 0) = false := by simp; omega
  by_cases h1 : x.kd = 1 ∧ x.tx ≠ [123] ∧ x.tx ≠ [91]
  · rw [if_pos (Or.inr h1)] at HJ
    have hk1 : ((x.kd : Int) == 1) = true := by rw [h1.1]; rfl
    have e1 := lit_no (mkS x.tx) [123] (by rw [mkS_list]; exact h1.2.1)
    have e2 := lit_no (mkS x.tx) [91] (by rw [mkS_list]; exact h1.2.2)
    have e1' : ((mkS x.tx).toList != [123]) = true := by rw [bne, e1]; rfl
    have e2' : ((mkS x.tx).toList != [91]) = true := by rw [bne, e2]; rfl
    clear h0 h1
    go_wp2_with fail
    go_at_call 56
    refine (rfail_set b v k n a 4 x.at_ W1 R1.out).mono ?_
    rintro e w2 ⟨rfl, hr2, ho2⟩
    have Z2 := hid (Z1.out.far ho2 (by omega))
    have HR2 := hid hr2
    have HO2 := hid (OW1.out.trans ho2)
    clear hr2 ho2
    obtain ⟨⟨q0, q1, q2, q3, q4⟩, qf⟩ := Z2.out
    go_wp2_with fail
    obtain ⟨s0, s1, s2, s3, s4⟩ := z5_put Z2.out zeroT (.slice none 0 0) (.slice none 0 0)
    simp only [put5, Nat.zero_add, zeroT, VT.kd, VT.nm, VT.st] at s0 s1 s2 s3 s4
    refine bodyPost_ret (v := vv zeroT (.slice none 0 0) (.slice none 0 0)) (by simp [results, Tryz.results54, go_sem, vv, zeroT, VT.kd, VT.nm, VT.st, s0, s1, s2, s3, s4]) rfl ?_
    rw [HJ.out]
    exact ⟨zeroT, _, _, k, n, rfl, by decide, HR2.out.same (put5_heap _ _ _ _ _ _ _ _ _ (by omega)), hk, hs_leaf _ _ 0 0 ⟨#[]⟩ (by decide) (by decide) (by decide), Own.put HO2.out (Nat.le_refl _) _ _ _ _ _⟩
  rw [if_neg (fun h => h.elim h0 h1)] at HJ
  have hbr : (x.kd = 1 → x.tx = [123] ∨ x.tx = [91]) := fun h => Classical.byContradiction fun h' => h1 ⟨h, fun e => h' (Or.inl e), fun e => h' (Or.inr e)⟩
  have HBR := hid hbr
  have H0 := hid h0
  go_cut [32] (fun u wx => u = .bool false ∧ wx = W1)
  case first =>
    by_cases k1 : x.kd = 1
    · have hk1 : ((x.kd : Int) == 1) = true := by rw [k1]; rfl
      by_cases k2 : x.tx = [123]
      · have e1 := lit_is (mkS x.tx) [123] (by rw [mkS_list]; exact k2)
        have e1' : ((mkS x.tx).toList != [123]) = false := by rw [bne, e1]; rfl
        clear k1 k2 h0 h1 hbr
        go_wp2_with fail
        go_meet
        exact ⟨rfl, rfl⟩
      · have k3 : x.tx = [91] := (hbr k1).resolve_left k2
        have e1 := lit_no (mkS x.tx) [123] (by rw [mkS_list]; exact k2)
        have e2 := lit_is (mkS x.tx) [91] (by rw [mkS_list]; exact k3)
        have e1' : ((mkS x.tx).toList != [123]) = true := by rw [bne, e1]; rfl
        have e2' : ((mkS x.tx).toList != [91]) = false := by rw [bne, e2]; rfl
        clear k1 k2 k3 h0 h1 hbr
        go_wp2_with fail
        go_meet
        exact ⟨rfl, rfl⟩
    · have hk1 : ((x.kd : Int) == 1) = false := by simp; omega
      clear k1 h0 h1 hbr
      go_wp2_with fail
      go_meet
      exact ⟨rfl, rfl⟩
  case rest =>
  obtain ⟨rfl, rfl⟩ := hcut
  clear h0 h1 hbr hk0
  have r2 := R1.out.r2
  have rf := R1.out.row.frozen
  go_upto_region 8 with fail
  have R2 := hid (show Rr (wc.setCell ⟨b, 2, none⟩ (.int .i64 ((n : Int) + 1))) b v k (n + 1) 0 a by have := R1.out.set2 (n + 1); simpa using this)
  have O2 := hid (show Own b w (wc.setCell ⟨b, 2, none⟩ (.int .i64 ((n : Int) + 1))) from Own.set OW1.out 2 _)
  have Z2 := hid (show Z5 (wc.setCell ⟨b, 2, none⟩ (.int .i64 ((n : Int) + 1))) w.heap.size from Z1.out.far (Own.set (Own.refl b wc) 2 _) (by omega))
  have p0 := (set_other wc b w1.heap.size 2 0 (.int .i64 ((n : Int) + 1)) (Or.inl (by omega))).trans m0
  have p1 := (set_other wc b w1.heap.size 2 1 (.int .i64 ((n : Int) + 1)) (Or.inl (by omega))).trans m1
  have p2 := (set_other wc b w1.heap.size 2 2 (.int .i64 ((n : Int) + 1)) (Or.inl (by omega))).trans m2
  have hs2 : (wc.setCell ⟨b, 2, none⟩ (.int .i64 ((n : Int) + 1))).heap.size = w1.heap.size + 1 := by rw [← HS1.out]; simp
  have HS2 := hid hs2
  clear R1 OW1 Z1 m0 m1 m2 r2 rf hs2 HS1
  generalize (wc.setCell ⟨b, 2, none⟩ (.int .i64 ((n : Int) + 1))) = W2 at R2 O2 Z2 p0 p1 p2 HS2 ⊢
  have R1 := R2; have OW1 := O2; have Z1 := Z2
  clear R2 O2 Z2
  by_cases hlim : 32 < d ∨ 4096 < n + 1
  · rw [if_pos hlim] at HJ
    by_cases hd32 : 32 < d
    · clear hlim
      go_wp2_with fail
      go_at_call 56
      refine (rfail_set b v k (n + 1) a 2 x.at_ W2 R1.out).mono ?_
      rintro e w2 ⟨rfl, hr2, ho2⟩
      have Z2 := hid (Z1.out.far ho2 (by omega))
      have HR2 := hid hr2
      have HO2 := hid (OW1.out.trans ho2)
      clear hr2 ho2
      obtain ⟨⟨q0, q1, q2, q3, q4⟩, qf⟩ := Z2.out
      go_wp2_with fail
      obtain ⟨s0, s1, s2, s3, s4⟩ := z5_put Z2.out zeroT (.slice none 0 0) (.slice none 0 0)
      simp only [put5, Nat.zero_add, zeroT, VT.kd, VT.nm, VT.st] at s0 s1 s2 s3 s4
      refine bodyPost_ret (v := vv zeroT (.slice none 0 0) (.slice none 0 0)) (by simp [results, Tryz.results54, go_sem, vv, zeroT, VT.kd, VT.nm, VT.st, s0, s1, s2, s3, s4]) rfl ?_
      rw [HJ.out]
      exact ⟨zeroT, _, _, k, (n + 1), rfl, by decide, HR2.out.same (put5_heap _ _ _ _ _ _ _ _ _ (by omega)), hk, hs_leaf _ _ 0 0 ⟨#[]⟩ (by decide) (by decide) (by decide), Own.put HO2.out (Nat.le_refl _) _ _ _ _ _⟩
    · have hn96 : 4096 < n + 1 := hlim.resolve_left hd32
      have r2 := R1.out.r2
      simp only [Int.natCast_add, Int.cast_ofNat_Int] at r2
      clear hlim
      go_wp2_with fail
      go_at_call 56
      refine (rfail_set b v k (n + 1) a 2 x.at_ W2 R1.out).mono ?_
      rintro e w2 ⟨rfl, hr2, ho2⟩
      have Z2 := hid (Z1.out.far ho2 (by omega))
      have HR2 := hid hr2
      have HO2 := hid (OW1.out.trans ho2)
      clear hr2 ho2
      obtain ⟨⟨q0, q1, q2, q3, q4⟩, qf⟩ := Z2.out
      go_wp2_with fail
      obtain ⟨s0, s1, s2, s3, s4⟩ := z5_put Z2.out zeroT (.slice none 0 0) (.slice none 0 0)
      simp only [put5, Nat.zero_add, zeroT, VT.kd, VT.nm, VT.st] at s0 s1 s2 s3 s4
      refine bodyPost_ret (v := vv zeroT (.slice none 0 0) (.slice none 0 0)) (by simp [results, Tryz.results54, go_sem, vv, zeroT, VT.kd, VT.nm, VT.st, s0, s1, s2, s3, s4]) rfl ?_
      rw [HJ.out]
      exact ⟨zeroT, _, _, k, (n + 1), rfl, by decide, HR2.out.same (put5_heap _ _ _ _ _ _ _ _ _ (by omega)), hk, hs_leaf _ _ 0 0 ⟨#[]⟩ (by decide) (by decide) (by decide), Own.put HO2.out (Nat.le_refl _) _ _ _ _ _⟩
  rw [if_neg hlim] at HJ
  have hd32 : ¬ 32 < d := fun h => hlim (Or.inl h)
  have hn96 : ¬ 4096 < n + 1 := fun h => hlim (Or.inr h)
  have r2 := R1.out.r2
  simp only [Int.natCast_add, Int.cast_ofNat_Int] at r2
  have r1 := R1.out.r1
  have rf := R1.out.row.frozen
  clear hlim
  go_upto_region 12 with fail
  have R3 := hid (show Rr (W2.setCell ⟨b, 1, none⟩ (.int .i64 ((k : Int) + 1))) b v (k + 1) (n + 1) 0 a by have := R1.out.set1 (k + 1); simpa using this)
  have O3 := hid (show Own b w (W2.setCell ⟨b, 1, none⟩ (.int .i64 ((k : Int) + 1))) from Own.set OW1.out 1 _)
  have Z3 := hid (show Z5 (W2.setCell ⟨b, 1, none⟩ (.int .i64 ((k : Int) + 1))) w.heap.size from Z1.out.far (Own.set (Own.refl b W2) 1 _) (by omega))
  have m0 := (set_other W2 b w1.heap.size 1 0 (.int .i64 ((k : Int) + 1)) (Or.inl (by omega))).trans p0
  have m1 := (set_other W2 b w1.heap.size 1 1 (.int .i64 ((k : Int) + 1)) (Or.inl (by omega))).trans p1
  have m2 := (set_other W2 b w1.heap.size 1 2 (.int .i64 ((k : Int) + 1)) (Or.inl (by omega))).trans p2
  have HS3 : Hid ((W2.setCell ⟨b, 1, none⟩ (.int .i64 ((k : Int) + 1))).heap.size = w1.heap.size + 1) := hid (by rw [← HS2.out]; simp)
  clear R1 OW1 Z1 p0 p1 p2 r1 r2 rf HS2
  generalize (W2.setCell ⟨b, 1, none⟩ (.int .i64 ((k : Int) + 1))) = W3 at R3 O3 Z3 m0 m1 m2 HS3 ⊢
  have hrl : ws.length - r.length = k + 1 := by rw [← HR.out, List.length_drop]; omega
  have HRL := hid hrl
  have HAT : Hid (At W3 b v ws (k + 1) (n + 1)) := hid ⟨⟨a, R3.out⟩, HA.out.wm.own O3.out, by rw [HR.out]; exact HEW.out.tail H0.out, by omega, HA.out.txt, by omega⟩
  clear hrl
  by_cases hk2 : x.kd = 2
  · rw [if_pos hk2] at HJ
    have hkb : ((x.kd : Int) == 2) = true := by rw [hk2]; rfl
    clear hk2
    obtain ⟨⟨q0, q1, q2, q3, q4⟩, qf⟩ := Z3.out
    go_wp2_with fail
    obtain ⟨s0, s1, s2, s3, s4⟩ := z5_put Z3.out (leafT 4 0 (mkS x.tx)) (.slice none 0 0) (.slice none 0 0)
    simp only [put5, Nat.zero_add, leafT, VT.kd, VT.nm, VT.st] at s0 s1 s2 s3 s4
    refine bodyPost_ret (v := vv (leafT 4 0 (mkS x.tx)) (.slice none 0 0) (.slice none 0 0)) (by simp [results, Tryz.results54, go_sem, vv, leafT, VT.kd, VT.nm, VT.st, s0, s1, s2, s3, s4]) rfl ?_
    rw [HJ.out]
    exact ⟨_, _, a, rfl, by rw [HRL.out]; exact R3.out.same (put5_heap _ _ _ _ _ _ _ _ _ (by omega)), hs_leaf _ _ 4 0 _ (by decide) (by decide) HTS.out, Own.put O3.out (Nat.le_refl _) _ _ _ _ _⟩
  rw [if_neg hk2] at HJ
  have hkb2 : ((x.kd : Int) == 2) = false := by simp; omega
  clear hk2
  by_cases hk3 : x.kd = 3
  · rw [if_pos hk3] at HJ
    have hkb : ((x.kd : Int) == 3) = true := by rw [hk3]; rfl
    clear hk3
    have CN := hid (rnum8 (mkS x.tx) W3 HTS.out)
    rw [mkS_list] at CN
    go_wp2_with fail
    go_at_call 82
    refine CN.out.mono ?_
    rintro e w4 ⟨rfl, hb4⟩
    have Z4 := hid (Z3.out.onto hb4)
    have R4 := hid (R3.out.onto hb4)
    have O4 := hid (Own.trans O3.out (Own.of hb4))
    clear hb4 CN
    generalize hTT : (numT x.tx) = TT
    have HTT := hid hTT
    clear hTT
    simp only [vv]
    obtain ⟨⟨q0, q1, q2, q3, q4⟩, qf⟩ := Z4.out
    go_wp2_with fail
    obtain ⟨s0, s1, s2, s3, s4⟩ := z5_put Z4.out TT (.slice none 0 0) (.slice none 0 0)
    simp only [put5, Nat.zero_add] at s0 s1 s2 s3 s4
    refine bodyPost_ret (v := vv TT (.slice none 0 0) (.slice none 0 0)) (by simp [results, Tryz.results54, go_sem, vv, s0, s1, s2, s3, s4]) rfl ?_
    rw [HJ.out, HTT.out]
    exact ⟨_, _, a, rfl, by rw [HRL.out]; exact R4.out.same (put5_heap _ _ _ _ _ _ _ _ _ (by omega)), by rw [← HTT.out]; exact num_hs _ _ HTS.out, Own.put O4.out (Nat.le_refl _) _ _ _ _ _⟩
  rw [if_neg hk3] at HJ
  have hkb3 : ((x.kd : Int) == 3) = false := by simp; omega
  clear hk3
  by_cases hk4 : x.kd = 4
  · rw [if_pos hk4] at HJ
    have hkb : ((x.kd : Int) == 4) = true := by rw [hk4]; rfl
    clear hk4
    have CN := hid (rlit8 (mkS x.tx) W3)
    rw [mkS_list] at CN
    go_wp2_with fail
    go_at_call 83
    refine CN.out.mono ?_
    rintro e w4 ⟨rfl, hb4⟩
    have Z4 := hid (Z3.out.onto hb4)
    have R4 := hid (R3.out.onto hb4)
    have O4 := hid (Own.trans O3.out (Own.of hb4))
    clear hb4 CN
    generalize hTT : (litT x.tx) = TT
    have HTT := hid hTT
    clear hTT
    simp only [vv]
    obtain ⟨⟨q0, q1, q2, q3, q4⟩, qf⟩ := Z4.out
    go_wp2_with fail
    obtain ⟨s0, s1, s2, s3, s4⟩ := z5_put Z4.out TT (.slice none 0 0) (.slice none 0 0)
    simp only [put5, Nat.zero_add] at s0 s1 s2 s3 s4
    refine bodyPost_ret (v := vv TT (.slice none 0 0) (.slice none 0 0)) (by simp [results, Tryz.results54, go_sem, vv, s0, s1, s2, s3, s4]) rfl ?_
    rw [HJ.out, HTT.out]
    exact ⟨_, _, a, rfl, by rw [HRL.out]; exact R4.out.same (put5_heap _ _ _ _ _ _ _ _ _ (by omega)), by rw [← HTT.out]; exact lit_hs _ _ HTS.out, Own.put O4.out (Nat.le_refl _) _ _ _ _ _⟩
  rw [if_neg hk4] at HJ
  have hkb4 : ((x.kd : Int) == 4) = false := by simp; omega
  clear hk4
  by_cases ht : x.tx = [91]
  · rw [if_pos ht] at HJ
    have e1 := lit_is (mkS x.tx) [91] (by rw [mkS_list]; exact ht)
    clear ht
    have CL := hid (HL.out b ws v (k + 1) (n + 1) d W3 g HAT.out (by omega) (by omega) (by omega))
    rw [HR.out] at CL
    go_wp2_with fail
    go_at_call 84
    refine CL.out.mono ?_
    intro e w4 hp4
    obtain ⟨T4, o4, n4, c4, o5, n5, c5, rfl, ho4, hp5⟩ := rp_put hp4 O3.out hbw (by have := HS3.out; omega)
    have Z4 := hid (Z3.out.far ho4 (by omega))
    have HP5 := hid hp5
    clear hp4 hp5 CL ho4
    simp only [vv]
    obtain ⟨⟨q0, q1, q2, q3, q4⟩, qf⟩ := Z4.out
    go_wp2_with fail
    obtain ⟨s0, s1, s2, s3, s4⟩ := z5_put Z4.out T4 (.slice o4 n4 c4) (.slice o5 n5 c5)
    simp only [put5, Nat.zero_add] at s0 s1 s2 s3 s4
    refine bodyPost_ret (v := vv T4 (.slice o4 n4 c4) (.slice o5 n5 c5)) (by simp [results, Tryz.results54, go_sem, vv, s0, s1, s2, s3, s4]) rfl ?_
    rw [HJ.out]
    exact HP5.out
  rw [if_neg ht] at HJ
  have e1 := lit_no (mkS x.tx) [91] (by rw [mkS_list]; exact ht)
  clear ht
  have CL := hid (HPP.out b ws v (k + 1) (n + 1) d W3 g HAT.out (by omega) (by omega) (by omega))
  rw [HR.out] at CL
  go_wp2_with fail
  go_at_call 85
  refine CL.out.mono ?_
  intro e w4 hp4
  obtain ⟨T4, o4, n4, c4, o5, n5, c5, rfl, ho4, hp5⟩ := rp_put hp4 O3.out hbw (by have := HS3.out; omega)
  have Z4 := hid (Z3.out.far ho4 (by omega))
  have HP5 := hid hp5
  clear hp4 hp5 CL ho4
  simp only [vv]
  obtain ⟨⟨q0, q1, q2, q3, q4⟩, qf⟩ := Z4.out
  go_wp2_with fail
  obtain ⟨s0, s1, s2, s3, s4⟩ := z5_put Z4.out T4 (.slice o4 n4 c4) (.slice o5 n5 c5)
  simp only [put5, Nat.zero_add] at s0 s1 s2 s3 s4
  refine bodyPost_ret (v := vv T4 (.slice o4 n4 c4) (.slice o5 n5 c5)) (by simp [results, Tryz.results54, go_sem, vv, s0, s1, s2, s3, s4]) rfl ?_
  rw [HJ.out]
  exact HP5.out
end Go.Proofs.YtbeolgnognhfpaaGreatDoor
namespace Go.Proofs.YtbeolgnognhfpaaGreatDoor
open Go.RowKit

theorem Z5.same {w w' : World} {H : Nat} (h : Z5 w H) (e : w'.heap[H]? = w.heap[H]?) : Z5 w' H := by
  obtain ⟨⟨h0, h1, h2, h3, h4⟩, hf⟩ := h
  have c : ∀ o, w'.cell? ⟨H, o, none⟩ = w.cell? ⟨H, o, none⟩ := fun o => World.cell?_of_block (w := w) e
  exact ⟨⟨(c 0).trans h0, (c 1).trans h1, (c 2).trans h2, (c 3).trans h3, (c 4).trans h4⟩, fun o => (World.frozen?_of_block (a := ⟨H, o, none⟩) e).trans (hf o)⟩
/-- a list that is being read: its parts in a row of its own, its box, the result's box -/
structure L8 (w wr : World) (b : Nat) (E : List (VT × Value × Value)) (u : Value) : Prop where
  own : wr.ownsRow (w.heap.size + 2) 27 5 u E.length (E.flatMap vc)
  prt : ∀ e ∈ E, HS wr (fun q => w.heap.size + 2 ≤ q ∧ q < wr.heap.size ∧ ¬ u.ownBlock = some q) e.1 e.2.1 e.2.2
  box : Bx5 wr (w.heap.size + 1) (.int .i64 5) (.int .i64 0) (.string ⟨#[]⟩) u (.slice none 0 0)
  row : Row wr (w.heap.size + 1) 27 5
  zer : Z5 wr w.heap.size
  ow : Own b w wr
  big : w.heap.size + 2 ≤ wr.heap.size
theorem L8.far {w wr w' : World} {b : Nat} {E : List (VT × Value × Value)} {u : Value} (h : L8 w wr b E u) (ho : Own b wr w') (hb : b < w.heap.size) : L8 w w' b E u := by
  have hs := ho.size
  have hbig := h.big
  have hbl : ∀ q, q < wr.heap.size → ¬ q = b → w'.heap[q]? = wr.heap[q]? := fun q hq hn => ho.block q hq (fun e => hn (by injection e with e))
  refine ⟨h.own.kept ho ?_, fun e he => (h.prt e he).onto (fun q hq => hbl q hq.2.1 (by omega)) (fun q hq => ⟨hq.1, by omega, hq.2.2⟩), h.box.same (hbl _ (by omega) (by omega)), h.row.onto (hbl _ (by omega) (by omega)), h.zer.far ho (by omega), Own.trans h.ow ho, by omega⟩
  cases hv : u.ownBlock with
  | none => exact Or.inl rfl
  | some g => have := (h.own.lt g hv).1; exact Or.inr (fun e => by injection e with e; omega)
theorem L8.more {w w2 w2' w3 : World} {b : Nat} {E : List (VT × Value × Value)} {u : Value} {T : VT} {X Y : Value} {l0 g cap : Nat} (h : L8 w w2 b E u) (hX : HS w2 (fun q => l0 ≤ q ∧ q < w2.heap.size) T X Y) (hl : w.heap.size + 2 ≤ l0) (hu : ∀ g', u.ownBlock = some g' → g' < l0)
    (hb2 : Below w2.heap.size w2 w2') (hg : w2'.grownBy w3 u.ownBlock) (hat : u.ownBlock = some g ∨ g = w2'.heap.size) 
    (hown : w3.ownsRow (w.heap.size + 2) 27 5 (.slice (some ⟨g, 0, none⟩) (E.length + 1) cap) (E.length + 1) (E.flatMap vc ++ vc (T, X, Y))) :
    L8 w (w3.setCell ⟨w.heap.size + 1, 3, none⟩ (.slice (some ⟨g, 0, none⟩) (E.length + 1) cap)) b (E ++ [(T, X, Y)]) (.slice (some ⟨g, 0, none⟩) (E.length + 1) cap) := by
  have s2 := hb2.size
  have s3 := hg.size
  have hbig := h.big
  have hul : ∀ g', u.ownBlock = some g' → w.heap.size + 2 ≤ g' ∧ g' < w2.heap.size := fun g' hg' => h.own.lt g' hg'
  have hgne : ∀ q, q < w2.heap.size → ¬ u.ownBlock = some q → ¬ g = q := by
    intro q hq hn e
    subst e
    rcases hat with h' | h'
    · exact hn h'
    · omega
  have hgl : w.heap.size + 2 ≤ g := by
    rcases hat with h' | h'
    · exact (hul g h').1
    · omega
  have hbl : ∀ q, q < w2.heap.size → ¬ u.ownBlock = some q → ¬ q = w.heap.size + 1 → (w3.setCell ⟨w.heap.size + 1, 3, none⟩ (.slice (some ⟨g, 0, none⟩) (E.length + 1) cap)).heap[q]? = w2.heap[q]? := fun q hq hn h1 =>
    (Below.heap_setCell _ _ _ _ h1).trans ((hg.block q (by omega) (fun e => hn e.symm)).trans (hb2.block q hq))
  have hr3 : Row w3 (w.heap.size + 1) 27 5 := h.row.onto ((hg.block _ (by omega) (fun e => by have := hul _ e.symm; omega)).trans (hb2.block _ (by omega)))
  obtain ⟨c0, c1, c2, c3, c4⟩ := h.box
  have hc : ∀ o, w3.cell? ⟨w.heap.size + 1, o, none⟩ = w2.cell? ⟨w.heap.size + 1, o, none⟩ := fun o => World.cell?_of_block (w := w2) ((hg.block _ (by show w.heap.size + 1 < _; omega) (fun e => by have := hul _ e.symm; simp at this)).trans (hb2.block _ (by show w.heap.size + 1 < _; omega)))
  refine ⟨?_, fun e he => ?_, ⟨(set_other _ _ _ _ _ _ (Or.inr (by omega))).trans ((hc 0).trans c0), (set_other _ _ _ _ _ _ (Or.inr (by omega))).trans ((hc 1).trans c1), (set_other _ _ _ _ _ _ (Or.inr (by omega))).trans ((hc 2).trans c2), set_same hr3 (by omega) _, (set_other _ _ _ _ _ _ (Or.inr (by omega))).trans ((hc 4).trans c4)⟩, hr3.set _ _, ?_, ?_, by simp; omega⟩
  · rw [List.flatMap_append, List.length_append]
    refine World.ownsRow.kept (by simpa using hown) (set_grown w3 _ 3 _) (Or.inr (fun e => ?_))
    simp [Value.ownBlock] at e
    omega
  · have hsz : (w3.setCell ⟨w.heap.size + 1, 3, none⟩ (.slice (some ⟨g, 0, none⟩) (E.length + 1) cap)).heap.size = w3.heap.size := by simp
    rw [hsz]
    rcases List.mem_append.1 he with he | he
    · refine (h.prt e he).onto (fun q hq => hbl q hq.2.1 hq.2.2 (by omega)) (fun q hq => ⟨hq.1, by omega, fun e' => hgne q hq.2.1 hq.2.2 (by simpa [Value.ownBlock] using e')⟩)
    · obtain rfl := List.mem_singleton.1 he
      have hno : ∀ q, l0 ≤ q → ¬ u.ownBlock = some q := fun q hq e' => by have := hu q e'; omega
      exact hX.onto (fun q hq => hbl q hq.2 (hno q hq.1) (by omega)) (fun q hq => ⟨by omega, by omega, fun e' => hgne q hq.2 (hno q hq.1) (by simpa [Value.ownBlock] using e')⟩)
  · refine h.zer.same ((Below.heap_setCell _ _ _ _ (by show w.heap.size ≠ w.heap.size + 1; omega)).trans ((hg.block _ (by omega) (fun e => by have := hul _ e.symm; omega)).trans (hb2.block _ (by omega))))
  · have ho3 : Own b w w3 := ⟨hg.os.trans (hb2.os.trans h.ow.os), hg.tape.trans (hb2.tape.trans h.ow.tape), hg.output.trans (hb2.output.trans h.ow.output), by have := h.ow.size; omega, fun q hq hn => (hg.block q (by omega) (fun e => by have := hul _ e.symm; omega)).trans ((hb2.block q (by omega)).trans (h.ow.block q hq hn))⟩
    exact Own.put1 ho3 (by omega) _ _
/-- what is read so far, as a list -/
theorem L8.tree {w wr : World} {b : Nat} {E : List (VT × Value × Value)} {u : Value} (h : L8 w wr b E u) (v0 v1 v2 v3 v4 : Value) : HS (put5 wr w.heap.size 0 v0 v1 v2 v3 v4) (fun q => w.heap.size ≤ q ∧ q < (put5 wr w.heap.size 0 v0 v1 v2 v3 v4).heap.size) (listT (E.map (·.1))) u (.slice none 0 0) := by
  have hbig := h.big
  have hl := own_ls (S := fun q => w.heap.size + 2 ≤ q ∧ q < wr.heap.size) h.own (fun e he => (h.prt e he).onto (fun _ _ => rfl) (fun q hq => ⟨hq.1, hq.2.1⟩)) (fun g hg => h.own.lt g hg)
  have hm : MS wr (fun q => w.heap.size + 2 ≤ q ∧ q < wr.heap.size) [] [] (.slice none 0 0) := ⟨⟨0, 0, none⟩, fun _ => .nilIface, fun _ => .nilIface, ⟨none, 0, rfl, Nat.le_refl _, Nat.zero_le _, fun h => absurd h (by simp)⟩, rfl, fun h => absurd h (by simp), fun i t h => by simp at h, fun i t h => by simp at h, fun i t h => by simp at h⟩
  have ht : HS wr (fun q => w.heap.size + 2 ≤ q ∧ q < wr.heap.size) (listT (E.map (·.1))) u (.slice none 0 0) := hs_of (T := listT (E.map (·.1))) ⟨list_wf.1, list_wf.2.2, (by decide : (⟨#[]⟩ : ByteArray).size ≤ maxLen)⟩ hl hm
  exact hs_put (H := w.heap.size) (lo := w.heap.size + 2) (by omega) ht (lo' := w.heap.size) (by omega)
/-- what a call ended in, one way for both -/
theorem rp_any {b : Nat} {v : Value} {ws : List Wd} {R : Rd} {w w' : World} {e : Ending} (h : Rp b v ws R w e w') (hq : ∀ t m q, R = .ok t m q → 0 < q.length ∧ q.length ≤ ws.length) :
    ∃ T o n c o' n' c' k' m er a, e = .returned (vv T (.slice o n c) (.slice o' n' c')) ∧ Rr w' b v k' m er a ∧ k' < ws.length ∧ HS w' (fun q => w.heap.size ≤ q ∧ q < w'.heap.size) T (.slice o n c) (.slice o' n' c') ∧ Own b w w' ∧
      ((∃ q, R = .ok T m q ∧ er = 0 ∧ k' = ws.length - q.length) ∨ (R = .bad er a ∧ ¬ er = 0)) := by
  cases R with
  | ok t m q =>
    obtain ⟨X, Y, a, rfl, h1, h2, h3⟩ := h
    obtain ⟨o, n, c, o', n', c', rfl, rfl⟩ := hv_slices h2.hv
    have := hq t m q rfl
    exact ⟨t, o, n, c, o', n', c', _, m, 0, a, rfl, h1, by omega, h2, h3, Or.inl ⟨q, rfl, rfl, rfl⟩⟩
  | bad er at_ =>
    obtain ⟨R', X, Y, k', n'', rfl, h0, h1, hk, h2, h3⟩ := h
    obtain ⟨o, n, c, o', n', c', rfl, rfl⟩ := hv_slices h2.hv
    exact ⟨R', o, n, c, o', n', c', k', n'', er, at_, rfl, h1, hk, h2, h3, Or.inr ⟨rfl, h0⟩⟩
set_option maxRecDepth 100000 in
set_option maxHeartbeats 4000000 in
theorem rlist8 (N : Nat) (hV : RvOk N) : RlOk N := by
  intro b ws v k n d w f hA hd hN hf
  have HV := hid hV
  have HA := hid hA
  have hk := hA.lt
  have hlen := hA.len
  obtain ⟨a, hrr⟩ := hA.rr
  have hbw : b < w.heap.size := hrr.row.lt
  have HRR := hid hrr
  have CI := hid (fun X (hX : Below w.heap.size w X) => ris_any b ws v k n 0 a 93 X (hrr.onto hX) (hA.wm.inw.onto hX) hk (by omega))
  simp only [decide_true, Bool.true_and] at CI
  obtain ⟨i0, hi, hz0, hz1, hz2⟩ := info_parts Tryz.info27
  obtain ⟨R0, hR0⟩ : ∃ R0, R0 = (if isM 93 (ws.drop k) = true then Rd.ok (listT []) n (ws.drop k).tail else jrL f d n [] (ws.drop k)) := ⟨_, rfl⟩
  rw [← hR0]
  have HR0 := hid hR0
  clear hV hA hrr hR0
  go_enter Tryz.func84, Tryz.ntmps84
  go_wp2_with fail
  have h0 : L8 w ((w.alloc (.cells #[.int .i64 0, .int .i64 0, .string ⟨#[]⟩, .slice none 0 0, .slice none 0 0] 27)).alloc (.cells #[.int .i64 5, .int .i64 0, .string ⟨#[]⟩, .slice none 0 0, .slice none 0 0] 27)) b [] (.slice none 0 0) := by
    have e1 : (w.alloc (.cells #[.int .i64 0, .int .i64 0, .string ⟨#[]⟩, .slice none 0 0, .slice none 0 0] 27)).heap.size = w.heap.size + 1 := World.size_alloc _ _
    have hz := (z5_new w).onto (valloc_bel (Below.refl (w.alloc (.cells #[.int .i64 0, .int .i64 0, .string ⟨#[]⟩, .slice none 0 0, .slice none 0 0] 27)).heap.size (w.alloc (.cells #[.int .i64 0, .int .i64 0, .string ⟨#[]⟩, .slice none 0 0, .slice none 0 0] 27))) (.cells #[.int .i64 5, .int .i64 0, .string ⟨#[]⟩, .slice none 0 0, .slice none 0 0] 27))
    have hr := Row.new (w.alloc (.cells #[.int .i64 0, .int .i64 0, .string ⟨#[]⟩, .slice none 0 0, .slice none 0 0] 27)) #[.int .i64 5, .int .i64 0, .string ⟨#[]⟩, .slice none 0 0, .slice none 0 0] 27
    rw [e1] at hr
    refine ⟨World.ownsRow_nil _ _ _ _, fun e he => by simp at he, ?_, hr, hz, Own.of (valloc_bel (valloc_bel (Below.refl _ _) _) _), by simp⟩
    rw [← e1]
    exact ⟨by simp, by simp, by simp, by simp, by simp⟩
  have hb0 := valloc_bel (valloc_bel (Below.refl w.heap.size w) (.cells #[.int .i64 0, .int .i64 0, .string ⟨#[]⟩, .slice none 0 0, .slice none 0 0] 27)) (.cells #[.int .i64 5, .int .i64 0, .string ⟨#[]⟩, .slice none 0 0, .slice none 0 0] 27)
  have H0 := hid h0
  have HB0 := hid hb0
  clear h0 hb0
  generalize ((w.alloc (.cells #[.int .i64 0, .int .i64 0, .string ⟨#[]⟩, .slice none 0 0, .slice none 0 0] 27)).alloc (.cells #[.int .i64 5, .int .i64 0, .string ⟨#[]⟩, .slice none 0 0, .slice none 0 0] 27)) = W0 at H0 HB0 ⊢
  go_at_call 117
  refine (CI.out _ HB0.out).mono ?_
  rintro e w1 ⟨rfl, hb1⟩
  have H1 := hid (H0.out.far (Own.of hb1) hbw)
  have R1 := hid (HRR.out.onto (vonto HB0.out hb1))
  have HB1 := hid (vonto HB0.out hb1)
  clear hb1 H0 HB0 CI
  cases hm : isM 93 (ws.drop k) with
  | true =>
    rw [if_pos hm] at HR0
    have htl : (ws.drop k).tail.length = ws.length - k - 1 := by simp; omega
    have r1 := R1.out.r1
    have rf := R1.out.row.frozen
    clear hm
    go_upto_region 4 with fail
    have R2 := hid (show Rr (w1.setCell ⟨b, 1, none⟩ (.int .i64 ((k : Int) + 1))) b v (k + 1) n 0 a by have := R1.out.set1 (k + 1); simpa using this)
    have H2 := hid (H1.out.far (Own.set (Own.refl b w1) 1 (.int .i64 ((k : Int) + 1))) hbw)
    clear R1 H1 r1 rf
    generalize (w1.setCell ⟨b, 1, none⟩ (.int .i64 ((k : Int) + 1))) = W2 at R2 H2 ⊢
    obtain ⟨b0, b1, b2, b3, b4⟩ := H2.out.box
    obtain ⟨⟨q0, q1, q2, q3, q4⟩, qf⟩ := H2.out.zer
    go_wp2_with fail
    obtain ⟨s0, s1, s2, s3, s4⟩ := z5_put H2.out.zer (listT []) (.slice none 0 0) (.slice none 0 0)
    simp only [put5, Nat.zero_add, listT, VT.kd, VT.nm, VT.st] at s0 s1 s2 s3 s4
    refine bodyPost_ret (v := vv (listT []) (.slice none 0 0) (.slice none 0 0)) (by simp [results, Tryz.results84, go_sem, vv, listT, VT.kd, VT.nm, VT.st, s0, s1, s2, s3, s4]) rfl ?_
    exact by rw [HR0.out]; exact ⟨_, _, a, rfl, by rw [htl, show ws.length - (ws.length - k - 1) = k + 1 by omega]; exact R2.out.same (put5_heap _ _ _ _ _ _ _ _ _ (by omega)), H2.out.tree _ _ _ _ _, Own.put H2.out.ow (Nat.le_refl _) _ _ _ _ _⟩
  | false =>
    rw [if_neg (by rw [hm]; decide)] at HR0
    have HAT1 : Hid (At w1 b v ws k n) := hid ⟨⟨a, R1.out⟩, HA.out.wm.onto HB1.out, HA.out.ends, by omega, HA.out.txt, HA.out.nod⟩
    clear hm R1 HB1 HRR
    go_wp2_with fail
    go_loopw [6] (fun z6 wr => ∃ (j m g : Nat) (E : List (VT × Value × Value)) (o : Option Addr) (nn cc : Nat), k ≤ j ∧ E.length ≤ j ∧ 2 * (ws.length - j) + 2 ≤ g ∧ Hid (At wr b v ws j m) ∧ Hid (jrL f d n [] (ws.drop k) = jrL g d m (E.map (·.1)) (ws.drop j)) ∧ Hid (L8 w wr b E (.slice o nn cc))) (fun _ wr => ws.length - (intOf ((wr.cell? ⟨b, 1, none⟩).getD undef)).toNat)
    case atStart => exact ⟨k, n, f, [], none, 0, 0, Nat.le_refl _, Nat.zero_le _, hf, HAT1, hid rfl, H1⟩
    case round =>
      clear HAT1 H1
      obtain ⟨j, m, g, E, oN, nN, cN, hkj, hEj, hg, HAT, HJ, HLL⟩ := hrel
      have hjl := HAT.out.lt
      obtain ⟨a1, hrj⟩ := HAT.out.rr
      have r3 := hrj.r3
      have R1J := hid hrj.r1
      have hbig := HLL.out.big
      clear hrj
      obtain ⟨g1, rfl⟩ : ∃ g1, g = g1 + 1 := ⟨g - 1, by omega⟩
      have CV := hid (HV.out b ws v j m (d + 1) wr g1 HAT.out (by omega) (by omega) (by omega))
      simp only [Int.natCast_add, Int.cast_ofNat_Int] at CV
      rw [jrL] at HJ
      go_wp2_with fail
      go_at_call 54
      refine CV.out.mono ?_
      intro e w2 hp
      have hends : ∀ t mm q, jrV g1 (d + 1) m (ws.drop j) = .ok t mm q → 0 < q.length ∧ q.length ≤ ws.length := fun t mm q hq => by
        obtain ⟨h1, h2, -, -⟩ := (jr_ends g1).1 _ _ _ _ _ _ HAT.out.ends hq
        obtain ⟨y, r, hy⟩ := h1.ne
        rw [List.length_drop] at h2
        rw [hy] at h2 ⊢
        simp only [List.length_cons] at h2 ⊢
        omega
      obtain ⟨T, t1, t2, t3, t4, t5, t6, k2, m2, er, a2, rfl, hr2, hk2, hx2, ho2, hcase⟩ := rp_any hp hends
      have L2 := hid (HLL.out.far ho2 hbw)
      have HRR2 := hid hr2
      have HX2 := hid hx2
      have HO2 := hid ho2
      have HCS := hid hcase
      have hos2 := ho2.size
      have HOB : Hid (∀ g', (Value.slice oN nN cN).ownBlock = some g' → g' < wr.heap.size) := hid (fun g' hg' => (HLL.out.own.lt g' hg').2)
      clear hp hr2 hx2 ho2 hcase CV r3 hends
      simp only [vv]
      obtain ⟨b0, b1, b2, b3, b4⟩ := (L2.out.far (Own.of (valloc_bel (Below.refl _ _) (.cells #[.int .i64 T.kd, .int .i64 T.nm, .string T.st, .slice t1 t2 t3, .slice t4 t5 t6] 27))) hbw).box
      have bf := (L2.out.far (Own.of (valloc_bel (Below.refl _ _) (.cells #[.int .i64 T.kd, .int .i64 T.nm, .string T.st, .slice t1 t2 t3, .slice t4 t5 t6] 27))) hbw).row.frozen
      go_upto_region 7 with fail
      have hbx := valloc_bel (Below.refl w2.heap.size w2) (.cells #[.int .i64 T.kd, .int .i64 T.nm, .string T.st, .slice t1 t2 t3, .slice t4 t5 t6] 27)
      have hsx := World.size_alloc w2 (.cells #[.int .i64 T.kd, .int .i64 T.nm, .string T.st, .slice t1 t2 t3, .slice t4 t5 t6] 27)
      have x0 : (w2.alloc (.cells #[.int .i64 T.kd, .int .i64 T.nm, .string T.st, .slice t1 t2 t3, .slice t4 t5 t6] 27)).cell? ⟨w2.heap.size, 0, none⟩ = some (.int .i64 T.kd) := by simp
      have x1 : (w2.alloc (.cells #[.int .i64 T.kd, .int .i64 T.nm, .string T.st, .slice t1 t2 t3, .slice t4 t5 t6] 27)).cell? ⟨w2.heap.size, 1, none⟩ = some (.int .i64 T.nm) := by simp
      have x2 : (w2.alloc (.cells #[.int .i64 T.kd, .int .i64 T.nm, .string T.st, .slice t1 t2 t3, .slice t4 t5 t6] 27)).cell? ⟨w2.heap.size, 2, none⟩ = some (.string T.st) := by simp
      have x3 : (w2.alloc (.cells #[.int .i64 T.kd, .int .i64 T.nm, .string T.st, .slice t1 t2 t3, .slice t4 t5 t6] 27)).cell? ⟨w2.heap.size, 3, none⟩ = some (.slice t1 t2 t3) := by simp
      have x4 : (w2.alloc (.cells #[.int .i64 T.kd, .int .i64 T.nm, .string T.st, .slice t1 t2 t3, .slice t4 t5 t6] 27)).cell? ⟨w2.heap.size, 4, none⟩ = some (.slice t4 t5 t6) := by simp
      have HBX := hid hbx
      have HSX := hid hsx
      clear hbx hsx
      generalize (w2.alloc (.cells #[.int .i64 T.kd, .int .i64 T.nm, .string T.st, .slice t1 t2 t3, .slice t4 t5 t6] 27)) = W3 at b0 b1 b2 b3 b4 bf x0 x1 x2 x3 x4 HBX HSX ⊢
      have hOW := hid (ownsRow_below L2.out.own HBX.out)
      have hb3 := HBX.out.size
      have hb2b := L2.out.big
      go_upto_region 8 with (at_builtin; go_must (refine wpList_append_lies _ rfl _ _ _ rfl (w.heap.size + 2) 27 i0 (.agg #[.int .i64 0, .int .i64 0, .string ⟨#[]⟩, .slice none 0 0, .slice none 0 0]) 5 80 Tryz.underlying24 hi hz0 hz1 hz2 rfl (by decide) _ _ _ rfl (hOW.out.alloc _) ⟨W3.heap.size, 0, none⟩ 1 1 (vc (T, .slice t1 t2 t3, .slice t4 t5 t6)) rfl rfl (new_cells W3 _ 27) (vc_one _ _ _ _ _ _ _) (by decide) (by unfold maxLen; omega) (by omega) (by simp; omega) (W3.heap.size + 1) (by simp) ?_; intro g9 cap9 w9 hown9 hgr9 hat9 hlt9; have hul : ∀ g', (Value.slice oN nN cN).ownBlock = some g' → w.heap.size + 2 ≤ g' := fun g' hg' => (L2.out.own.lt g' hg').1; have y9 : w9.cell? ⟨w.heap.size + 1, 3, none⟩ = some (.slice oN nN cN) := (World.cell?_of_block (w := W3) ((hgr9.block _ (by simp; omega) (fun e => by have := hul _ e.symm; simp at this)).trans (Below.heap_alloc _ _ _ (by show w.heap.size + 1 < _; omega)))).trans b3; have z9 : w9.frozen? ⟨w.heap.size + 1, 3, none⟩ = false := (World.frozen?_of_block (a := ⟨w.heap.size + 1, 3, none⟩) ((hgr9.block _ (by simp; omega) (fun e => by have := hul _ e.symm; simp at this)).trans (Below.heap_alloc _ _ _ (by show w.heap.size + 1 < _; omega)))).trans (bf 3); go_upto_region 8 with fail))
      have L3 := hid (L8.more L2.out HX2.out (l0 := wr.heap.size) hbig HOB.out (valloc_bel HBX.out _) hgr9 (hat9.imp id (fun h => by rw [World.size_alloc]; exact h)) hown9)
      have hul : ∀ g', (Value.slice oN nN cN).ownBlock = some g' → w.heap.size + 2 ≤ g' := fun g' hg' => (L2.out.own.lt g' hg').1
      have R9 := hid (show Rr (w9.setCell ⟨w.heap.size + 1, 3, none⟩ (.slice (some ⟨g9, 0, none⟩) (E.length + 1) cap9)) b v k2 m2 er a2 from HRR2.out.same ((Below.heap_setCell _ _ _ _ (by show b ≠ w.heap.size + 1; omega)).trans ((hgr9.block b (by simp; omega) (fun e => by have := hul _ e.symm; omega)).trans ((Below.heap_alloc _ _ _ (by omega)).trans (HBX.out.block b (by omega))))))
      have WM9 := hid (HA.out.wm.own L3.out.ow)
      clear b0 b1 b2 b3 b4 bf x0 x1 x2 x3 x4 hOW hown9 hgr9 hat9 hlt9 hul HBX HSX hb3 hb2b L2 HRR2 HX2 HO2 hos2 HOB HLL
      generalize (w9.setCell ⟨w.heap.size + 1, 3, none⟩ (.slice (some ⟨g9, 0, none⟩) (E.length + 1) cap9)) = W4 at L3 R9 WM9 ⊢
      rcases HCS.out with ⟨q, hq, rfl, rfl⟩ | ⟨hq, hne⟩
      · rw [hq] at HJ
        simp only at HJ
        have hdr : ws.drop (ws.length - q.length) = q := suf_drop ((jr_suf g1).1 _ _ _ _ _ _ hq)
        obtain ⟨hEq, hql, hmm, hm4⟩ := (jr_ends g1).1 _ _ _ _ _ _ HAT.out.ends hq
        rw [List.length_drop] at hql
        have hq0 : 0 < q.length := by obtain ⟨y, r, hy⟩ := hEq.ne; rw [hy]; simp
        have hqw : q.length ≤ ws.length := by omega
        have HEQ := hid hEq
        have HDR := hid hdr
        generalize hkk : ws.length - q.length = k2 at R9 hk2 HDR ⊢
        have hkk2 : j < k2 := by omega
        have CI := hid (ris_any b ws v k2 m2 0 a2 44 W4 R9.out WM9.out.inw hk2 (by omega))
        rw [HDR.out] at CI
        simp only [decide_true, Bool.true_and] at CI
        clear hq hdr hEq HCS
        cases h44 : isM 44 q with
        | true =>
          rw [if_pos h44] at HJ
          rw [h44] at CI
          have HT44 := hid (isM_tail HEQ.out h44)
          clear h44
          go_wp2_with fail
          go_at_call 117
          refine CI.out.mono ?_
          rintro e w5 ⟨rfl, hb5⟩
          have R5 := hid (R9.out.onto hb5)
          have L5 := hid (L3.out.far (Own.of hb5) hbw)
          have WM5 := hid (WM9.out.onto hb5)
          have r1 := R5.out.r1
          have rf := R5.out.row.frozen
          clear hb5 R9 L3 WM9 CI
          go_wp2_with fail
          have R6 := hid (show Rr (w5.setCell ⟨b, 1, none⟩ (.int .i64 ((k2 : Int) + 1))) b v (k2 + 1) m2 0 a2 by have := R5.out.set1 (k2 + 1); simpa using this)
          have L6 := hid (L5.out.far (Own.set (Own.refl b w5) 1 (.int .i64 ((k2 : Int) + 1))) hbw)
          have WM6 := hid (WM5.out.own (Own.set (Own.refl b w5) 1 (.int .i64 ((k2 : Int) + 1))))
          have htd : ws.drop (k2 + 1) = q.tail := by rw [← HDR.out, List.tail_drop]
          go_roundw
          case rel => exact ⟨k2 + 1, m2, g1, E ++ [(T, .slice t1 t2 t3, .slice t4 t5 t6)], some ⟨g9, 0, none⟩, E.length + 1, cap9, by omega, by simp; omega, by omega, hid ⟨⟨a2, R6.out⟩, WM6.out, by rw [htd]; exact HT44.out, by omega, HA.out.txt, hm4⟩, hid (by rw [HJ.out, htd]; simp), L6⟩
          case measure =>
            have e1 := R1J.out
            have e2 := R6.out.r1
            rw [e1, e2]
            simp only [Option.getD_some, intOf]
            omega
        | false =>
          rw [if_neg (by rw [h44]; decide)] at HJ
          rw [h44] at CI
          clear h44
          go_wp2_with fail
          go_at_call 117
          refine CI.out.mono ?_
          rintro e w5 ⟨rfl, hb5⟩
          have R5 := hid (R9.out.onto hb5)
          have L5 := hid (L3.out.far (Own.of hb5) hbw)
          have WM5 := hid (WM9.out.onto hb5)
          clear hb5 R9 L3 WM9 CI
          cases h93 : isM 93 q with
          | true =>
            rw [if_pos h93] at HJ
            have CW := hid (rwant_yes b ws v k2 m2 a2 93 w5 R5.out WM5.out.inw hk2 (by omega) (by rw [HDR.out]; exact h93))
            have htl : q.tail.length = q.length - 1 := by simp
            clear h93
            go_wp2_with fail
            go_at_call 118
            refine CW.out.mono ?_
            rintro e w6 ⟨rfl, hr6, ho6⟩
            have R6 := hid hr6
            have L6 := hid (L5.out.far ho6 hbw)
            clear hr6 ho6 R5 L5 WM5 CW
            obtain ⟨b0, b1, b2, b3, b4⟩ := L6.out.box
            obtain ⟨⟨q0, q1, q2, q3, q4⟩, qf⟩ := L6.out.zer
            go_wp2_with fail
            obtain ⟨s0, s1, s2, s3, s4⟩ := z5_put L6.out.zer (listT []) (.slice (some ⟨g9, 0, none⟩) (E.length + 1) cap9) (.slice none 0 0)
            simp only [put5, Nat.zero_add, listT, VT.kd, VT.nm, VT.st] at s0 s1 s2 s3 s4
            refine bodyPost_ret (v := vv (listT (E.map (·.1) ++ [T])) (.slice (some ⟨g9, 0, none⟩) (E.length + 1) cap9) (.slice none 0 0)) (by simp [results, Tryz.results84, go_sem, vv, listT, VT.kd, VT.nm, VT.st, s0, s1, s2, s3, s4]) rfl ?_
            rw [HR0.out, HJ.out]
            exact ⟨_, _, a2, rfl, by rw [htl, show ws.length - (q.length - 1) = k2 + 1 by omega]; exact R6.out.same (put5_heap _ _ _ _ _ _ _ _ _ (by omega)), by have := L6.out.tree (.int .i64 5) (.int .i64 0) (.string ⟨#[]⟩) (.slice (some ⟨g9, 0, none⟩) (E.length + 1) cap9) (.slice none 0 0); rw [List.map_append] at this; exact this, Own.put L6.out.ow (Nat.le_refl _) _ _ _ _ _⟩
          | false =>
            rw [if_neg (by rw [h93]; decide)] at HJ
            have CW := hid (rwant_no b ws v k2 m2 a2 93 w5 R5.out WM5.out.inw hk2 (by omega) (by rw [HDR.out]; exact h93))
            rw [HDR.out] at CW
            clear h93
            go_wp2_with fail
            go_at_call 118
            refine CW.out.mono ?_
            rintro e w6 ⟨rfl, hr6, ho6⟩
            have R6 := hid hr6
            have L6 := hid (L5.out.far ho6 hbw)
            clear hr6 ho6 R5 L5 WM5 CW
            obtain ⟨b0, b1, b2, b3, b4⟩ := L6.out.box
            obtain ⟨⟨q0, q1, q2, q3, q4⟩, qf⟩ := L6.out.zer
            go_wp2_with fail
            obtain ⟨s0, s1, s2, s3, s4⟩ := z5_put L6.out.zer (listT []) (.slice (some ⟨g9, 0, none⟩) (E.length + 1) cap9) (.slice none 0 0)
            simp only [put5, Nat.zero_add, listT, VT.kd, VT.nm, VT.st] at s0 s1 s2 s3 s4
            refine bodyPost_ret (v := vv (listT (E.map (·.1) ++ [T])) (.slice (some ⟨g9, 0, none⟩) (E.length + 1) cap9) (.slice none 0 0)) (by simp [results, Tryz.results84, go_sem, vv, listT, VT.kd, VT.nm, VT.st, s0, s1, s2, s3, s4]) rfl ?_
            rw [HR0.out, HJ.out]
            exact ⟨(listT (E.map (·.1) ++ [T])), _, _, k2, m2, rfl, by decide, R6.out.same (put5_heap _ _ _ _ _ _ _ _ _ (by omega)), hk2, by have := L6.out.tree (.int .i64 5) (.int .i64 0) (.string ⟨#[]⟩) (.slice (some ⟨g9, 0, none⟩) (E.length + 1) cap9) (.slice none 0 0); rw [List.map_append] at this; exact this, Own.put L6.out.ow (Nat.le_refl _) _ _ _ _ _⟩
      · rw [hq] at HJ
        simp only at HJ
        have CI := hid (ris_any b ws v k2 m2 er a2 44 W4 R9.out WM9.out.inw hk2 (by omega))
        rw [decide_eq_false hne, Bool.false_and] at CI
        have HNE := hid hne
        clear hq HCS hne
        go_wp2_with fail
        go_at_call 117
        refine CI.out.mono ?_
        rintro e w5 ⟨rfl, hb5⟩
        have R5 := hid (R9.out.onto hb5)
        have L5 := hid (L3.out.far (Own.of hb5) hbw)
        have WM5 := hid (WM9.out.onto hb5)
        clear hb5 R9 L3 WM9 CI
        have CW : Hid (Calls Tryz.prog 118 #[.pointer (some ⟨b, 0, none⟩), .string ⟨#[93]⟩] w5 fun e w' => e = .returned (.tuple #[]) ∧ Rr w' b v k2 m2 er a2 ∧ Own b w5 w') := hid ((rwant_bad b ws v k2 m2 er a2 93 w5 R5.out HNE.out WM5.out.inw hk2 (by omega)).mono (by rintro e w' ⟨h1, h2⟩; exact ⟨h1, R5.out.onto h2, Own.of h2⟩))
        go_wp2_with fail
        go_at_call 118
        refine CW.out.mono ?_
        rintro e w6 ⟨rfl, hr6, ho6⟩
        have R6 := hid hr6
        have L6 := hid (L5.out.far ho6 hbw)
        clear hr6 ho6 R5 L5 WM5 CW
        obtain ⟨b0, b1, b2, b3, b4⟩ := L6.out.box
        obtain ⟨⟨q0, q1, q2, q3, q4⟩, qf⟩ := L6.out.zer
        go_wp2_with fail
        obtain ⟨s0, s1, s2, s3, s4⟩ := z5_put L6.out.zer (listT []) (.slice (some ⟨g9, 0, none⟩) (E.length + 1) cap9) (.slice none 0 0)
        simp only [put5, Nat.zero_add, listT, VT.kd, VT.nm, VT.st] at s0 s1 s2 s3 s4
        refine bodyPost_ret (v := vv (listT (E.map (·.1) ++ [T])) (.slice (some ⟨g9, 0, none⟩) (E.length + 1) cap9) (.slice none 0 0)) (by simp [results, Tryz.results84, go_sem, vv, listT, VT.kd, VT.nm, VT.st, s0, s1, s2, s3, s4]) rfl ?_
        rw [HR0.out, HJ.out]
        exact ⟨(listT (E.map (·.1) ++ [T])), _, _, k2, m2, rfl, HNE.out, R6.out.same (put5_heap _ _ _ _ _ _ _ _ _ (by omega)), hk2, by have := L6.out.tree (.int .i64 5) (.int .i64 0) (.string ⟨#[]⟩) (.slice (some ⟨g9, 0, none⟩) (E.length + 1) cap9) (.slice none 0 0); rw [List.map_append] at this; exact this, Own.put L6.out.ow (Nat.le_refl _) _ _ _ _ _⟩
end Go.Proofs.YtbeolgnognhfpaaGreatDoor
namespace Go.Proofs.YtbeolgnognhfpaaGreatDoor
open Go.RowKit

/-- a map that is being read: its box, the result's box -/
structure M8 (w wr : World) (b : Nat) (P : List (ByteArray × VT)) (u : Value) : Prop where
  tr : HS wr (fun q => w.heap.size + 2 ≤ q ∧ q < wr.heap.size) (mapT P) (.slice none 0 0) u
  box : Bx5 wr (w.heap.size + 1) (.int .i64 6) (.int .i64 0) (.string ⟨#[]⟩) (.slice none 0 0) u
  row : Row wr (w.heap.size + 1) 27 5
  zer : Z5 wr w.heap.size
  ow : Own b w wr
  big : w.heap.size + 2 ≤ wr.heap.size
theorem M8.far {w wr w' : World} {b : Nat} {P : List (ByteArray × VT)} {u : Value} (h : M8 w wr b P u) (ho : Own b wr w') (hb : b < w.heap.size) : M8 w w' b P u := by
  have hs := ho.size
  have hbig := h.big
  have hbl : ∀ q, q < wr.heap.size → ¬ q = b → w'.heap[q]? = wr.heap[q]? := fun q hq hn => ho.block q hq (fun e => hn (by injection e with e))
  exact ⟨h.tr.onto (fun q hq => hbl q hq.2 (by omega)) (fun q hq => ⟨hq.1, by omega⟩), h.box.same (hbl _ (by omega) (by omega)), h.row.onto (hbl _ (by omega) (by omega)), h.zer.far ho (by omega), Own.trans h.ow ho, by omega⟩
/-- another map in its box -/
theorem M8.put {w wr : World} {b : Nat} {P P' : List (ByteArray × VT)} {u u' : Value} (h : M8 w wr b P u) (ht : HS wr (fun q => w.heap.size + 2 ≤ q ∧ q < wr.heap.size) (mapT P') (.slice none 0 0) u') : M8 w (put5 wr (w.heap.size + 1) 0 (.int .i64 6) (.int .i64 0) (.string ⟨#[]⟩) (.slice none 0 0) u') b P' u' := by
  have hbig := h.big
  have hn := put5_node h.row 0 (by omega) (mapT P') (.slice none 0 0) u'
  simp only [Node, Nat.zero_add] at hn
  refine ⟨?_, hn, put5_row h.row _ _ _ _ _ _ _, h.zer.same (put5_heap _ _ _ _ _ _ _ _ _ (by omega)), Own.put h.ow (by omega) _ _ _ _ _, by rw [put5_size]; exact hbig⟩
  rw [put5_size]
  exact ht.onto (fun q hq => put5_heap _ _ _ _ _ _ _ _ _ (by omega)) (fun q hq => hq)
theorem M8.tree {w wr : World} {b : Nat} {P : List (ByteArray × VT)} {u : Value} (h : M8 w wr b P u) (v0 v1 v2 v3 v4 : Value) : HS (put5 wr w.heap.size 0 v0 v1 v2 v3 v4) (fun q => w.heap.size ≤ q ∧ q < (put5 wr w.heap.size 0 v0 v1 v2 v3 v4).heap.size) (mapT P) (.slice none 0 0) u :=
  hs_put (H := w.heap.size) (lo := w.heap.size + 2) (by omega) h.tr (lo' := w.heap.size) (by omega)
theorem ins_len (key : ByteArray) (x : VT) : ∀ (d : Bool) (P : List (ByteArray × VT)), (insP key x d P).length ≤ P.length + 1 ∧ (d = true → (insP key x d P).length ≤ P.length)
  | d, [] => by cases d <;> simp [insP]
  | d, a :: P => by
    have h1 := ins_len key x (d || !(ltB a.1.data.toList key.data.toList)) P
    rw [insP]
    cases d with
    | true =>
      have h2 := h1.2 rfl
      simp only [Bool.true_or] at h2 ⊢
      simp only [Bool.not_true, Bool.false_and, Bool.false_eq_true, if_false, List.nil_append, List.length_append, List.length_cons]
      split <;> simp <;> omega
    | false =>
      cases hl : ltB a.1.data.toList key.data.toList with
      | true =>
        rw [hl] at h1
        have h2 := h1.1
        simp only [Bool.not_false, Bool.not_true, Bool.and_false, Bool.false_eq_true, if_false, List.nil_append, List.length_append, List.length_cons, Bool.or_false] at h2 ⊢
        split <;> simp <;> omega
      | false =>
        rw [hl] at h1
        have h2 := h1.2 rfl
        simp only [Bool.not_false, Bool.and_self, if_true, List.length_append, List.length_cons, Bool.or_true] at h2 ⊢
        split <;> simp <;> omega
theorem prs_eq {A : List (ByteArray × VT × Value × Value)} {P : List (ByteArray × VT)} (h1 : A.map (·.1) = P.map (·.1)) (h2 : A.map (·.2.1) = P.map (·.2)) : prs A = P := by
  unfold prs
  refine List.ext_getElem? fun i => ?_
  have e1 := congrArg (fun l => l[i]?) h1
  have e2 := congrArg (fun l => l[i]?) h2
  simp only [List.getElem?_map] at e1 e2 ⊢
  cases hA : A[i]? with
  | none => rw [hA] at e1; cases hP : P[i]? with
    | none => rfl
    | some p => rw [hP] at e1; cases e1
  | some a => rw [hA] at e1 e2; cases hP : P[i]? with
    | none => rw [hP] at e1; cases e1
    | some p =>
      rw [hP] at e1 e2
      simp only [Option.map_some, Option.some.injEq] at e1 e2 ⊢
      rw [e1, e2]
theorem with_mapT {P : List (ByteArray × VT)} {A E : List (ByteArray × VT × Value × Value)} {key : ByteArray} {x : VT} {p q : Value} (h1 : A.map (·.1) = (mapT P).ks) (h2 : A.map (·.2.1) = (mapT P).vs) (hE : E = withL key x p q A) : (VT.mk 6 0 ⟨#[]⟩ [] (E.map (·.1)) (E.map (·.2.1))) = mapT (insP key x false P) := by
  have hw := with_prs key x p q A
  rw [← hE, prs_eq (P := P) h1 h2] at hw
  unfold mapT
  rw [← hw]
  unfold prs
  simp only [List.map_map]
  rfl
set_option maxRecDepth 100000 in
set_option maxHeartbeats 1000000 in
theorem rvalue_bad (b : Nat) (v : Value) (k n er a : Nat) (d : Int) (w : World) (h : Rr w b v k n er a) (he : ¬ er = 0) :
    Calls Tryz.prog 54 #[.pointer (some ⟨b, 0, none⟩), .int .i64 d] w fun e w' => e = .returned (vv zeroT (.slice none 0 0) (.slice none 0 0)) ∧ Below w.heap.size w w' := by
  have r3 := keepCell (valloc_bel (Below.refl w.heap.size w) (.cells #[.int .i64 0, .int .i64 0, .string ⟨#[]⟩, .slice none 0 0, .slice none 0 0] 27)) h.r3
  have hb : ((er : Int) != 0) = true := by simp; omega
  clear h
  go_enter Tryz.func54, Tryz.ntmps54
  go_wp2_with fail
  exact bodyPost_ret (v := vv zeroT (.slice none 0 0) (.slice none 0 0)) (by simp [results, Tryz.results54, go_sem, vv, zeroT, VT.kd, VT.nm, VT.st]) rfl ⟨rfl, valloc_bel (Below.refl _ _) _⟩
set_option maxRecDepth 100000 in
set_option maxHeartbeats 4000000 in
theorem rpairs8 (N : Nat) (hV : RvOk N) : RpOk N := by
  intro b ws v k n d w f hA hd hN hf
  have HVV := hid hV
  have HA := hid hA
  have hk := hA.lt
  have hlen := hA.len
  obtain ⟨a, hrr⟩ := hA.rr
  have hbw : b < w.heap.size := hrr.row.lt
  have HRR := hid hrr
  have CI := hid (fun X (hX : Below w.heap.size w X) => ris_any b ws v k n 0 a 125 X (hrr.onto hX) (hA.wm.inw.onto hX) hk (by omega))
  simp only [decide_true, Bool.true_and] at CI
  obtain ⟨R0, hR0⟩ : ∃ R0, R0 = (if isM 125 (ws.drop k) = true then Rd.ok (mapT []) n (ws.drop k).tail else jrP f d n [] (ws.drop k)) := ⟨_, rfl⟩
  rw [← hR0]
  have HR0 := hid hR0
  clear hV hA hrr hR0
  go_enter Tryz.func85, Tryz.ntmps85
  go_wp2_with fail
  have h0 : M8 w ((w.alloc (.cells #[.int .i64 0, .int .i64 0, .string ⟨#[]⟩, .slice none 0 0, .slice none 0 0] 27)).alloc (.cells #[.int .i64 6, .int .i64 0, .string ⟨#[]⟩, .slice none 0 0, .slice none 0 0] 27)) b [] (.slice none 0 0) := by
    have e1 : (w.alloc (.cells #[.int .i64 0, .int .i64 0, .string ⟨#[]⟩, .slice none 0 0, .slice none 0 0] 27)).heap.size = w.heap.size + 1 := World.size_alloc _ _
    have hz := (z5_new w).onto (valloc_bel (Below.refl (w.alloc (.cells #[.int .i64 0, .int .i64 0, .string ⟨#[]⟩, .slice none 0 0, .slice none 0 0] 27)).heap.size (w.alloc (.cells #[.int .i64 0, .int .i64 0, .string ⟨#[]⟩, .slice none 0 0, .slice none 0 0] 27))) (.cells #[.int .i64 6, .int .i64 0, .string ⟨#[]⟩, .slice none 0 0, .slice none 0 0] 27))
    have hr := Row.new (w.alloc (.cells #[.int .i64 0, .int .i64 0, .string ⟨#[]⟩, .slice none 0 0, .slice none 0 0] 27)) #[.int .i64 6, .int .i64 0, .string ⟨#[]⟩, .slice none 0 0, .slice none 0 0] 27
    rw [e1] at hr
    refine ⟨hs_leaf _ _ 6 0 ⟨#[]⟩ (by decide) (by decide) (by decide), ?_, hr, hz, Own.of (valloc_bel (valloc_bel (Below.refl _ _) _) _), by simp⟩
    rw [← e1]
    exact ⟨by simp, by simp, by simp, by simp, by simp⟩
  have hb0 := valloc_bel (valloc_bel (Below.refl w.heap.size w) (.cells #[.int .i64 0, .int .i64 0, .string ⟨#[]⟩, .slice none 0 0, .slice none 0 0] 27)) (.cells #[.int .i64 6, .int .i64 0, .string ⟨#[]⟩, .slice none 0 0, .slice none 0 0] 27)
  have H0 := hid h0
  have HB0 := hid hb0
  clear h0 hb0
  generalize ((w.alloc (.cells #[.int .i64 0, .int .i64 0, .string ⟨#[]⟩, .slice none 0 0, .slice none 0 0] 27)).alloc (.cells #[.int .i64 6, .int .i64 0, .string ⟨#[]⟩, .slice none 0 0, .slice none 0 0] 27)) = W0 at H0 HB0 ⊢
  go_at_call 117
  refine (CI.out _ HB0.out).mono ?_
  rintro e w1 ⟨rfl, hb1⟩
  have H1 := hid (H0.out.far (Own.of hb1) hbw)
  have R1 := hid (HRR.out.onto (vonto HB0.out hb1))
  have HB1 := hid (vonto HB0.out hb1)
  clear hb1 H0 HB0 CI
  cases hm : isM 125 (ws.drop k) with
  | true =>
    rw [if_pos hm] at HR0
    have htl : (ws.drop k).tail.length = ws.length - k - 1 := by simp; omega
    have r1 := R1.out.r1
    have rf := R1.out.row.frozen
    clear hm
    go_upto_region 4 with fail
    have R2 := hid (show Rr (w1.setCell ⟨b, 1, none⟩ (.int .i64 ((k : Int) + 1))) b v (k + 1) n 0 a by have := R1.out.set1 (k + 1); simpa using this)
    have H2 := hid (H1.out.far (Own.set (Own.refl b w1) 1 (.int .i64 ((k : Int) + 1))) hbw)
    clear R1 H1 r1 rf
    generalize (w1.setCell ⟨b, 1, none⟩ (.int .i64 ((k : Int) + 1))) = W2 at R2 H2 ⊢
    obtain ⟨b0, b1, b2, b3, b4⟩ := H2.out.box
    obtain ⟨⟨q0, q1, q2, q3, q4⟩, qf⟩ := H2.out.zer
    go_wp2_with fail
    obtain ⟨s0, s1, s2, s3, s4⟩ := z5_put H2.out.zer (mapT []) (.slice none 0 0) (.slice none 0 0)
    simp only [put5, Nat.zero_add, mapT, VT.kd, VT.nm, VT.st] at s0 s1 s2 s3 s4
    refine bodyPost_ret (v := vv (mapT []) (.slice none 0 0) (.slice none 0 0)) (by simp [results, Tryz.results85, go_sem, vv, mapT, VT.kd, VT.nm, VT.st, s0, s1, s2, s3, s4]) rfl ?_
    exact by rw [HR0.out]; exact ⟨_, _, a, rfl, by rw [htl, show ws.length - (ws.length - k - 1) = k + 1 by omega]; exact R2.out.same (put5_heap _ _ _ _ _ _ _ _ _ (by omega)), H2.out.tree _ _ _ _ _, Own.put H2.out.ow (Nat.le_refl _) _ _ _ _ _⟩
  | false =>
    rw [if_neg (by rw [hm]; decide)] at HR0
    have HAT1 : Hid (At w1 b v ws k n) := hid ⟨⟨a, R1.out⟩, HA.out.wm.onto HB1.out, HA.out.ends, by omega, HA.out.txt, HA.out.nod⟩
    clear hm R1 HB1 HRR
    go_wp2_with fail
    go_loopw [6, 7, 8, 9] (fun z6 z7 z8 z9 wr => ∃ (j m g : Nat) (P : List (ByteArray × VT)) (o : Option Addr) (nn cc : Nat), k ≤ j ∧ P.length ≤ j ∧ 2 * (ws.length - j) + 2 ≤ g ∧ Hid (At wr b v ws j m) ∧ Hid (jrP f d n [] (ws.drop k) = jrP g d m P (ws.drop j)) ∧ Hid (M8 w wr b P (.slice o nn cc))) (fun _ _ _ _ wr => ws.length - (intOf ((wr.cell? ⟨b, 1, none⟩).getD undef)).toNat)
    case atStart => exact ⟨k, n, f, [], none, 0, 0, Nat.le_refl _, Nat.zero_le _, hf, HAT1, hid rfl, H1⟩
    case round =>
      clear HAT1 H1
      obtain ⟨j, m, g, P, oN, nN, cN, hkj, hPj, hg, HAT, HJ, HMM⟩ := hrel
      have hjl := HAT.out.lt
      obtain ⟨a1, hrj⟩ := HAT.out.rr
      have r3 := hrj.r3
      have R1J := hid hrj.r1
      have RJ := hid hrj
      have hbig := HMM.out.big
      obtain ⟨g1, rfl⟩ : ∃ g1, g = g1 + 1 := ⟨g - 1, by omega⟩
      obtain ⟨x, r, he⟩ := HAT.out.ends.ne
      have hx : ws[j]? = some x := by
        have := congrArg (fun l => l[0]?) he
        simpa using this
      have hxt : x.tx.length ≤ 65536 := HAT.out.txt x (List.mem_of_getElem? hx)
      have hr : ws.drop (j + 1) = r := by
        have := congrArg List.tail he
        simpa using this
      have HRD := hid hr
      have HEW : Hid (EndW (x :: r)) := hid (by rw [← he]; exact HAT.out.ends)
      have HTS : Hid ((mkS x.tx).size ≤ maxLen) := hid (by rw [← size_list, mkS_list]; unfold maxLen; omega)
      rw [he, jrP] at HJ
      have CW := hid (rword_any b ws v j m 0 a1 x wr hrj HAT.out.wm.inw hx (by omega))
      clear hrj he hr hx
      go_wp2_with fail
      go_at_call 55
      refine CW.out.mono ?_
      rintro e w2 ⟨rfl, hb2⟩
      go_upto_region 7 with fail
      have hal := valloc_bel (Below.refl w2.heap.size w2) (.cells #[.int .i64 (x.kd : Int), .string (mkS x.tx), .int .i64 (x.at_ : Int)] 89)
      have hb3 := vonto hb2 hal
      have m0 : (w2.alloc (.cells #[.int .i64 (x.kd : Int), .string (mkS x.tx), .int .i64 (x.at_ : Int)] 89)).cell? ⟨w2.heap.size, 0, none⟩ = some (.int .i64 (x.kd : Int)) := by simp
      have m1 : (w2.alloc (.cells #[.int .i64 (x.kd : Int), .string (mkS x.tx), .int .i64 (x.at_ : Int)] 89)).cell? ⟨w2.heap.size, 1, none⟩ = some (.string (mkS x.tx)) := by simp
      have m2 : (w2.alloc (.cells #[.int .i64 (x.kd : Int), .string (mkS x.tx), .int .i64 (x.at_ : Int)] 89)).cell? ⟨w2.heap.size, 2, none⟩ = some (.int .i64 (x.at_ : Int)) := by simp
      have R3 := hid (RJ.out.onto hb3)
      have M3 := hid (HMM.out.far (Own.of hb3) hbw)
      have WM3 := hid (HAT.out.wm.onto hb3)
      have hbwd := hb2.size
      clear hb2 hal hb3 CW r3 RJ HMM
      generalize (w2.alloc (.cells #[.int .i64 (x.kd : Int), .string (mkS x.tx), .int .i64 (x.at_ : Int)] 89)) = W3 at m0 m1 m2 R3 M3 WM3 ⊢
      have hwl : w2.heap.size < W3.heap.size := World.block_lt_of_cell? W3 ⟨w2.heap.size, 0, none⟩ m0
      by_cases h2 : ¬ x.kd = 2
      · rw [if_pos h2] at HJ
        have hkb : ((x.kd : Int) != 2) = true := by simp; omega
        clear h2
        go_wp2_with fail
        go_at_call 56
        refine (rfail_set b v j m a1 4 x.at_ _ R3.out).mono ?_
        rintro e w4 ⟨rfl, hr4, ho4⟩
        have R4 := hid hr4
        have M4 := hid (M3.out.far ho4 hbw)
        clear hr4 ho4 R3 M3
        obtain ⟨b0, b1, b2, b3, b4⟩ := M4.out.box
        obtain ⟨⟨q0, q1, q2, q3, q4⟩, qf⟩ := M4.out.zer
        go_wp2_with fail
        obtain ⟨s0, s1, s2, s3, s4⟩ := z5_put M4.out.zer (mapT []) (.slice none 0 0) (.slice oN nN cN)
        simp only [put5, Nat.zero_add, mapT, VT.kd, VT.nm, VT.st] at s0 s1 s2 s3 s4
        refine bodyPost_ret (v := vv (mapT P) (.slice none 0 0) (.slice oN nN cN)) (by simp [results, Tryz.results85, go_sem, vv, mapT, VT.kd, VT.nm, VT.st, s0, s1, s2, s3, s4]) rfl ?_
        exact by rw [HR0.out, HJ.out]; exact ⟨mapT P, _, _, j, m, rfl, by decide, R4.out.same (put5_heap _ _ _ _ _ _ _ _ _ (by omega)), hjl, M4.out.tree _ _ _ _ _, Own.put M4.out.ow (Nat.le_refl _) _ _ _ _ _⟩
      rw [if_neg h2] at HJ
      have hkd : x.kd = 2 := Classical.not_not.1 h2
      have hkb : ((x.kd : Int) != 2) = false := by rw [hkd]; rfl
      have HKD := hid hkd
      clear h2 hkd
      have CG : Hid (Calls Tryz.prog 119 #[.agg #[.int .i64 6, .int .i64 0, .string ⟨#[]⟩, .slice none 0 0, .slice oN nN cN], .string (mkS x.tx)] W3 fun e w' => ∃ R X Y, e = .returned (.tuple #[vv R X Y, .bool (findK (mkS x.tx) (P.map (·.1)) (P.map (·.2))).isSome]) ∧ R = (findK (mkS x.tx) (P.map (·.1)) (P.map (·.2))).getD zeroT ∧ HV W3 R X Y ∧ Below W3.heap.size W3 w') := hid (get_any (mapT P) (.slice none 0 0) (.slice oN nN cN) (mkS x.tx) W3 M3.out.tr.hv)
      obtain ⟨b0, b1, b2, b3, b4⟩ := M3.out.box
      go_wp2_with fail
      go_at_call 119
      refine CG.out.mono ?_
      rintro e w4 ⟨Rg, X, Y, rfl, -, hvg, hbg⟩
      obtain ⟨e1, e2, e3, e4, e5, e6, rfl, rfl⟩ := hv_slices hvg
      simp only [vv]
      go_upto_region 11 with fail
      have hal := valloc_bel (Below.refl w4.heap.size w4) (.cells #[.int .i64 Rg.kd, .int .i64 Rg.nm, .string Rg.st, .slice e1 e2 e3, .slice e4 e5 e6] 27)
      have hb4 := vonto hbg hal
      have n0 := keepCell hb4 m0
      have n1 := keepCell hb4 m1
      have n2 := keepCell hb4 m2
      have R4 := hid (R3.out.onto hb4)
      have M4 := hid (M3.out.far (Own.of hb4) hbw)
      have WM4 := hid (WM3.out.onto hb4)
      have hbg4 := hb4.size
      clear hvg hbg hal hb4 CG b0 b1 b2 b3 b4 m0 m1 m2 R3 M3 WM3
      generalize (w4.alloc (.cells #[.int .i64 Rg.kd, .int .i64 Rg.nm, .string Rg.st, .slice e1 e2 e3, .slice e4 e5 e6] 27)) = W4 at n0 n1 n2 R4 M4 WM4 hbg4 ⊢
      have R3 := R4; have M3 := M4; have WM3 := WM4
      clear R4 M4 WM4
      cases hfd : (findK (mkS x.tx) (P.map (·.1)) (P.map (·.2))).isSome with
      | true =>
        rw [if_pos hfd] at HJ
        clear hfd
        go_wp2_with fail
        go_at_call 56
        refine (rfail_set b v j m a1 5 x.at_ _ R3.out).mono ?_
        rintro e w4 ⟨rfl, hr4, ho4⟩
        have R4 := hid hr4
        have M4 := hid (M3.out.far ho4 hbw)
        clear hr4 ho4 R3 M3
        obtain ⟨b0, b1, b2, b3, b4⟩ := M4.out.box
        obtain ⟨⟨q0, q1, q2, q3, q4⟩, qf⟩ := M4.out.zer
        go_wp2_with fail
        obtain ⟨s0, s1, s2, s3, s4⟩ := z5_put M4.out.zer (mapT []) (.slice none 0 0) (.slice oN nN cN)
        simp only [put5, Nat.zero_add, mapT, VT.kd, VT.nm, VT.st] at s0 s1 s2 s3 s4
        refine bodyPost_ret (v := vv (mapT P) (.slice none 0 0) (.slice oN nN cN)) (by simp [results, Tryz.results85, go_sem, vv, mapT, VT.kd, VT.nm, VT.st, s0, s1, s2, s3, s4]) rfl ?_
        exact by rw [HR0.out, HJ.out]; exact ⟨mapT P, _, _, j, m, rfl, by decide, R4.out.same (put5_heap _ _ _ _ _ _ _ _ _ (by omega)), hjl, M4.out.tree _ _ _ _ _, Own.put M4.out.ow (Nat.le_refl _) _ _ _ _ _⟩
      | false =>
        rw [if_neg (by rw [hfd]; decide)] at HJ
        clear hfd
        have r1 := R3.out.r1
        have rf := R3.out.row.frozen
        go_upto_region 15 with fail
        have R5 := hid (show Rr (W4.setCell ⟨b, 1, none⟩ (.int .i64 ((j : Int) + 1))) b v (j + 1) m 0 a1 by have := R3.out.set1 (j + 1); simpa using this)
        have M5 := hid (M3.out.far (Own.set (Own.refl b W4) 1 (.int .i64 ((j : Int) + 1))) hbw)
        have WM5 := hid (WM3.out.own (Own.set (Own.refl b W4) 1 (.int .i64 ((j : Int) + 1))))
        have p1 := (set_other W4 b w2.heap.size 1 1 (.int .i64 ((j : Int) + 1)) (Or.inl (by have := M3.out.ow.size; omega))).trans n1
        have hs5 : (W4.setCell ⟨b, 1, none⟩ (.int .i64 ((j : Int) + 1))).heap.size = W4.heap.size := by simp
        clear R3 M3 WM3 n0 n1 n2 r1 rf
        generalize (W4.setCell ⟨b, 1, none⟩ (.int .i64 ((j : Int) + 1))) = W5 at R5 M5 WM5 p1 hs5 ⊢
        have hEr : EndW r := HEW.out.tail (by rw [HKD.out]; decide)
        have hjl2 : j + 1 < ws.length := by
          obtain ⟨y, q, hy⟩ := hEr.ne
          have := congrArg List.length HRD.out
          rw [List.length_drop, hy, List.length_cons] at this
          omega
        cases h58 : isM 58 r with
        | false =>
          rw [if_pos (by rw [h58]; decide)] at HJ
          have CW := hid (rwant_no b ws v (j + 1) m a1 58 W5 R5.out WM5.out.inw hjl2 (by omega) (by rw [HRD.out]; exact h58))
          rw [HRD.out] at CW
          clear h58
          go_wp2_with fail
          go_at_call 118
          refine CW.out.mono ?_
          rintro e w6 ⟨rfl, hr6, ho6⟩
          have R6 := hid hr6
          have M6 := hid (M5.out.far ho6 hbw)
          have WM6 := hid (WM5.out.own ho6)
          have hs6 := ho6.size
          have p6 := ho6.cell p1 (by show ¬ w2.heap.size = b; have := M5.out.ow.size; omega)
          clear hr6 ho6 R5 M5 WM5 p1 CW
          go_wp2_with fail
          go_at_call 54
          refine (rvalue_bad b v (j + 1) m 4 _ _ w6 R6.out (by decide)).mono ?_
          rintro e w7 ⟨rfl, hb7⟩
          have R7 := hid (R6.out.onto hb7)
          have HO7 := hid (Own.of (b := b) hb7)
          have HX7 : Hid (HS w7 (fun q => w6.heap.size ≤ q ∧ q < w7.heap.size) zeroT (.slice none 0 0) (.slice none 0 0)) := hid (hs_leaf _ _ 0 0 ⟨#[]⟩ (by decide) (by decide) (by decide))
          have hk2 : j + 1 < ws.length := hjl2
          have hne : ¬ (4 : Nat) = 0 := by decide
          clear hb7 R6
          simp only [vv]
          have M7 := hid (M6.out.far HO7.out hbw)
          have WM7 := hid (WM6.out.own HO7.out)
          have hs7 := HO7.out.size
          have p7 := HO7.out.cell p6 (by show ¬ w2.heap.size = b; have := M6.out.ow.size; omega)
          have hb6 := M6.out.big
          clear M6 WM6 p6 HO7
          go_upto_region 17 with fail
          have hbx := valloc_bel (Below.refl w7.heap.size w7) (.cells #[.int .i64 zeroT.kd, .int .i64 zeroT.nm, .string zeroT.st, .slice none 0 0, .slice none 0 0] 27)
          have x0 : (w7.alloc (.cells #[.int .i64 zeroT.kd, .int .i64 zeroT.nm, .string zeroT.st, .slice none 0 0, .slice none 0 0] 27)).cell? ⟨w7.heap.size, 0, none⟩ = some (.int .i64 zeroT.kd) := by simp
          have x1 : (w7.alloc (.cells #[.int .i64 zeroT.kd, .int .i64 zeroT.nm, .string zeroT.st, .slice none 0 0, .slice none 0 0] 27)).cell? ⟨w7.heap.size, 1, none⟩ = some (.int .i64 zeroT.nm) := by simp
          have x2 : (w7.alloc (.cells #[.int .i64 zeroT.kd, .int .i64 zeroT.nm, .string zeroT.st, .slice none 0 0, .slice none 0 0] 27)).cell? ⟨w7.heap.size, 2, none⟩ = some (.string zeroT.st) := by simp
          have x3 : (w7.alloc (.cells #[.int .i64 zeroT.kd, .int .i64 zeroT.nm, .string zeroT.st, .slice none 0 0, .slice none 0 0] 27)).cell? ⟨w7.heap.size, 3, none⟩ = some (.slice none 0 0) := by simp
          have x4 : (w7.alloc (.cells #[.int .i64 zeroT.kd, .int .i64 zeroT.nm, .string zeroT.st, .slice none 0 0, .slice none 0 0] 27)).cell? ⟨w7.heap.size, 4, none⟩ = some (.slice none 0 0) := by simp
          have M8' := hid (M7.out.far (Own.of hbx) hbw)
          have R8 := hid (R7.out.onto hbx)
          have WM8 := hid (WM7.out.onto hbx)
          have p8 := keepCell hbx p7
          have hs8 := hbx.size
          have HX8 := hid (HX7.out.onto (S' := fun q => w.heap.size + 2 ≤ q ∧ q < (w7.alloc (.cells #[.int .i64 zeroT.kd, .int .i64 zeroT.nm, .string zeroT.st, .slice none 0 0, .slice none 0 0] 27)).heap.size) (fun q hq => hbx.block q hq.2) (fun q hq => ⟨by omega, by omega⟩))
          clear hbx M7 R7 WM7 p7 HX7
          generalize (w7.alloc (.cells #[.int .i64 zeroT.kd, .int .i64 zeroT.nm, .string zeroT.st, .slice none 0 0, .slice none 0 0] 27)) = W8 at x0 x1 x2 x3 x4 M8' R8 WM8 p8 hs8 HX8 ⊢
          have CW2 : Hid (Calls Tryz.prog 120 #[.agg #[.int .i64 6, .int .i64 0, .string ⟨#[]⟩, .slice none 0 0, .slice oN nN cN], .string (mkS x.tx), .agg #[.int .i64 zeroT.kd, .int .i64 zeroT.nm, .string zeroT.st, .slice none 0 0, .slice none 0 0]] W8 fun e w' => WithPostS (fun q => w.heap.size + 2 ≤ q ∧ q < W8.heap.size) (mapT P) (mkS x.tx) zeroT (.slice none 0 0) (.slice none 0 0) W8 e w') := hid (withS_any (fun q => w.heap.size + 2 ≤ q ∧ q < W8.heap.size) (mapT P) (.slice none 0 0) (.slice oN nN cN) (mkS x.tx) zeroT (.slice none 0 0) (.slice none 0 0) W8 M8'.out.tr HX8.out HTS.out (by show (P.map (·.2)).length ≤ 100000; rw [List.length_map]; omega))
          obtain ⟨b0, b1, b2, b3, b4⟩ := M8'.out.box
          go_wp2_with fail
          go_at_call 120
          refine CW2.out.mono ?_
          rintro e w9 ⟨A, E, o9, n9, c9, hA1, hA2, hE, rfl, hWR, hbW⟩
          have HWS := hid (with_hs hWR hbW (fun q hq => hq.2))
          rw [with_mapT hA1 hA2 hE.out] at HWS
          have M9 := hid (M8'.out.far (Own.of hbW) hbw)
          have R9 := hid (R8.out.onto hbW)
          have WM9 := hid (WM8.out.onto hbW)
          have hs9 := hbW.size
          have hpl := (ins_len (mkS x.tx) zeroT false P).1
          clear hA1 hA2 hE hWR hbW CW2 b0 b1 b2 b3 b4 x0 x1 x2 x3 x4 M8' R8 WM8 p8 HX8
          obtain ⟨b0, b1, b2, b3, b4⟩ := M9.out.box
          have bf := M9.out.row.frozen
          go_upto_region 18 with fail
          change Code.wp _ _ _ _ (put5 w9 (w.heap.size + 1) 0 (.int .i64 6) (.int .i64 0) (.string ⟨#[]⟩) (.slice none 0 0) (.slice o9 n9 c9))
          have hb9 := M9.out.big
          have ML := hid (M9.out.put (P' := (insP (mkS x.tx) zeroT false P)) (u' := (.slice o9 n9 c9)) (HWS.out.onto (fun q hq => rfl) (fun q hq => by rcases hq with h | h <;> exact ⟨by omega, by omega⟩)))
          have RL := hid (R9.out.same (put5_heap w9 (w.heap.size + 1) 0 (.int .i64 6) (.int .i64 0) (.string ⟨#[]⟩) (.slice none 0 0) (.slice o9 n9 c9) b (by omega)))
          have WML := hid (HA.out.wm.own ML.out.ow)
          clear b0 b1 b2 b3 b4 bf M9 R9 WM9 HWS
          generalize (put5 w9 (w.heap.size + 1) 0 (.int .i64 6) (.int .i64 0) (.string ⟨#[]⟩) (.slice none 0 0) (.slice o9 n9 c9)) = W10 at ML RL WML ⊢
          have CI := hid (ris_any b ws v (j + 1) m 4 (atW r) 44 W10 RL.out WML.out.inw hk2 (by omega))
          rw [decide_eq_false hne, Bool.false_and] at CI
          have HNE := hid hne
          clear hne
          go_wp2_with fail
          go_at_call 117
          refine CI.out.mono ?_
          rintro e w11 ⟨rfl, hb11⟩
          have RK := hid (RL.out.onto hb11)
          have MK := hid (ML.out.far (Own.of hb11) hbw)
          have WMK := hid (WML.out.onto hb11)
          clear hb11 RL ML WML CI
          have CWE : Hid (Calls Tryz.prog 118 #[.pointer (some ⟨b, 0, none⟩), .string ⟨#[125]⟩] w11 fun e w' => e = .returned (.tuple #[]) ∧ Rr w' b v (j + 1) m 4 (atW r) ∧ Own b w11 w') := hid ((rwant_bad b ws v (j + 1) m 4 (atW r) 125 w11 RK.out HNE.out WMK.out.inw hk2 (by omega)).mono (by rintro e w' ⟨h1, h2⟩; exact ⟨h1, RK.out.onto h2, Own.of h2⟩))
          go_wp2_with fail
          go_at_call 118
          refine CWE.out.mono ?_
          rintro e w12 ⟨rfl, hr12, ho12⟩
          have RZ := hid hr12
          have MZ := hid (MK.out.far ho12 hbw)
          clear hr12 ho12 RK MK WMK CWE
          obtain ⟨b0, b1, b2, b3, b4⟩ := MZ.out.box
          obtain ⟨⟨q0, q1, q2, q3, q4⟩, qf⟩ := MZ.out.zer
          go_wp2_with fail
          obtain ⟨s0, s1, s2, s3, s4⟩ := z5_put MZ.out.zer (mapT []) (.slice none 0 0) (.slice o9 n9 c9)
          simp only [put5, Nat.zero_add, mapT, VT.kd, VT.nm, VT.st] at s0 s1 s2 s3 s4
          refine bodyPost_ret (v := vv (mapT (insP (mkS x.tx) zeroT false P)) (.slice none 0 0) (.slice o9 n9 c9)) (by simp [results, Tryz.results85, go_sem, vv, mapT, VT.kd, VT.nm, VT.st, s0, s1, s2, s3, s4]) rfl ?_
          exact by rw [HR0.out, HJ.out]; exact ⟨mapT (insP (mkS x.tx) zeroT false P), _, _, j + 1, m, rfl, HNE.out, RZ.out.same (put5_heap _ _ _ _ _ _ _ _ _ (by omega)), hk2, MZ.out.tree _ _ _ _ _, Own.put MZ.out.ow (Nat.le_refl _) _ _ _ _ _⟩
        | true =>
          rw [if_neg (by rw [h58]; decide)] at HJ
          have CW := hid (rwant_yes b ws v (j + 1) m a1 58 W5 R5.out WM5.out.inw hjl2 (by omega) (by rw [HRD.out]; exact h58))
          have HT58 := hid (isM_tail hEr h58)
          have htd : ws.drop (j + 1 + 1) = r.tail := by rw [← HRD.out, List.tail_drop]
          have HTD := hid htd
          clear h58 htd
          go_wp2_with fail
          go_at_call 118
          refine CW.out.mono ?_
          rintro e w6 ⟨rfl, hr6, ho6⟩
          have R6 := hid hr6
          have M6 := hid (M5.out.far ho6 hbw)
          have WM6 := hid (WM5.out.own ho6)
          have hs6 := ho6.size
          have p6 := ho6.cell p1 (by show ¬ w2.heap.size = b; have := M5.out.ow.size; omega)
          clear hr6 ho6 R5 M5 WM5 p1 CW
          have HAT6 : Hid (At w6 b v ws (j + 1 + 1) m) := hid ⟨⟨_, R6.out⟩, WM6.out, by rw [HTD.out]; exact HT58.out, by omega, HA.out.txt, HAT.out.nod⟩
          have hjl3 := HAT6.out.lt
          have CV := hid (HVV.out b ws v (j + 1 + 1) m (d + 1) w6 g1 HAT6.out (by omega) (by omega) (by omega))
          rw [HTD.out] at CV
          simp only [Int.natCast_add, Int.cast_ofNat_Int] at CV
          go_wp2_with fail
          go_at_call 54
          refine CV.out.mono ?_
          intro e w7 hp
          have hends : ∀ t mm q, jrV g1 (d + 1) m r.tail = .ok t mm q → 0 < q.length ∧ q.length ≤ ws.length := fun t mm q hq => by
            rw [← HTD.out] at hq
            obtain ⟨h1, h2, -, -⟩ := (jr_ends g1).1 _ _ _ _ _ _ HAT6.out.ends hq
            obtain ⟨y, r', hy⟩ := h1.ne
            rw [List.length_drop] at h2
            rw [hy] at h2 ⊢
            simp only [List.length_cons] at h2 ⊢
            omega
          obtain ⟨T, t1, t2, t3, t4, t5, t6, k2, m2, er, a2, rfl, hr7, hk2, hx7, ho7, hcase⟩ := rp_any hp hends
          have R7 := hid hr7
          have HX7 := hid hx7
          have HO7 := hid ho7
          have HCS := hid hcase
          clear hp hr7 hx7 ho7 hcase CV R6 hends
          simp only [vv]
          have M7 := hid (M6.out.far HO7.out hbw)
          have WM7 := hid (WM6.out.own HO7.out)
          have hs7 := HO7.out.size
          have p7 := HO7.out.cell p6 (by show ¬ w2.heap.size = b; have := M6.out.ow.size; omega)
          have hb6 := M6.out.big
          clear M6 WM6 p6 HO7
          go_upto_region 17 with fail
          have hbx := valloc_bel (Below.refl w7.heap.size w7) (.cells #[.int .i64 T.kd, .int .i64 T.nm, .string T.st, .slice t1 t2 t3, .slice t4 t5 t6] 27)
          have x0 : (w7.alloc (.cells #[.int .i64 T.kd, .int .i64 T.nm, .string T.st, .slice t1 t2 t3, .slice t4 t5 t6] 27)).cell? ⟨w7.heap.size, 0, none⟩ = some (.int .i64 T.kd) := by simp
          have x1 : (w7.alloc (.cells #[.int .i64 T.kd, .int .i64 T.nm, .string T.st, .slice t1 t2 t3, .slice t4 t5 t6] 27)).cell? ⟨w7.heap.size, 1, none⟩ = some (.int .i64 T.nm) := by simp
          have x2 : (w7.alloc (.cells #[.int .i64 T.kd, .int .i64 T.nm, .string T.st, .slice t1 t2 t3, .slice t4 t5 t6] 27)).cell? ⟨w7.heap.size, 2, none⟩ = some (.string T.st) := by simp
          have x3 : (w7.alloc (.cells #[.int .i64 T.kd, .int .i64 T.nm, .string T.st, .slice t1 t2 t3, .slice t4 t5 t6] 27)).cell? ⟨w7.heap.size, 3, none⟩ = some (.slice t1 t2 t3) := by simp
          have x4 : (w7.alloc (.cells #[.int .i64 T.kd, .int .i64 T.nm, .string T.st, .slice t1 t2 t3, .slice t4 t5 t6] 27)).cell? ⟨w7.heap.size, 4, none⟩ = some (.slice t4 t5 t6) := by simp
          have M8' := hid (M7.out.far (Own.of hbx) hbw)
          have R8 := hid (R7.out.onto hbx)
          have WM8 := hid (WM7.out.onto hbx)
          have p8 := keepCell hbx p7
          have hs8 := hbx.size
          have HX8 := hid (HX7.out.onto (S' := fun q => w.heap.size + 2 ≤ q ∧ q < (w7.alloc (.cells #[.int .i64 T.kd, .int .i64 T.nm, .string T.st, .slice t1 t2 t3, .slice t4 t5 t6] 27)).heap.size) (fun q hq => hbx.block q hq.2) (fun q hq => ⟨by omega, by omega⟩))
          clear hbx M7 R7 WM7 p7 HX7
          generalize (w7.alloc (.cells #[.int .i64 T.kd, .int .i64 T.nm, .string T.st, .slice t1 t2 t3, .slice t4 t5 t6] 27)) = W8 at x0 x1 x2 x3 x4 M8' R8 WM8 p8 hs8 HX8 ⊢
          have CW2 : Hid (Calls Tryz.prog 120 #[.agg #[.int .i64 6, .int .i64 0, .string ⟨#[]⟩, .slice none 0 0, .slice oN nN cN], .string (mkS x.tx), .agg #[.int .i64 T.kd, .int .i64 T.nm, .string T.st, .slice t1 t2 t3, .slice t4 t5 t6]] W8 fun e w' => WithPostS (fun q => w.heap.size + 2 ≤ q ∧ q < W8.heap.size) (mapT P) (mkS x.tx) T (.slice t1 t2 t3) (.slice t4 t5 t6) W8 e w') := hid (withS_any (fun q => w.heap.size + 2 ≤ q ∧ q < W8.heap.size) (mapT P) (.slice none 0 0) (.slice oN nN cN) (mkS x.tx) T (.slice t1 t2 t3) (.slice t4 t5 t6) W8 M8'.out.tr HX8.out HTS.out (by show (P.map (·.2)).length ≤ 100000; rw [List.length_map]; omega))
          obtain ⟨b0, b1, b2, b3, b4⟩ := M8'.out.box
          go_wp2_with fail
          go_at_call 120
          refine CW2.out.mono ?_
          rintro e w9 ⟨A, E, o9, n9, c9, hA1, hA2, hE, rfl, hWR, hbW⟩
          have HWS := hid (with_hs hWR hbW (fun q hq => hq.2))
          rw [with_mapT hA1 hA2 hE.out] at HWS
          have M9 := hid (M8'.out.far (Own.of hbW) hbw)
          have R9 := hid (R8.out.onto hbW)
          have WM9 := hid (WM8.out.onto hbW)
          have hs9 := hbW.size
          have hpl := (ins_len (mkS x.tx) T false P).1
          clear hA1 hA2 hE hWR hbW CW2 b0 b1 b2 b3 b4 x0 x1 x2 x3 x4 M8' R8 WM8 p8 HX8
          obtain ⟨b0, b1, b2, b3, b4⟩ := M9.out.box
          have bf := M9.out.row.frozen
          go_upto_region 18 with fail
          change Code.wp _ _ _ _ (put5 w9 (w.heap.size + 1) 0 (.int .i64 6) (.int .i64 0) (.string ⟨#[]⟩) (.slice none 0 0) (.slice o9 n9 c9))
          have hb9 := M9.out.big
          have ML := hid (M9.out.put (P' := (insP (mkS x.tx) T false P)) (u' := (.slice o9 n9 c9)) (HWS.out.onto (fun q hq => rfl) (fun q hq => by rcases hq with h | h <;> exact ⟨by omega, by omega⟩)))
          have RL := hid (R9.out.same (put5_heap w9 (w.heap.size + 1) 0 (.int .i64 6) (.int .i64 0) (.string ⟨#[]⟩) (.slice none 0 0) (.slice o9 n9 c9) b (by omega)))
          have WML := hid (HA.out.wm.own ML.out.ow)
          clear b0 b1 b2 b3 b4 bf M9 R9 WM9 HWS
          generalize (put5 w9 (w.heap.size + 1) 0 (.int .i64 6) (.int .i64 0) (.string ⟨#[]⟩) (.slice none 0 0) (.slice o9 n9 c9)) = W10 at ML RL WML ⊢
          rcases HCS.out with ⟨q, hq, rfl, rfl⟩ | ⟨hq, hne⟩
          · rw [hq] at HJ
            simp only at HJ
            rw [← HTD.out] at hq
            clear HCS
            have hdr : ws.drop (ws.length - q.length) = q := suf_drop ((jr_suf g1).1 _ _ _ _ _ _ hq)
            obtain ⟨hEq, hql, hmm, hm4⟩ := (jr_ends g1).1 _ _ _ _ _ _ HAT6.out.ends hq
            rw [List.length_drop] at hql
            have hq0 : 0 < q.length := by obtain ⟨y, r, hy⟩ := hEq.ne; rw [hy]; simp
            have HEQ := hid hEq
            have HDR := hid hdr
            generalize hkk : ws.length - q.length = k2 at RL hk2 HDR ⊢
            have hkk2 : j + 2 < k2 := by omega
            have CI := hid (ris_any b ws v k2 m2 0 a2 44 W10 RL.out WML.out.inw hk2 (by omega))
            rw [HDR.out] at CI
            simp only [decide_true, Bool.true_and] at CI
            clear hq hdr hEq
            cases h44 : isM 44 q with
            | true =>
              rw [if_pos h44] at HJ
              rw [h44] at CI
              have HT44 := hid (isM_tail HEQ.out h44)
              clear h44
              go_wp2_with fail
              go_at_call 117
              refine CI.out.mono ?_
              rintro e w11 ⟨rfl, hb11⟩
              have RK := hid (RL.out.onto hb11)
              have MK := hid (ML.out.far (Own.of hb11) hbw)
              have WMK := hid (WML.out.onto hb11)
              clear hb11 RL ML WML CI
              have r1 := RK.out.r1
              have rf := RK.out.row.frozen
              go_wp2_with fail
              have RZ := hid (show Rr (w11.setCell ⟨b, 1, none⟩ (.int .i64 ((k2 : Int) + 1))) b v (k2 + 1) m2 0 a2 by have := RK.out.set1 (k2 + 1); simpa using this)
              have MZ := hid (MK.out.far (Own.set (Own.refl b w11) 1 (.int .i64 ((k2 : Int) + 1))) hbw)
              have WMZ := hid (WMK.out.own (Own.set (Own.refl b w11) 1 (.int .i64 ((k2 : Int) + 1))))
              have htd : ws.drop (k2 + 1) = q.tail := by rw [← HDR.out, List.tail_drop]
              go_roundw
              case rel => exact ⟨k2 + 1, m2, g1, (insP (mkS x.tx) T false P), o9, n9, c9, by omega, by omega, by omega, hid ⟨⟨a2, RZ.out⟩, WMZ.out, by rw [htd]; exact HT44.out, by omega, HA.out.txt, hm4⟩, hid (by rw [HJ.out, htd]), MZ⟩
              case measure =>
                have e1 := R1J.out
                have e2 := RZ.out.r1
                rw [e1, e2]
                simp only [Option.getD_some, intOf]
                omega
            | false =>
              rw [if_neg (by rw [h44]; decide)] at HJ
              rw [h44] at CI
              clear h44
              go_wp2_with fail
              go_at_call 117
              refine CI.out.mono ?_
              rintro e w11 ⟨rfl, hb11⟩
              have RK := hid (RL.out.onto hb11)
              have MK := hid (ML.out.far (Own.of hb11) hbw)
              have WMK := hid (WML.out.onto hb11)
              clear hb11 RL ML WML CI
              cases h93 : isM 125 q with
              | true =>
                rw [if_pos h93] at HJ
                have CWE := hid (rwant_yes b ws v k2 m2 a2 125 w11 RK.out WMK.out.inw hk2 (by omega) (by rw [HDR.out]; exact h93))
                have htl : q.tail.length = q.length - 1 := by simp
                clear h93
                go_wp2_with fail
                go_at_call 118
                refine CWE.out.mono ?_
                rintro e w12 ⟨rfl, hr12, ho12⟩
                have RZ := hid hr12
                have MZ := hid (MK.out.far ho12 hbw)
                clear hr12 ho12 RK MK WMK CWE
                obtain ⟨b0, b1, b2, b3, b4⟩ := MZ.out.box
                obtain ⟨⟨q0, q1, q2, q3, q4⟩, qf⟩ := MZ.out.zer
                go_wp2_with fail
                obtain ⟨s0, s1, s2, s3, s4⟩ := z5_put MZ.out.zer (mapT []) (.slice none 0 0) (.slice o9 n9 c9)
                simp only [put5, Nat.zero_add, mapT, VT.kd, VT.nm, VT.st] at s0 s1 s2 s3 s4
                refine bodyPost_ret (v := vv (mapT (insP (mkS x.tx) T false P)) (.slice none 0 0) (.slice o9 n9 c9)) (by simp [results, Tryz.results85, go_sem, vv, mapT, VT.kd, VT.nm, VT.st, s0, s1, s2, s3, s4]) rfl ?_
                exact by rw [HR0.out, HJ.out]; exact ⟨_, _, a2, rfl, by rw [htl, show ws.length - (q.length - 1) = k2 + 1 by omega]; exact RZ.out.same (put5_heap _ _ _ _ _ _ _ _ _ (by omega)), MZ.out.tree _ _ _ _ _, Own.put MZ.out.ow (Nat.le_refl _) _ _ _ _ _⟩
              | false =>
                rw [if_neg (by rw [h93]; decide)] at HJ
                have CWE := hid (rwant_no b ws v k2 m2 a2 125 w11 RK.out WMK.out.inw hk2 (by omega) (by rw [HDR.out]; exact h93))
                rw [HDR.out] at CWE
                clear h93
                go_wp2_with fail
                go_at_call 118
                refine CWE.out.mono ?_
                rintro e w12 ⟨rfl, hr12, ho12⟩
                have RZ := hid hr12
                have MZ := hid (MK.out.far ho12 hbw)
                clear hr12 ho12 RK MK WMK CWE
                obtain ⟨b0, b1, b2, b3, b4⟩ := MZ.out.box
                obtain ⟨⟨q0, q1, q2, q3, q4⟩, qf⟩ := MZ.out.zer
                go_wp2_with fail
                obtain ⟨s0, s1, s2, s3, s4⟩ := z5_put MZ.out.zer (mapT []) (.slice none 0 0) (.slice o9 n9 c9)
                simp only [put5, Nat.zero_add, mapT, VT.kd, VT.nm, VT.st] at s0 s1 s2 s3 s4
                refine bodyPost_ret (v := vv (mapT (insP (mkS x.tx) T false P)) (.slice none 0 0) (.slice o9 n9 c9)) (by simp [results, Tryz.results85, go_sem, vv, mapT, VT.kd, VT.nm, VT.st, s0, s1, s2, s3, s4]) rfl ?_
                exact by rw [HR0.out, HJ.out]; exact ⟨mapT (insP (mkS x.tx) T false P), _, _, k2, m2, rfl, by decide, RZ.out.same (put5_heap _ _ _ _ _ _ _ _ _ (by omega)), hk2, MZ.out.tree _ _ _ _ _, Own.put MZ.out.ow (Nat.le_refl _) _ _ _ _ _⟩
          · rw [hq] at HJ
            simp only at HJ
            clear hq HCS
            have CI := hid (ris_any b ws v k2 m2 er a2 44 W10 RL.out WML.out.inw hk2 (by omega))
            rw [decide_eq_false hne, Bool.false_and] at CI
            have HNE := hid hne
            clear hne
            go_wp2_with fail
            go_at_call 117
            refine CI.out.mono ?_
            rintro e w11 ⟨rfl, hb11⟩
            have RK := hid (RL.out.onto hb11)
            have MK := hid (ML.out.far (Own.of hb11) hbw)
            have WMK := hid (WML.out.onto hb11)
            clear hb11 RL ML WML CI
            have CWE : Hid (Calls Tryz.prog 118 #[.pointer (some ⟨b, 0, none⟩), .string ⟨#[125]⟩] w11 fun e w' => e = .returned (.tuple #[]) ∧ Rr w' b v k2 m2 er a2 ∧ Own b w11 w') := hid ((rwant_bad b ws v k2 m2 er a2 125 w11 RK.out HNE.out WMK.out.inw hk2 (by omega)).mono (by rintro e w' ⟨h1, h2⟩; exact ⟨h1, RK.out.onto h2, Own.of h2⟩))
            go_wp2_with fail
            go_at_call 118
            refine CWE.out.mono ?_
            rintro e w12 ⟨rfl, hr12, ho12⟩
            have RZ := hid hr12
            have MZ := hid (MK.out.far ho12 hbw)
            clear hr12 ho12 RK MK WMK CWE
            obtain ⟨b0, b1, b2, b3, b4⟩ := MZ.out.box
            obtain ⟨⟨q0, q1, q2, q3, q4⟩, qf⟩ := MZ.out.zer
            go_wp2_with fail
            obtain ⟨s0, s1, s2, s3, s4⟩ := z5_put MZ.out.zer (mapT []) (.slice none 0 0) (.slice o9 n9 c9)
            simp only [put5, Nat.zero_add, mapT, VT.kd, VT.nm, VT.st] at s0 s1 s2 s3 s4
            refine bodyPost_ret (v := vv (mapT (insP (mkS x.tx) T false P)) (.slice none 0 0) (.slice o9 n9 c9)) (by simp [results, Tryz.results85, go_sem, vv, mapT, VT.kd, VT.nm, VT.st, s0, s1, s2, s3, s4]) rfl ?_
            exact by rw [HR0.out, HJ.out]; exact ⟨mapT (insP (mkS x.tx) T false P), _, _, k2, m2, rfl, HNE.out, RZ.out.same (put5_heap _ _ _ _ _ _ _ _ _ (by omega)), hk2, MZ.out.tree _ _ _ _ _, Own.put MZ.out.ow (Nat.le_refl _) _ _ _ _ _⟩
end Go.Proofs.YtbeolgnognhfpaaGreatDoor
namespace Go.Proofs.YtbeolgnognhfpaaGreatDoor
open Go.RowKit

theorem lw_good8 (T : List UInt8) (i : Nat) (h : (lw T i).er = 0) : ¬ (lw T i).kd = 0 ∧ (lw T i).tx.length ≤ 65536 := by
  unfold lw at h ⊢
  cases hb : T[i]? with
  | none => rw [hb] at h; simp at h
  | some c =>
    rw [hb] at h
    simp only at h ⊢
    split at h
    · rename_i h1; rw [if_pos h1]; exact ⟨by simp, by simp⟩
    · rename_i h1
      rw [if_neg h1]
      split at h
      · rename_i h2; rw [if_pos h2]; exact ⟨by simp, by simp⟩
      · rename_i h2
        rw [if_neg h2]
        split at h
        · rename_i h3
          rw [if_pos h3]
          unfold lwS at h ⊢
          split at h
          · simp at h
          · rename_i h4
            rw [if_neg h4]
            split at h
            · simp at h
            · rename_i h5; rw [if_neg h5]; exact ⟨by simp, by simp only; omega⟩
        · rename_i h3
          rw [if_neg h3]
          split at h
          · rename_i h4
            rw [if_pos h4]
            unfold lwN at h ⊢
            split at h
            · simp at h
            · rename_i h5
              rw [if_neg h5]
              split at h
              · simp at h
              · rename_i h6
                rw [if_neg h6]
                split at h
                · simp at h
                · rename_i h7
                  rw [if_neg h7]
                  refine ⟨by simp, ?_⟩
                  have := List.length_take_le (run numC (T.drop i)) (T.drop i)
                  simp only
                  omega
          · rename_i h4
            rw [if_neg h4]
            unfold lwL at h ⊢
            split at h
            · rename_i h5
              rw [if_pos h5]
              refine ⟨by simp, ?_⟩
              unfold litB at h5
              rw [decide_eq_true_eq] at h5
              simp only
              rcases h5 with h5 | h5 | h5 <;> rw [h5] <;> decide
            · simp at h
theorem lx_good (T : List UInt8) : ∀ (f i : Nat) (acc ws : List Wd) (a : Nat), lx T f i acc = (ws, 0, a) → (∀ x ∈ acc, ¬ x.kd = 0 ∧ x.tx.length ≤ 65536) → EndW ws ∧ ws.length ≤ acc.length + f ∧ ∀ x ∈ ws, x.tx.length ≤ 65536
  | 0, i, acc, ws, a, h, _ => by rw [lx] at h; simp at h
  | f + 1, i, acc, ws, a, h, hA => by
    rw [lx] at h
    split at h
    · injection h with h1 h2
      subst h1
      refine ⟨⟨acc, _, rfl, rfl, fun x hx => (hA x hx).1⟩, by simp, fun x hx => ?_⟩
      rcases List.mem_append.1 hx with h | h
      · exact (hA x h).2
      · rw [List.mem_singleton.1 h]; simp
    · split at h
      · rename_i he
        injection h with h1 h2
        injection h2 with h2 h3
        exact absurd h2 he
      · rename_i he
        have hg := lw_good8 T i (Classical.not_not.1 he)
        split at h
        · obtain ⟨k1, k2, k3⟩ := lx_good T f _ acc ws a h hA
          exact ⟨k1, by omega, k3⟩
        · obtain ⟨k1, k2, k3⟩ := lx_good T f _ _ ws a h (fun x hx => by
            rcases List.mem_append.1 hx with h | h
            · exact hA x h
            · rw [List.mem_singleton.1 h]; exact hg)
          exact ⟨k1, by rw [List.length_append] at k2; simp only [List.length_singleton] at k2; omega, k3⟩
theorem cut_good {T : List UInt8} (h : (cutA T).2.1 = 0) : EndW (cutA T).1 ∧ (cutA T).1.length ≤ 65537 ∧ ∀ x ∈ (cutA T).1, x.tx.length ≤ 65536 := by
  unfold cutA at h ⊢
  split at h
  · simp at h
  · rename_i h1
    rw [if_neg h1]
    split at h
    · simp at h
    · rename_i h2
      rw [if_neg h2]
      have hp2 : lx T (T.length + 1) 0 [] = ((lx T (T.length + 1) 0 []).1, 0, (lx T (T.length + 1) 0 []).2.2) := by
        generalize lx T (T.length + 1) 0 [] = p at h ⊢
        obtain ⟨p1, p2, p3⟩ := p
        simp only at h
        rw [h]
      obtain ⟨k1, k2, k3⟩ := lx_good T _ _ _ _ _ hp2 (fun x hx => by simp at hx)
      exact ⟨k1, by simp at k2; omega, k3⟩
theorem rvalue_all : ∀ N : Nat, RvOk N
  | 0 => fun b ws v k n d w f hA _ hN _ => by have := hA.lt; omega
  | N + 1 => rvalue8 N (rlist8 N (rvalue_all N)) (rpairs8 N (rvalue_all N))
end Go.Proofs.YtbeolgnognhfpaaGreatDoor
namespace Go.Proofs.YtbeolgnognhfpaaGreatDoor
open Go.RowKit

/-- what Parse answers -/
def Pp (R : Rd) (w : World) (e : Ending) (w' : World) : Prop := match R with
  | .ok T _ _ => ∃ X Y, e = .returned (.tuple #[vv T X Y, .agg #[.int .i64 0, .int .i64 0]]) ∧ HS w' (fun k => w.heap.size ≤ k ∧ k < w'.heap.size) T X Y ∧ Below w.heap.size w w'
  | .bad er a => e = .returned (.tuple #[vv zeroT (.slice none 0 0) (.slice none 0 0), .agg #[.int .i64 (er : Int), .int .i64 (a : Int)]]) ∧ ¬ er = 0 ∧ Below w.heap.size w w'
/-- a fault's box of one's own -/
structure B2 (w : World) (b : Nat) (e a : Int) : Prop where
  c0 : w.cell? ⟨b, 0, none⟩ = some (.int .i64 e)
  c1 : w.cell? ⟨b, 1, none⟩ = some (.int .i64 a)
  rw_ : Row w b 57 2
theorem B2.fr {w : World} {b : Nat} {e a : Int} (h : B2 w b e a) : ∀ o, w.frozen? ⟨b, o, none⟩ = false := h.rw_.frozen
theorem B2.same {w w' : World} {b : Nat} {e a : Int} (h : B2 w b e a) (k : w'.heap[b]? = w.heap[b]?) : B2 w' b e a :=
  ⟨(World.cell?_of_block (w := w) k).trans h.c0, (World.cell?_of_block (w := w) k).trans h.c1, h.rw_.onto k⟩
theorem b2_new (w : World) (e a : Int) : B2 (w.alloc (.cells #[.int .i64 e, .int .i64 a] 57)) w.heap.size e a := ⟨by simp, by simp, Row.new w #[.int .i64 e, .int .i64 a] 57⟩
theorem B2.onto {w w' : World} {b : Nat} {e a : Int} (h : B2 w b e a) (hb : Below w.heap.size w w') : B2 w' b e a := h.same (hb.block b (World.block_lt_of_cell? w ⟨b, 0, none⟩ h.c0))
theorem own_bel {b : Nat} {w W W' : World} (h : Below w.heap.size w W) (ho : Own b W W') (hb : w.heap.size ≤ b) : Below w.heap.size w W' :=
  ⟨ho.os.trans h.os, ho.tape.trans h.tape, ho.output.trans h.output, Nat.le_trans h.size ho.size, fun k hk => (ho.block k (Nat.lt_of_lt_of_le hk h.size) (fun e => by injection e with e; omega)).trans (h.block k hk)⟩
theorem own_wm {W : World} {base : Nat} {ty : TypeId} {v : Value} {ws : List Wd} {o : Obj} (h : W.ownsRow base ty 3 v ws.length (ws.flatMap wc)) (he : EndW ws) : Wm (W.alloc o) W.heap.size ws v := by
  have h' := h.alloc o
  have hlt := h.lt
  rcases h with ⟨-, ⟨-, h0⟩ | ⟨g, cap, cur, rfl, -, -, hn, hcm, -, -⟩⟩
  · obtain ⟨x, r, hx⟩ := he.ne
    rw [hx] at h0; simp at h0
  · have hg := hlt g rfl
    have key : ∀ (i : Nat) (a : Wd), ws[i]? = some a → ∀ (c : Nat) (u : Value), (wc a)[c]? = some u → (W.alloc o).cell? ⟨g, i * 3 + c, none⟩ = some u := by
      intro i a ha c u hu
      have hi := lt_of_some ha
      have hc : c < 3 := lt_of_some hu
      rw [h'.cellAt (i * 3 + c) (by omega), flat_at wc 3 (fun _ => rfl) ws i c a ha hc]
      exact hu
    refine ⟨_, ⟨g, 0, none⟩, cap, rfl, hn, hcm, fun _ => rfl, by show ¬ g = W.heap.size; omega, fun i x hx => ?_⟩
    rw [add_at]
    exact ⟨key i x hx 0 _ rfl, key i x hx 1 _ rfl, key i x hx 2 _ rfl⟩
theorem put5_bel8 {B : Nat} {a w : World} {b o : Nat} {v0 v1 v2 v3 v4 : Value} (h : Below B a w) (hb : B ≤ b) : Below B a (put5 w b o v0 v1 v2 v3 v4) :=
  ((((h.setCell (p := ⟨b, o, none⟩) hb _).setCell (p := ⟨b, o + 1, none⟩) hb _).setCell (p := ⟨b, o + 2, none⟩) hb _).setCell (p := ⟨b, o + 3, none⟩) hb _).setCell (p := ⟨b, o + 4, none⟩) hb _
def put2 (w : World) (b : Nat) (e a : Value) : World := (w.setCell ⟨b, 0, none⟩ e).setCell ⟨b, 1, none⟩ a
theorem two_box {W : World} {H : Nat} {e a : Int} (hz : Z5 W H) (hb : B2 W (H + 1) e a) (T : VT) (x y : Value) (e' a' : Value) : Node (put2 (put5 W H 0 (.int .i64 T.kd) (.int .i64 T.nm) (.string T.st) x y) (H + 1) e' a') ⟨H, 0, none⟩ T x y ∧ (put2 (put5 W H 0 (.int .i64 T.kd) (.int .i64 T.nm) (.string T.st) x y) (H + 1) e' a').cell? ⟨H + 1, 0, none⟩ = some e' ∧ (put2 (put5 W H 0 (.int .i64 T.kd) (.int .i64 T.nm) (.string T.st) x y) (H + 1) e' a').cell? ⟨H + 1, 1, none⟩ = some a' := by
  have hn := z5_put hz T x y
  have hr := hb.rw_.onto (put5_heap W H 0 (.int .i64 T.kd) (.int .i64 T.nm) (.string T.st) x y (H + 1) (by omega))
  have hf : ∀ k, ¬ k = H + 1 → (put2 (put5 W H 0 (.int .i64 T.kd) (.int .i64 T.nm) (.string T.st) x y) (H + 1) e' a').heap[k]? = (put5 W H 0 (.int .i64 T.kd) (.int .i64 T.nm) (.string T.st) x y).heap[k]? := fun k hk => (Below.heap_setCell _ _ _ _ hk).trans (Below.heap_setCell _ _ _ _ hk)
  refine ⟨hn.eqs (hf _ (by show ¬ H = H + 1; omega)), ?_, set_same (hr.set _ _) (by omega) _⟩
  exact (set_other _ _ _ _ _ _ (Or.inr (by omega))).trans (set_same hr (by omega) _)
theorem two_bel {w W : World} (h : Below w.heap.size w W) {H : Nat} (hH : w.heap.size ≤ H) (v0 v1 v2 v3 v4 e' a' : Value) : Below w.heap.size w (put2 (put5 W H 0 v0 v1 v2 v3 v4) (H + 1) e' a') :=
  vset_bel (vset_bel (put5_bel8 h hH) (by show w.heap.size ≤ H + 1; omega)) (by show w.heap.size ≤ H + 1; omega)
set_option maxRecDepth 100000 in
set_option maxHeartbeats 4000000 in
theorem rparse8 (t : ByteArray) (w : World) (ht : t.size ≤ 1000000) :
    Calls Tryz.prog 38 #[.string t] w fun e w' => Pp (jrA t.data.toList) w e w' := by
  have CC := hid (fun X => Tryz.rcut_any t X ht)
  obtain ⟨RA, hRA⟩ : ∃ RA, RA = jrA t.data.toList := ⟨_, rfl⟩
  rw [← hRA]
  have HRA := hid hRA
  clear hRA
  go_enter Tryz.func38, Tryz.ntmps38
  go_wp2_with fail
  go_at_call 53
  refine (CC.out _).mono ?_
  rintro e w1 ⟨v, rfl, ho1, hb1⟩
  have Z1 := hid (((z5_new w).onto (valloc_bel (Below.refl _ _) (.cells #[.int .i64 0, .int .i64 0] 57))).onto hb1)
  have B1 := hid ((b2_new (w.alloc (.cells #[.int .i64 0, .int .i64 0, .string ⟨#[]⟩, .slice none 0 0, .slice none 0 0] 27)) 0 0).onto hb1)
  rw [World.size_alloc] at B1
  have HB1 := hid (vonto (valloc_bel (valloc_bel (Below.refl w.heap.size w) (.cells #[.int .i64 0, .int .i64 0, .string ⟨#[]⟩, .slice none 0 0, .slice none 0 0] 27)) (.cells #[.int .i64 0, .int .i64 0] 57)) hb1)
  have hs1 := hb1.size
  simp only [World.size_alloc] at hs1
  have HO1 := hid ho1
  clear ho1 hb1 CC
  obtain ⟨ws, hws⟩ : ∃ ws, ws = (cutA t.data.toList).1 := ⟨_, rfl⟩
  obtain ⟨er, her⟩ : ∃ er, er = (cutA t.data.toList).2.1 := ⟨_, rfl⟩
  obtain ⟨a, ha⟩ : ∃ a, a = (cutA t.data.toList).2.2 := ⟨_, rfl⟩
  have HCG := hid (fun (h : er = 0) => cut_good (T := t.data.toList) (by rw [← her]; exact h))
  unfold jrA at HRA
  rw [← hws] at HO1 HCG HRA
  rw [← her] at HRA ⊢
  rw [← ha] at HRA ⊢
  clear hws her ha
  have BE := hid (b2_new w1 (er : Int) (a : Int))
  have hal := valloc_bel (Below.refl w1.heap.size w1) (.cells #[.int .i64 (er : Int), .int .i64 (a : Int)] 57)
  have Z2 := hid (Z1.out.onto hal)
  have B2' := hid (B1.out.onto hal)
  have HB2 := hid (vonto HB1.out hal)
  have HS2 := hid (World.size_alloc w1 (.cells #[.int .i64 (er : Int), .int .i64 (a : Int)] 57))
  have HO2 := hid (ownsRow_below HO1.out hal)
  clear hal Z1 B1 HB1 HO1
  obtain ⟨ol, nl, cl, rfl⟩ : ∃ o n c, v = .slice o n c := by
    rcases HO2.out with ⟨-, ⟨h, -⟩ | ⟨g, cap, cur, h, -⟩⟩
    · exact ⟨_, _, _, h⟩
    · exact ⟨_, _, _, h⟩
  by_cases he : er = 0
  · rw [if_neg (fun h => h he)] at HRA
    obtain ⟨hEW, hwl, htx⟩ := HCG.out he
    have HEW := hid hEW
    have HTX := hid htx
    subst he
    clear HCG hEW htx
    go_upto_region 2 with fail
    generalize (w1.alloc (.cells #[.int .i64 ((0 : Nat) : Int), .int .i64 (a : Int)] 57)) = W2 at BE Z2 B2' HB2 HS2 HO2 ⊢
    have c0 := BE.out.c0
    go_upto_region 5 with fail
    have hal := valloc_bel (Below.refl W2.heap.size W2) (.cells #[.slice ol nl cl, .int .i64 0, .int .i64 0, .int .i64 0, .int .i64 0] 88)
    have hrr : Rr (W2.alloc (.cells #[.slice ol nl cl, .int .i64 0, .int .i64 0, .int .i64 0, .int .i64 0] 88)) W2.heap.size (.slice ol nl cl) 0 0 0 0 := ⟨by simp, by simp, by simp, by simp, by simp, Row.new W2 _ _⟩
    have hwm : Wm (W2.alloc (.cells #[.slice ol nl cl, .int .i64 0, .int .i64 0, .int .i64 0, .int .i64 0] 88)) W2.heap.size ws (.slice ol nl cl) := own_wm HO2.out HEW.out
    have HAT : Hid (At (W2.alloc (.cells #[.slice ol nl cl, .int .i64 0, .int .i64 0, .int .i64 0, .int .i64 0] 88)) W2.heap.size (.slice ol nl cl) ws 0 0) := hid ⟨⟨0, hrr⟩, hwm, by rw [List.drop_zero]; exact HEW.out, by omega, HTX.out, by omega⟩
    have Z3 := hid (Z2.out.onto hal)
    have B3 := hid (B2'.out.onto hal)
    have HB3 := hid (vonto HB2.out hal)
    have hlb : w.heap.size + 2 ≤ W2.heap.size := by have := HS2.out; omega
    clear hal hrr hwm Z2 B2' HB2 BE c0 HO2
    generalize (W2.alloc (.cells #[.slice ol nl cl, .int .i64 0, .int .i64 0, .int .i64 0, .int .i64 0] 88)) = W3 at HAT Z3 B3 HB3 ⊢
    generalize W2.heap.size = b at HAT hlb ⊢
    have hjl := HAT.out.lt
    have CV := hid (rvalue_all ws.length b ws (.slice ol nl cl) 0 0 1 W3 (2 * ws.length + 2) HAT.out (by omega) (by omega) (by omega))
    rw [List.drop_zero, show ((1 : Nat) : Int) = 1 from rfl] at CV
    go_wp2_with fail
    go_at_call 54
    refine CV.out.mono ?_
    intro e w4 hp
    have hends : ∀ t mm q, jrV (2 * ws.length + 2) 1 0 ws = .ok t mm q → 0 < q.length ∧ q.length ≤ ws.length := fun t mm q hq => by
      obtain ⟨h1, h2, -, -⟩ := (jr_ends _).1 _ _ _ _ _ _ HEW.out hq
      obtain ⟨y, r', hy⟩ := h1.ne
      rw [hy] at h2 ⊢
      simp only [List.length_cons] at h2 ⊢
      omega
    obtain ⟨T, t1, t2, t3, t4, t5, t6, k2, m2, er, a2, rfl, hr4, hk2, hx4, ho4, hcase⟩ := rp_any hp hends
    have Z4 := hid (Z3.out.far ho4 (by omega))
    have B4 := hid (B3.out.same (ho4.block _ (World.block_lt_of_cell? W3 ⟨w.heap.size + 1, 0, none⟩ B3.out.c0) (fun e => by injection e with e; omega)))
    have WM4 := hid (HAT.out.wm.own ho4)
    have HB4 := hid (own_bel HB3.out ho4 (by omega))
    have R4 := hid hr4
    have HX4 := hid hx4
    have HCS := hid hcase
    have hs3 := HB3.out.size
    clear hp hr4 hx4 ho4 hcase CV hends Z3 B3 HB3
    simp only [vv]
    go_upto_region 6 with fail
    have hal := valloc_bel (Below.refl w4.heap.size w4) (.cells #[.int .i64 T.kd, .int .i64 T.nm, .string T.st, .slice t1 t2 t3, .slice t4 t5 t6] 27)
    have x0 : (w4.alloc (.cells #[.int .i64 T.kd, .int .i64 T.nm, .string T.st, .slice t1 t2 t3, .slice t4 t5 t6] 27)).cell? ⟨w4.heap.size, 0, none⟩ = some (.int .i64 T.kd) := by simp
    have x1 : (w4.alloc (.cells #[.int .i64 T.kd, .int .i64 T.nm, .string T.st, .slice t1 t2 t3, .slice t4 t5 t6] 27)).cell? ⟨w4.heap.size, 1, none⟩ = some (.int .i64 T.nm) := by simp
    have x2 : (w4.alloc (.cells #[.int .i64 T.kd, .int .i64 T.nm, .string T.st, .slice t1 t2 t3, .slice t4 t5 t6] 27)).cell? ⟨w4.heap.size, 2, none⟩ = some (.string T.st) := by simp
    have x3 : (w4.alloc (.cells #[.int .i64 T.kd, .int .i64 T.nm, .string T.st, .slice t1 t2 t3, .slice t4 t5 t6] 27)).cell? ⟨w4.heap.size, 3, none⟩ = some (.slice t1 t2 t3) := by simp
    have x4 : (w4.alloc (.cells #[.int .i64 T.kd, .int .i64 T.nm, .string T.st, .slice t1 t2 t3, .slice t4 t5 t6] 27)).cell? ⟨w4.heap.size, 4, none⟩ = some (.slice t4 t5 t6) := by simp
    have Z5' := hid (Z4.out.onto hal)
    have B5 := hid (B4.out.onto hal)
    have WM5 := hid (WM4.out.onto hal)
    have HB5 := hid (vonto HB4.out hal)
    have R5 := hid (R4.out.onto hal)
    have HX5 := hid (HX4.out.onto (S' := fun q => w.heap.size + 2 ≤ q ∧ q < (w4.alloc (.cells #[.int .i64 T.kd, .int .i64 T.nm, .string T.st, .slice t1 t2 t3, .slice t4 t5 t6] 27)).heap.size) (fun q hq => hal.block q hq.2) (fun q hq => ⟨by have := HAT.out.rr; obtain ⟨_, h⟩ := this; have := h.row.lt; omega, by have := hal.size; omega⟩))
    clear hal Z4 B4 WM4 HB4 R4 HX4
    generalize (w4.alloc (.cells #[.int .i64 T.kd, .int .i64 T.nm, .string T.st, .slice t1 t2 t3, .slice t4 t5 t6] 27)) = W5 at x0 x1 x2 x3 x4 Z5' B5 WM5 HB5 R5 HX5 ⊢
    rcases HCS.out with ⟨q, hq, rfl, rfl⟩ | ⟨hq, hne⟩
    · rw [hq] at HRA
      simp only at HRA
      have hdr : ws.drop (ws.length - q.length) = q := suf_drop (j := 0) (by rw [List.drop_zero]; exact (jr_suf _).1 _ _ _ _ _ _ hq)
      obtain ⟨hEq, -, -, -⟩ := (jr_ends _).1 _ _ _ _ _ _ HEW.out hq
      obtain ⟨y, r', hy⟩ := hEq.ne
      generalize ws.length - q.length = k2 at hdr hk2 R5 ⊢
      rw [hy] at HRA hdr
      simp only at HRA
      have hyk : ws[k2]? = some y := by
        have := congrArg (fun l => l[0]?) hdr
        simpa using this
      have CW := hid (fun X (hX : Below W5.heap.size W5 X) => rword_any b ws (.slice ol nl cl) k2 m2 0 a2 y X (R5.out.onto hX) (WM5.out.inw.onto hX) hyk (by omega))
      have fl0 := fun (W : World) => Tryz.fld0 (.int .i64 (y.kd : Int)) (.string (mkS y.tx)) (.int .i64 (y.at_ : Int)) W
      have fl2 := fun (W : World) => Tryz.fld2 (.int .i64 (y.kd : Int)) (.string (mkS y.tx)) (.int .i64 (y.at_ : Int)) W
      have r3 := R5.out.r3
      clear hq hdr hEq hy hyk HCS
      by_cases hy0 : y.kd = 0
      · rw [if_pos hy0] at HRA
        have hyb : ((y.kd : Int) != 0) = false := by rw [hy0]; rfl
        clear hy0
        go_wp2_with fail
        go_at_call 55
        refine (CW.out _ (Below.refl _ _)).mono ?_
        rintro e w6 ⟨rfl, hb6⟩
        have z0 := keepCell hb6 x0; have z1 := keepCell hb6 x1; have z2 := keepCell hb6 x2; have z3 := keepCell hb6 x3; have z4 := keepCell hb6 x4
        have Z6 := hid (Z5'.out.onto hb6)
        have B6 := hid (B5.out.onto hb6)
        have HB6 := hid (vonto HB5.out hb6)
        have r36 := keepCell hb6 r3
        have HX6 := hid (HX5.out.onto (S' := fun q => w.heap.size + 2 ≤ q ∧ q < w6.heap.size) (fun q hq => hb6.block q hq.2) (fun q hq => ⟨hq.1, by have := hb6.size; omega⟩))
        clear hb6 CW x0 x1 x2 x3 x4 r3
        obtain ⟨⟨q0, q1, q2, q3, q4⟩, qf⟩ := Z6.out
        have d0 := B6.out.c0
        have d1 := B6.out.c1
        have df := B6.out.fr
        go_wp2_with fail
        obtain ⟨⟨s0, s1, s2, s3, s4⟩, s5, s6⟩ := two_box Z6.out B6.out T (.slice t1 t2 t3) (.slice t4 t5 t6) (.int .i64 0) (.int .i64 0)
        simp only [put2, put5, Nat.zero_add] at s0 s1 s2 s3 s4 s5 s6
        refine bodyPost_ret (v := .tuple #[vv T (.slice t1 t2 t3) (.slice t4 t5 t6), .agg #[.int .i64 0, .int .i64 0]]) (by simp [results, Tryz.results38, go_sem, vv, s0, s1, s2, s3, s4, s5, s6]) rfl ?_
        rw [HRA.out]
        refine ⟨_, _, rfl, ?_, two_bel HB6.out (Nat.le_refl _) _ _ _ _ _ _ _⟩
        change HS (put2 (put5 w6 w.heap.size 0 (.int .i64 T.kd) (.int .i64 T.nm) (.string T.st) (.slice t1 t2 t3) (.slice t4 t5 t6)) (w.heap.size + 1) (.int .i64 0) (.int .i64 0)) (fun k => w.heap.size ≤ k ∧ k < (put2 (put5 w6 w.heap.size 0 (.int .i64 T.kd) (.int .i64 T.nm) (.string T.st) (.slice t1 t2 t3) (.slice t4 t5 t6)) (w.heap.size + 1) (.int .i64 0) (.int .i64 0)).heap.size) _ _ _
        have hsz : (put2 (put5 w6 w.heap.size 0 (.int .i64 T.kd) (.int .i64 T.nm) (.string T.st) (.slice t1 t2 t3) (.slice t4 t5 t6)) (w.heap.size + 1) (.int .i64 0) (.int .i64 0)).heap.size = w6.heap.size := by simp [put2, put5]
        rw [hsz]
        exact HX6.out.onto (fun k hk => (Below.heap_setCell _ _ _ _ (by show k ≠ w.heap.size + 1; omega)).trans ((Below.heap_setCell _ _ _ _ (by show k ≠ w.heap.size + 1; omega)).trans (put5_heap _ _ _ _ _ _ _ _ _ (by omega)))) (fun k hk => ⟨by omega, hk.2⟩)
      · rw [if_neg hy0] at HRA
        have hyb : ((y.kd : Int) != 0) = true := by simp; omega
        clear hy0
        go_wp2_with fail
        go_at_call 55
        refine (CW.out _ (Below.refl _ _)).mono ?_
        rintro e w6 ⟨rfl, hb6⟩
        have HB66 := hid hb6
        have r36 := keepCell hb6 r3
        clear hb6
        go_wp2_with fail
        go_at_call 55
        refine (CW.out _ HB66.out).mono ?_
        rintro e w7 ⟨rfl, hb7⟩
        have HB7 := hid (vonto HB66.out hb7)
        clear hb7
        go_wp2_with fail
        go_at_call 56
        refine (rfail_set b (.slice ol nl cl) k2 m2 a2 4 y.at_ w7 (R5.out.onto HB7.out)).mono ?_
        rintro e w8 ⟨rfl, hr8, ho8⟩
        have R8 := hid hr8
        have Z8 := hid ((Z5'.out.onto HB7.out).far ho8 (by omega))
        have B8 := hid ((B5.out.onto HB7.out).same (ho8.block _ (World.block_lt_of_cell? w7 ⟨w.heap.size + 1, 0, none⟩ (B5.out.onto HB7.out).c0) (fun e => by injection e with e; omega)))
        have HB8 := hid (own_bel (vonto HB5.out HB7.out) ho8 (by omega))
        clear hr8 ho8 CW x0 x1 x2 x3 x4 r3 r36
        have r3 := R8.out.r3
        have r4 := R8.out.r4
        obtain ⟨⟨q0, q1, q2, q3, q4⟩, qf⟩ := Z8.out
        have d0 := B8.out.c0
        have d1 := B8.out.c1
        have df := B8.out.fr
        go_upto_region 9 with fail
        go_region
        go_wp2_with fail
        obtain ⟨⟨s0, s1, s2, s3, s4⟩, s5, s6⟩ := two_box Z8.out B8.out zeroT (.slice none 0 0) (.slice none 0 0) (.int .i64 (4 : Int)) (.int .i64 ((y.at_ : Int) : Int))
        simp only [put2, put5, Nat.zero_add, zeroT, VT.kd, VT.nm, VT.st] at s0 s1 s2 s3 s4 s5 s6
        refine bodyPost_ret (v := .tuple #[vv zeroT (.slice none 0 0) (.slice none 0 0), .agg #[.int .i64 (4 : Int), .int .i64 ((y.at_ : Int) : Int)]]) (by simp [results, Tryz.results38, go_sem, vv, zeroT, VT.kd, VT.nm, VT.st, s0, s1, s2, s3, s4, s5, s6]) rfl ?_
        rw [HRA.out]
        exact ⟨rfl, by decide, (two_bel HB8.out (Nat.le_refl _) _ _ _ _ _ _ _).drew⟩
    · rw [hq] at HRA
      simp only at HRA
      have heb : ((er : Int) == 0) = false := by simp; omega
      have heb2 : ((er : Int) != 0) = true := by simp; omega
      have HNE := hid hne
      clear hq HCS hne x0 x1 x2 x3 x4
      have r3 := R5.out.r3
      have r4 := R5.out.r4
      obtain ⟨⟨q0, q1, q2, q3, q4⟩, qf⟩ := Z5'.out
      have d0 := B5.out.c0
      have d1 := B5.out.c1
      have df := B5.out.fr
      go_upto_region 9 with fail
      go_region
      go_wp2_with fail
      obtain ⟨⟨s0, s1, s2, s3, s4⟩, s5, s6⟩ := two_box Z5'.out B5.out zeroT (.slice none 0 0) (.slice none 0 0) (.int .i64 ((er : Int) : Int)) (.int .i64 ((a2 : Int) : Int))
      simp only [put2, put5, Nat.zero_add, zeroT, VT.kd, VT.nm, VT.st] at s0 s1 s2 s3 s4 s5 s6
      refine bodyPost_ret (v := .tuple #[vv zeroT (.slice none 0 0) (.slice none 0 0), .agg #[.int .i64 ((er : Int) : Int), .int .i64 ((a2 : Int) : Int)]]) (by simp [results, Tryz.results38, go_sem, vv, zeroT, VT.kd, VT.nm, VT.st, s0, s1, s2, s3, s4, s5, s6]) rfl ?_
      rw [HRA.out]
      exact ⟨rfl, HNE.out, (two_bel HB5.out (Nat.le_refl _) _ _ _ _ _ _ _).drew⟩
  · rw [if_pos he] at HRA
    have hEB : ((er : Int) != 0) = true := by simp; omega
    have HE := hid he
    clear he
    go_upto_region 2 with fail
    generalize (w1.alloc (.cells #[.int .i64 (er : Int), .int .i64 (a : Int)] 57)) = W2 at BE Z2 B2' HB2 HS2 HO2 ⊢
    have c0 := BE.out.c0
    have c1 := BE.out.c1
    obtain ⟨⟨q0, q1, q2, q3, q4⟩, qf⟩ := Z2.out
    have d0 := B2'.out.c0
    have d1 := B2'.out.c1
    have df := B2'.out.fr
    have hne1 : ¬ w1.heap.size = w.heap.size := by omega
    have hne2 : ¬ w1.heap.size = w.heap.size + 1 := by omega
    go_upto_region 3 with fail
    go_region
    go_wp2_with fail
    obtain ⟨⟨s0, s1, s2, s3, s4⟩, s5, s6⟩ := two_box Z2.out B2'.out zeroT (.slice none 0 0) (.slice none 0 0) (.int .i64 (er : Int)) (.int .i64 (a : Int))
    simp only [put2, put5, Nat.zero_add, zeroT, VT.kd, VT.nm, VT.st] at s0 s1 s2 s3 s4 s5 s6
    refine bodyPost_ret (v := .tuple #[vv zeroT (.slice none 0 0) (.slice none 0 0), .agg #[.int .i64 (er : Int), .int .i64 (a : Int)]]) (by simp [results, Tryz.results38, go_sem, vv, zeroT, VT.kd, VT.nm, VT.st, s0, s1, s2, s3, s4, s5, s6]) rfl ?_
    rw [HRA.out]
    exact ⟨rfl, HE.out, (two_bel HB2.out (Nat.le_refl _) _ _ _ _ _ _ _).drew⟩
end Go.Proofs.YtbeolgnognhfpaaGreatDoor
