
import Derived.Test.YtkhjahpkbjafaaaGreatDoorURef8All
import Derived.Test.YtkhjahpkbjafaaaGreatDoorUPlaceAll
import Derived.WalkSmall
import Derived.Defers
import Derived.Recover
import Derived.Test.YtkhjahpkbjafaaaGreatDoorUVPlus
import Derived.Test.YtkhjahpkbjafaaaGreatDoorUShelf2
import Derived.Test.YtkhjahpkbjafaaaGreatDoorUMathParts
/- The program's reader of words: its memory; a step, a mark, what begins a value. -/
/- The program's reader of words: a fault is a panic. -/
/- The program's Parse: what is deferred. -/
/- The program's Parse over its read. -/
/- The program's Parse over a read that answers. -/
/- The program's Valid over its read. -/
/- The program's single: a word that says a value alone. -/
/- The program's reader: what a word says alone; what its calls promise. -/
/- The program's reader: a value. -/
/- The program's reader: parts with a comma between, over whatever reads a part. -/
namespace Go.Proofs.YtkhjahpkbjafaaaGreatDoor
open Go.RowKit

/-- the program's reader in memory: the text, the words ahead, how many nodes have begun -/
structure Jr (w : World) (b : Nat) (t : ByteArray) (v : Value) (n : Nat) : Prop where
  r0 : w.cell? ⟨b, 0, none⟩ = some (.string t)
  r1 : w.cell? ⟨b, 1, none⟩ = some v
  r2 : w.cell? ⟨b, 2, none⟩ = some (.int .i64 (n : Int))
  row : Row w b 67 3
theorem Jr.onto {w w' : World} {b : Nat} {t : ByteArray} {v : Value} {n : Nat} (h : Jr w b t v n) (hb : Below w.heap.size w w') : Jr w' b t v n :=
  ⟨keepCell hb h.r0, keepCell hb h.r1, keepCell hb h.r2, h.row.onto (hb.block b h.row.lt)⟩
theorem Jr.set1 {w : World} {b : Nat} {t : ByteArray} {v : Value} {n : Nat} (h : Jr w b t v n) (v' : Value) : Jr (w.setCell ⟨b, 1, none⟩ v') b t v' n :=
  ⟨(set_other _ _ _ _ _ _ (Or.inr (by omega))).trans h.r0, set_same h.row (by omega) _, (set_other _ _ _ _ _ _ (Or.inr (by omega))).trans h.r2, h.row.set _ _⟩
theorem Jr.set2 {w : World} {b : Nat} {t : ByteArray} {v : Value} {n : Nat} (h : Jr w b t v n) (n' : Nat) : Jr (w.setCell ⟨b, 2, none⟩ (.int .i64 (n' : Int))) b t v n' :=
  ⟨(set_other _ _ _ _ _ _ (Or.inr (by omega))).trans h.r0, (set_other _ _ _ _ _ _ (Or.inr (by omega))).trans h.r1, set_same h.row (by omega) _, h.row.set _ _⟩
theorem add_o3 (a : Addr) : a.add (1 * 3) = ⟨a.block, a.off + 3, none⟩ := by unfold Addr.add; simp
theorem add_plus (a : Addr) (x y : Nat) : (a.add x).add y = a.add (x + y) := by
  unfold Addr.add
  by_cases hx : x = 0
  · subst hx; simp
  · by_cases hy : y = 0
    · subst hy; simp
    · simp [hx, hy, Nat.add_assoc]
/-- the words behind the first one -/
theorem wm_tail {w : World} {b : Nat} {x : Wd} {r : List Wd} {a : Addr} {n c : Nat} (h : Wm w b (x :: r) (.slice (some a) n c)) : n = r.length + 1 ∧ n ≤ c ∧ c ≤ maxLen ∧ Wm w b r (.slice (if c = 1 then some a else some ⟨a.block, a.off + 3, none⟩) r.length (c - 1)) ∧
    w.cell? a = some (.int .i64 (x.kd : Int)) ∧ w.cell? ⟨a.block, a.off + 1, none⟩ = some (.string (mkS x.tx)) ∧ w.cell? ⟨a.block, a.off + 2, none⟩ = some (.int .i64 (x.at_ : Int)) := by
  obtain ⟨o, a', cap, e, h1, h2, h3, h4, h5⟩ := h
  injection e with e1 e2 e3
  subst e2 e3
  have ha : o = some a' := h3 (by simp)
  rw [← e1] at ha
  injection ha with ha
  subst ha
  have hz : a.add (0 * 3) = a := by unfold Addr.add; simp
  obtain ⟨k0, k1, k2⟩ := h5 0 x rfl
  rw [hz] at k0 k1 k2
  refine ⟨rfl, h1, h2, ?_, k0, k1, k2⟩
  simp only [List.length_cons] at h1
  by_cases hr : r = []
  · subst hr
    by_cases hc : c = 1
    · rw [if_pos hc]; exact ⟨_, a, _, rfl, by simp, by omega, fun h => absurd h (by simp), h4, fun i x hx => by simp at hx⟩
    · rw [if_neg hc]; exact ⟨_, a, _, rfl, by simp, by omega, fun h => absurd h (by simp), h4, fun i x hx => by simp at hx⟩
  · have hrl : 0 < r.length := List.length_pos_iff.2 hr
    rw [if_neg (by omega)]
    refine ⟨_, a.add (1 * 3), c - 1, rfl, by omega, by omega, fun _ => by rw [add_o3], by rw [addr_block]; exact h4, fun i y hy => ?_⟩
    rw [add_plus, ← Nat.add_mul]
    have := h5 (1 + i) y (by rw [Nat.add_comm]; simpa using hy)
    exact this
/-- the block that a slice lies in -/
def blkV : Value → Option Nat
  | .slice (some a) _ _ => some a.block
  | _ => none
set_option maxRecDepth 100000 in
set_option maxHeartbeats 1000000 in
theorem jstep_any (b : Nat) (t : ByteArray) (v : Value) (n : Nat) (x : Wd) (r : List Wd) (w : World) (h : Jr w b t v n) (hw : Wm w b (x :: r) v) :
    Calls Tryz.prog 59 #[.pointer (some ⟨b, 0, none⟩)] w fun e w' => e = .returned (.tuple #[]) ∧ ∃ v', Jr w' b t v' n ∧ Wm w' b r v' ∧ Own b w w' ∧ blkV v' = blkV v := by
  obtain ⟨a, n', c, rfl⟩ : ∃ a n' c, v = .slice (some a) n' c := by
    obtain ⟨o, a, cap, e, -, -, h3, -, -⟩ := hw
    rw [h3 (by simp)] at e
    exact ⟨_, _, _, e⟩
  obtain ⟨rfl, h1, h2, hwt, -, -, -⟩ := wm_tail hw
  have HWT := hid hwt
  have HJ := hid h
  have r1 := h.r1
  have rf := h.row.frozen
  unfold maxLen at h2
  have hle1 : (1 : Int) ≤ (r.length : Int) + 1 := by omega
  clear h hw hwt
  by_cases hc : c = 1
  · subst hc
    obtain rfl : r = [] := List.eq_nil_of_length_eq_zero (by omega)
    rw [if_pos rfl] at HWT
    simp only [Nat.sub_self, List.length_nil, Nat.zero_add] at HWT r1 HJ ⊢
    clear h1 h2 hle1
    go_enter Tryz.func59, Tryz.ntmps59
    go_wp2_with fail
    go_end0
    exact ⟨rfl, _, HJ.out.set1 _, HWT.out.own (Own.set (Own.refl b w) 1 _), Own.set (Own.refl b w) 1 _, rfl⟩
  · rw [if_neg hc] at HWT
    go_enter Tryz.func59, Tryz.ntmps59
    go_wp2_with fail
    go_end0
    exact ⟨rfl, _, HJ.out.set1 _, HWT.out.own (Own.set (Own.refl b w) 1 _), Own.set (Own.refl b w) 1 _, rfl⟩
set_option maxRecDepth 100000 in
set_option maxHeartbeats 2000000 in
theorem jpasses_any (b : Nat) (t : ByteArray) (v : Value) (n : Nat) (x : Wd) (r : List Wd) (c : UInt8) (w : World) (h : Jr w b t v n) (hw : Wm w b (x :: r) v) :
    Calls Tryz.prog 114 #[.pointer (some ⟨b, 0, none⟩), .string ⟨#[c]⟩] w fun e w' => e = .returned (.bool (isM c (x :: r))) ∧ ((isM c (x :: r) = false ∧ w' = w) ∨ (isM c (x :: r) = true ∧ ∃ v', Jr w' b t v' n ∧ Wm w' b r v' ∧ Own b w w' ∧ blkV v' = blkV v)) := by
  have CS := hid (jstep_any b t v n x r w h hw)
  obtain ⟨a, n', c', rfl⟩ : ∃ a n' c, v = .slice (some a) n' c := by
    obtain ⟨o, a, cap, e, -, -, h3, -, -⟩ := hw
    rw [h3 (by simp)] at e
    exact ⟨_, _, _, e⟩
  obtain ⟨rfl, h1, h2, -, k0, k1, -⟩ := wm_tail hw
  have r1 := h.r1
  unfold maxLen at h2
  obtain ⟨T, hT⟩ : ∃ T : ByteArray, T = ⟨#[c]⟩ := ⟨_, rfl⟩
  have HTT := hid hT
  rw [← hT]
  clear h hw hT
  by_cases g1 : x.kd = 1
  · have hkb : ((x.kd : Int) != 1) = false := by rw [g1]; rfl
    by_cases g2 : x.tx = [c]
    · have te : ((mkS x.tx).toList == T.toList) = true := txt_is _ _ (by rw [mkS_list, g2, HTT.out])
      have te' : ((mkS x.tx).toList != T.toList) = false := by rw [bne, te]; rfl
      have HM := hid (isM_yes (r := r) ⟨g1, g2⟩)
      clear g1 g2
      go_enter Tryz.func114, Tryz.ntmps114
      go_wp2_with fail
      go_at_call 59
      refine CS.out.mono ?_
      rintro e w1 ⟨rfl, hp⟩
      go_wp2_with fail
      go_ret
      exact ⟨by rw [HM.out]; rfl, Or.inr ⟨HM.out, hp⟩⟩
    · have te : ((mkS x.tx).toList == T.toList) = false := txt_no _ _ (by rw [mkS_list, HTT.out]; exact g2)
      have te' : ((mkS x.tx).toList != T.toList) = true := by rw [bne, te]; rfl
      have HM := hid (isM_no (x := x) (r := r) (fun h => g2 h.2))
      clear g1 g2
      go_enter Tryz.func114, Tryz.ntmps114
      go_wp2_with fail
      go_ret
      exact ⟨by rw [HM.out]; rfl, Or.inl ⟨HM.out, rfl⟩⟩
  · have hkb : ((x.kd : Int) != 1) = true := by simp; omega
    have HM := hid (isM_no (c := c) (x := x) (r := r) (fun h => g1 h.1))
    clear g1
    go_enter Tryz.func114, Tryz.ntmps114
    go_wp2_with fail
    go_ret
    exact ⟨by rw [HM.out]; rfl, Or.inl ⟨HM.out, rfl⟩⟩
/-- can a value begin with a word? -/
def begB (x : Wd) : Bool := decide (¬ (x.kd = 0 ∨ (x.kd = 1 ∧ x.tx ≠ [123] ∧ x.tx ≠ [91])))
set_option maxRecDepth 100000 in
set_option maxHeartbeats 2000000 in
theorem jbegins_any (x : Wd) (w : World) :
    Calls Tryz.prog 58 #[.agg #[.int .i64 (x.kd : Int), .string (mkS x.tx), .int .i64 (x.at_ : Int)]] w fun e w' => e = .returned (.bool (begB x)) ∧ Below w.heap.size w w' := by
  have hb := valloc_bel (Below.refl w.heap.size w) (.cells #[.int .i64 (x.kd : Int), .string (mkS x.tx), .int .i64 (x.at_ : Int)] 70)
  by_cases g0 : x.kd = 0
  · have hk : ((x.kd : Int) == 0) = true := by rw [g0]; rfl
    have HB := hid (show begB x = false from decide_eq_false (fun h => h (Or.inl g0)))
    clear g0
    go_enter Tryz.func58, Tryz.ntmps58
    go_wp2_with fail
    go_ret
    exact ⟨by rw [HB.out]; rfl, hb⟩
  · have hk : ((x.kd : Int) == 0) = false := by simp; omega
    by_cases g1 : x.kd = 1
    · have hk1 : ((x.kd : Int) == 1) = true := by rw [g1]; rfl
      by_cases g2 : x.tx = [91]
      · have e1 := lit_is (mkS x.tx) [91] (by rw [mkS_list]; exact g2)
        have HB := hid (show begB x = true from decide_eq_true (fun h => h.elim g0 (fun h => h.2.2 g2)))
        clear g0 g1 g2
        go_enter Tryz.func58, Tryz.ntmps58
        go_wp2_with fail
        go_ret
        exact ⟨by rw [HB.out]; rfl, hb⟩
      · have e1 := lit_no (mkS x.tx) [91] (by rw [mkS_list]; exact g2)
        by_cases g3 : x.tx = [123]
        · have e2 := lit_is (mkS x.tx) [123] (by rw [mkS_list]; exact g3)
          have HB := hid (show begB x = true from decide_eq_true (fun h => h.elim g0 (fun h => h.2.1 g3)))
          clear g0 g1 g2 g3
          go_enter Tryz.func58, Tryz.ntmps58
          go_wp2_with fail
          go_ret
          exact ⟨by rw [HB.out]; rfl, hb⟩
        · have e2 := lit_no (mkS x.tx) [123] (by rw [mkS_list]; exact g3)
          have HB := hid (show begB x = false from decide_eq_false (fun h => h (Or.inr ⟨g1, g3, g2⟩)))
          clear g0 g1 g2 g3
          go_enter Tryz.func58, Tryz.ntmps58
          go_wp2_with fail
          go_ret
          exact ⟨by rw [HB.out]; rfl, hb⟩
    · have hk1 : ((x.kd : Int) == 1) = false := by simp; omega
      have HB := hid (show begB x = true from decide_eq_true (fun h => h.elim g0 (fun h => g1 h.1)))
      clear g0 g1
      go_enter Tryz.func58, Tryz.ntmps58
      go_wp2_with fail
      go_ret
      exact ⟨by rw [HB.out]; rfl, hb⟩
end Go.Proofs.YtkhjahpkbjafaaaGreatDoor
namespace Go.Proofs.YtkhjahpkbjafaaaGreatDoor
open Go.RowKit

/-- the fault at the word ahead, panicked -/
def Faulted (t : ByteArray) (er at_ : Nat) (e : Ending) : Prop := e = .panicked [{ v := .iface 30 (faultV t (at_ : Int) (er : Int)), recovered := false }]
set_option maxRecDepth 100000 in
set_option maxHeartbeats 2000000 in
theorem jrefuse_any (b : Nat) (t : ByteArray) (v : Value) (n : Nat) (x : Wd) (r : List Wd) (er : Nat) (w : World) (h : Jr w b t v n) (hw : Wm w b (x :: r) v) (hs : t.size ≤ 1000000) :
    Calls Tryz.prog 42 #[.pointer (some ⟨b, 0, none⟩), .int .i64 (er : Int)] w fun e w' => Faulted t er x.at_ e ∧ Below w.heap.size w w' := by
  obtain ⟨a, n', c', rfl⟩ : ∃ a n' c, v = .slice (some a) n' c := by
    obtain ⟨o, a, cap, e, -, -, h3, -, -⟩ := hw
    rw [h3 (by simp)] at e
    exact ⟨_, _, _, e⟩
  obtain ⟨rfl, h1, h2, -, -, -, k2⟩ := wm_tail hw
  have r0 := h.r0
  have r1 := h.r1
  unfold maxLen at h2
  have CF := hid (fun X => fault_any t (x.at_ : Int) (er : Int) X hs)
  unfold Faulted
  generalize faultV t (x.at_ : Int) (er : Int) = fv at CF ⊢
  clear h hw
  go_enter Tryz.func42, Tryz.ntmps42
  refine wp_region_h (S := fun X => Below w.heap.size w X) 15 (by kernel_rfl) (by kernel_rfl) ?_
  have hS0 : Below w.heap.size w w.drew := (Below.refl _ _).drew
  refine take_h (i := 0) (v := ?_) rfl (by kernel_rfl) (by kernel_rfl) (by kernel_rfl) (fun _ _ _ h => h) (by rfl) ?_ hS0 ?_
  rotate_left
  · (intro X hX; have y0 := keepCell hX r0; have y1 := keepCell hX r1; have y2 := keepCell hX k2; go_simp; try with_reducible rfl)
  simp only [Act.put, List.setIfInBounds_toArray, List.set_cons_zero, List.set_cons_succ]
  refine take_h (i := 1) (v := ?_) rfl (by kernel_rfl) (by kernel_rfl) (by kernel_rfl) (fun _ _ _ h => h) (by rfl) ?_ hS0 ?_
  rotate_left
  · (intro X hX; have y0 := keepCell hX r0; have y1 := keepCell hX r1; have y2 := keepCell hX k2; go_simp; try with_reducible rfl)
  simp only [Act.put, List.setIfInBounds_toArray, List.set_cons_zero, List.set_cons_succ]
  refine take_h (i := 2) (v := ?_) rfl (by kernel_rfl) (by kernel_rfl) (by kernel_rfl) (fun _ _ _ h => h) (by rfl) ?_ hS0 ?_
  rotate_left
  · (intro X hX; have y0 := keepCell hX r0; have y1 := keepCell hX r1; have y2 := keepCell hX k2; go_simp; try with_reducible rfl)
  simp only [Act.put, List.setIfInBounds_toArray, List.set_cons_zero, List.set_cons_succ]
  refine take_h (i := 3) (v := ?_) rfl (by kernel_rfl) (by kernel_rfl) (by kernel_rfl) (fun _ _ _ h => h) (by rfl) ?_ hS0 ?_
  rotate_left
  · (intro X hX; have y0 := keepCell hX r0; have y1 := keepCell hX r1; have y2 := keepCell hX k2; go_simp; try with_reducible rfl)
  simp only [Act.put, List.setIfInBounds_toArray, List.set_cons_zero, List.set_cons_succ]
  refine take_h (i := 4) (v := ?_) rfl (by kernel_rfl) (by kernel_rfl) (by kernel_rfl) (fun _ _ _ h => h) (by rfl) ?_ hS0 ?_
  rotate_left
  · (intro X hX; have y0 := keepCell hX r0; have y1 := keepCell hX r1; have y2 := keepCell hX k2; go_simp; try with_reducible rfl)
  simp only [Act.put, List.setIfInBounds_toArray, List.set_cons_zero, List.set_cons_succ]
  refine take_h (i := 5) (v := ?_) rfl (by kernel_rfl) (by kernel_rfl) (by kernel_rfl) (fun _ _ _ h => h) (by rfl) ?_ hS0 ?_
  rotate_left
  · (intro X hX; have y0 := keepCell hX r0; have y1 := keepCell hX r1; have y2 := keepCell hX k2; go_simp; try with_reducible rfl)
  simp only [Act.put, List.setIfInBounds_toArray, List.set_cons_zero, List.set_cons_succ]
  refine take_h (i := 6) (v := ?_) rfl (by kernel_rfl) (by kernel_rfl) (by kernel_rfl) (fun _ _ _ h => h) (by rfl) ?_ hS0 ?_
  rotate_left
  · (intro X hX; have y0 := keepCell hX r0; have y1 := keepCell hX r1; have y2 := keepCell hX k2; go_simp; try with_reducible rfl)
  simp only [Act.put, List.setIfInBounds_toArray, List.set_cons_zero, List.set_cons_succ]
  refine take_h (i := 7) (v := ?_) rfl (by kernel_rfl) (by kernel_rfl) (by kernel_rfl) (fun _ _ _ h => h) (by rfl) ?_ hS0 ?_
  rotate_left
  · (intro X hX; have y0 := keepCell hX r0; have y1 := keepCell hX r1; have y2 := keepCell hX k2; go_simp; try with_reducible rfl)
  simp only [Act.put, List.setIfInBounds_toArray, List.set_cons_zero, List.set_cons_succ]
  refine take_h (i := 8) (v := ?_) rfl (by kernel_rfl) (by kernel_rfl) (by kernel_rfl) (fun _ _ _ h => h) (by rfl) ?_ hS0 ?_
  rotate_left
  · (intro X hX; have y0 := keepCell hX r0; have y1 := keepCell hX r1; have y2 := keepCell hX k2; go_simp; try with_reducible rfl)
  simp only [Act.put, List.setIfInBounds_toArray, List.set_cons_zero, List.set_cons_succ]
  refine take_h (i := 9) (v := ?_) rfl (by kernel_rfl) (by kernel_rfl) (by kernel_rfl) (fun _ _ _ h => h) (by rfl) ?_ hS0 ?_
  rotate_left
  · (intro X hX; have y0 := keepCell hX r0; have y1 := keepCell hX r1; have y2 := keepCell hX k2; go_simp; try with_reducible rfl)
  simp only [Act.put, List.setIfInBounds_toArray, List.set_cons_zero, List.set_cons_succ]
  refine take_h (i := 10) (v := ?_) rfl (by kernel_rfl) (by kernel_rfl) (by kernel_rfl) (fun _ _ _ h => h) (by rfl) ?_ hS0 ?_
  rotate_left
  · (intro X hX; have y0 := keepCell hX r0; have y1 := keepCell hX r1; have y2 := keepCell hX k2; go_simp; try with_reducible rfl)
  simp only [Act.put, List.setIfInBounds_toArray, List.set_cons_zero, List.set_cons_succ]
  refine take_h (i := 11) (v := ?_) rfl (by kernel_rfl) (by kernel_rfl) (by kernel_rfl) (fun _ _ _ h => h) (by rfl) ?_ hS0 ?_
  rotate_left
  · (intro X hX; have y0 := keepCell hX r0; have y1 := keepCell hX r1; have y2 := keepCell hX k2; go_simp; try with_reducible rfl)
  simp only [Act.put, List.setIfInBounds_toArray, List.set_cons_zero, List.set_cons_succ]
  refine step_h (i := 12) rfl (by kernel_rfl) ?_
  intro KK hKK
  go_simp
  go_wp2_with (go_at_call 54; go_must (refine (CF.out _).mono ?_; rintro e w2 ⟨rfl, hb2⟩))
  have hS1 := vonto hS0 hb2
  refine hKK.out _ _ hS1 (fun _ => ?_)
  clear hKK KK
  refine step_h (i := 13) rfl (by kernel_rfl) ?_
  intro KK hKK
  go_simp
  refine hKK.out _ _ hS1 (fun _ => ?_)
  clear hKK KK
  refine step_h (i := 14) rfl (by kernel_rfl) ?_
  intro KK hKK
  go_simp
  clear hKK KK
  first
  | exact ⟨rfl, hS1⟩
  | exact ⟨rfl, rfl, hS1⟩
  | (simp only [bodyPost]; exact ⟨rfl, hS1⟩)
  | (simp [bodyPost]; exact hS1)
set_option maxRecDepth 100000 in
set_option maxHeartbeats 2000000 in
theorem jwant_yes (b : Nat) (t : ByteArray) (v : Value) (n : Nat) (x : Wd) (r : List Wd) (c : UInt8) (w : World) (h : Jr w b t v n) (hw : Wm w b (x :: r) v) (hm : isM c (x :: r) = true) :
    Calls Tryz.prog 92 #[.pointer (some ⟨b, 0, none⟩), .string ⟨#[c]⟩] w fun e w' => e = .returned (.tuple #[]) ∧ ∃ v', Jr w' b t v' n ∧ Wm w' b r v' ∧ Own b w w' ∧ blkV v' = blkV v := by
  have CP := hid (jpasses_any b t v n x r c w h hw)
  rw [hm] at CP
  clear h hw hm
  go_enter Tryz.func92, Tryz.ntmps92
  go_wp2_with fail
  go_at_call 114
  refine CP.out.mono ?_
  rintro e w1 ⟨rfl, ⟨h1, -⟩ | ⟨-, hp⟩⟩
  · cases h1
  · go_wp2_with fail
    go_end0
    exact ⟨rfl, hp⟩
set_option maxRecDepth 100000 in
set_option maxHeartbeats 2000000 in
theorem jwant_no (b : Nat) (t : ByteArray) (v : Value) (n : Nat) (x : Wd) (r : List Wd) (c : UInt8) (w : World) (h : Jr w b t v n) (hw : Wm w b (x :: r) v) (hs : t.size ≤ 1000000) (hm : isM c (x :: r) = false) :
    Calls Tryz.prog 92 #[.pointer (some ⟨b, 0, none⟩), .string ⟨#[c]⟩] w fun e w' => Faulted t 4 x.at_ e ∧ Below w.heap.size w w' := by
  have CP := hid (jpasses_any b t v n x r c w h hw)
  rw [hm] at CP
  have CR := hid (jrefuse_any b t v n x r 4 w h hw hs)
  unfold Faulted at CR ⊢
  rw [show ((4 : Nat) : Int) = 4 from rfl] at CR ⊢
  generalize faultV t (x.at_ : Int) 4 = fv at CR ⊢
  clear h hw hm
  go_enter Tryz.func92, Tryz.ntmps92
  go_wp2_with fail
  go_at_call 114
  refine CP.out.mono ?_
  rintro e w1 ⟨rfl, ⟨-, rfl⟩ | ⟨h1, -⟩⟩
  · go_wp2_with fail
    go_at_call 42
    refine CR.out.mono ?_
    rintro e w2 ⟨rfl, hb2⟩
    go_wp2_with fail
    first
    | exact ⟨rfl, hb2⟩
    | exact ⟨rfl, rfl, hb2⟩
    | (simp only [bodyPost]; exact ⟨rfl, hb2⟩)
  · cases h1
end Go.Proofs.YtkhjahpkbjafaaaGreatDoor
namespace Go.Proofs.YtkhjahpkbjafaaaGreatDoor
open Go.RowKit

set_option maxRecDepth 100000 in
set_option maxHeartbeats 1000000 in
theorem jcatch_idle (p : Addr) (w : World) :
    CallsD Tryz.prog 30 #[.pointer (some p)] .returning w fun e u' w' => e = .returned (.tuple #[]) ∧ u' = .returning ∧ w' = w := by
  refine callsD_of_wpS Tryz.func30 rfl fun c₀ cs hu => ?_
  apply wpS_seq
  apply wpS_region
  simp [wpOpsS, go_sem, recoverD, hu, Tryz.ntmps30, Exit.thenS]
  apply wpS_seq
  apply wpS_region
  simp [wpOpsS, go_sem, Exit.thenS]
  refine wpS_cond (t := false) (by simp [Act.eval, Array.replicate]) ?_
  simp only [Bool.false_eq_true, if_false]
  refine wpS_of_wp (wp_skip ?_)
  cases c₀
  simp_all [bodyPostS, results, Tryz.results30]
theorem Tryz.tassert (v : Value) (w : World) : (Instr.typeAssert (.iface 30 v) 20 30 false).run Tryz.prog w = .ok v w := by kernel_rfl
set_option maxRecDepth 100000 in
set_option maxHeartbeats 1000000 in
theorem jcatch_fault (p : Addr) (a b c d : Value) (x0 x1 x2 x3 : Int) (older : List PanicEntry) (w : World) (h0 : w.cell? ⟨p.block, 0, none⟩ = some a) (h1 : w.cell? ⟨p.block, 1, none⟩ = some b) (h2 : w.cell? ⟨p.block, 2, none⟩ = some c) (h3 : w.cell? ⟨p.block, 3, none⟩ = some d) (hf : ∀ o, w.frozen? ⟨p.block, o, none⟩ = false) :
    CallsD Tryz.prog 30 #[.pointer (some ⟨p.block, 0, none⟩)] (.panicking ({ v := .iface 30 (.agg #[.int .i64 x0, .int .i64 x1, .int .i64 x2, .int .i64 x3]), recovered := false } :: older)) w fun e u' w' =>
      e = .returned (.tuple #[]) ∧ u' = .panicking ({ v := .iface 30 (.agg #[.int .i64 x0, .int .i64 x1, .int .i64 x2, .int .i64 x3]), recovered := true } :: older) ∧ w' = (((w.setCell ⟨p.block, 0, none⟩ (.int .i64 x0)).setCell ⟨p.block, 1, none⟩ (.int .i64 x1)).setCell ⟨p.block, 2, none⟩ (.int .i64 x2)).setCell ⟨p.block, 3, none⟩ (.int .i64 x3) := by
  refine callsD_of_wpS Tryz.func30 rfl fun c₀ cs hu => ?_
  apply wpS_seq
  apply wpS_region
  simp [wpOpsS, go_sem, recoverD, hu, Tryz.ntmps30, Exit.thenS]
  apply wpS_seq
  apply wpS_region
  simp [wpOpsS, go_sem, Exit.thenS]
  refine wpS_cond (t := true) (by simp [Act.eval, Array.replicate]) ?_
  simp only [if_true]
  apply wpS_region
  simp [wpOpsS, go_sem, Tryz.tassert, h0, h1, h2, h3, hf, bodyPostS, results, Tryz.results30]
end Go.Proofs.YtkhjahpkbjafaaaGreatDoor
namespace Go.Proofs.YtkhjahpkbjafaaaGreatDoor
open Go.RowKit

/-- what read ends in: a value, or the fault, panicked -/
def Jp (t : ByteArray) (R : Rd) (w : World) (e : Ending) (w' : World) : Prop := match R with
  | .ok T _ _ => ∃ o n c o' n' c', e = .returned (vv T (.slice o n c) (.slice o' n' c')) ∧ HS w' (fun k => w.heap.size ≤ k ∧ k < w'.heap.size) T (.slice o n c) (.slice o' n' c') ∧ Below w.heap.size w w'
  | .bad er a => Faulted t er a e ∧ Below w.heap.size w w'
/-- what Parse ends in -/
def Jq (t : ByteArray) (R : Rd) (w : World) (e : Ending) (w' : World) : Prop := match R with
  | .ok T _ _ => ∃ o n c o' n' c', e = .returned (.tuple #[vv T (.slice o n c) (.slice o' n' c'), .agg #[.int .i64 0, .int .i64 0, .int .i64 0, .int .i64 0]]) ∧ HS w' (fun k => w.heap.size ≤ k ∧ k < w'.heap.size) T (.slice o n c) (.slice o' n' c') ∧ Below w.heap.size w w'
  | .bad er a => e = .returned (.tuple #[vv zeroT (.slice none 0 0) (.slice none 0 0), faultV t (a : Int) (er : Int)]) ∧ Below w.heap.size w w'
set_option maxRecDepth 100000 in
set_option maxHeartbeats 2000000 in
theorem jparse_bad (t : ByteArray) (er a : Nat) (w : World) (hread : ∀ X, Below w.heap.size w X → Calls Tryz.prog 31 #[.string t] X fun e w' => Jp t (.bad er a) X e w') :
    Calls Tryz.prog 15 #[.string t] w fun e w' => Jq t (.bad er a) w e w' := by
  have hmf : ∀ (fn : Fn) (first cap : Array Value) (w : World), (Instr.makeFunc fn first cap).run Tryz.prog w = .ok (.func fn first cap) w := fun _ _ _ _ => rfl
  have CR := hid hread
  clear hread
  go_enter_defers Tryz.func15, Tryz.ntmps15
  go_wp2_with fail
  go_at_call 31
  refine (CR.out _ (valloc_bel (valloc_bel (Below.refl w.heap.size w) (.cells #[.int .i64 0, .int .i64 0, .string ⟨#[]⟩, .slice none 0 0, .slice none 0 0] 27)) (.cells #[.int .i64 0, .int .i64 0, .int .i64 0, .int .i64 0] 30))).mono ?_
  rintro e w1 ⟨hfa, hb1⟩
  unfold Faulted at hfa
  subst hfa
  have HB1 := hid (vonto (valloc_bel (valloc_bel (Below.refl w.heap.size w) (.cells #[.int .i64 0, .int .i64 0, .string ⟨#[]⟩, .slice none 0 0, .slice none 0 0] 27)) (.cells #[.int .i64 0, .int .i64 0, .int .i64 0, .int .i64 0] 30)) hb1)
  have Z1 := hid (((z5_new w).onto (valloc_bel (Below.refl _ _) (.cells #[.int .i64 0, .int .i64 0, .int .i64 0, .int .i64 0] 30))).onto hb1)
  have c0 : ((w.alloc (.cells #[.int .i64 0, .int .i64 0, .string ⟨#[]⟩, .slice none 0 0, .slice none 0 0] 27)).alloc (.cells #[.int .i64 0, .int .i64 0, .int .i64 0, .int .i64 0] 30)).cell? ⟨w.heap.size + 1, 0, none⟩ = some (.int .i64 0) := by rw [← World.size_alloc w (.cells #[.int .i64 0, .int .i64 0, .string ⟨#[]⟩, .slice none 0 0, .slice none 0 0] 27)]; simp
  have c1 : ((w.alloc (.cells #[.int .i64 0, .int .i64 0, .string ⟨#[]⟩, .slice none 0 0, .slice none 0 0] 27)).alloc (.cells #[.int .i64 0, .int .i64 0, .int .i64 0, .int .i64 0] 30)).cell? ⟨w.heap.size + 1, 1, none⟩ = some (.int .i64 0) := by rw [← World.size_alloc w (.cells #[.int .i64 0, .int .i64 0, .string ⟨#[]⟩, .slice none 0 0, .slice none 0 0] 27)]; simp
  have c2 : ((w.alloc (.cells #[.int .i64 0, .int .i64 0, .string ⟨#[]⟩, .slice none 0 0, .slice none 0 0] 27)).alloc (.cells #[.int .i64 0, .int .i64 0, .int .i64 0, .int .i64 0] 30)).cell? ⟨w.heap.size + 1, 2, none⟩ = some (.int .i64 0) := by rw [← World.size_alloc w (.cells #[.int .i64 0, .int .i64 0, .string ⟨#[]⟩, .slice none 0 0, .slice none 0 0] 27)]; simp
  have c3 : ((w.alloc (.cells #[.int .i64 0, .int .i64 0, .string ⟨#[]⟩, .slice none 0 0, .slice none 0 0] 27)).alloc (.cells #[.int .i64 0, .int .i64 0, .int .i64 0, .int .i64 0] 30)).cell? ⟨w.heap.size + 1, 3, none⟩ = some (.int .i64 0) := by rw [← World.size_alloc w (.cells #[.int .i64 0, .int .i64 0, .string ⟨#[]⟩, .slice none 0 0, .slice none 0 0] 27)]; simp
  have hr0 := Row.new (w.alloc (.cells #[.int .i64 0, .int .i64 0, .string ⟨#[]⟩, .slice none 0 0, .slice none 0 0] 27)) #[.int .i64 0, .int .i64 0, .int .i64 0, .int .i64 0] 30
  rw [World.size_alloc] at hr0
  have hr := hr0.onto (hb1.block _ hr0.lt)
  replace c0 := keepCell hb1 c0
  replace c1 := keepCell hb1 c1
  replace c2 := keepCell hb1 c2
  replace c3 := keepCell hb1 c3
  have cf := hr.frozen
  clear hb1 CR hr0
  unfold faultV
  go_wp2_with fail
  refine leaves_cons (f := 30) (args := #[.pointer (some ⟨w.heap.size + 1, 0, none⟩)]) (by simp) (by simp [go_sem]) ?_
  refine (jcatch_fault ⟨w.heap.size + 1, 0, none⟩ _ _ _ _ _ _ _ _ [] w1 c0 c1 c2 c3 cf).mono ?_
  rintro e u' w' ⟨rfl, rfl, rfl⟩
  have HB2 : Below w.heap.size w ((((w1.setCell ⟨w.heap.size + 1, 0, none⟩ (.int .i64 (er : Int))).setCell ⟨w.heap.size + 1, 1, none⟩ (.int .i64 (clN t.size a : Int))).setCell ⟨w.heap.size + 1, 2, none⟩ (.int .i64 (ofL t a : Int))).setCell ⟨w.heap.size + 1, 3, none⟩ (.int .i64 (ofC t a : Int))) := set_bel (set_bel (set_bel (set_bel HB1.out (by show _ ≤ _ + 1; omega)) (by show _ ≤ _ + 1; omega)) (by show _ ≤ _ + 1; omega)) (by show _ ≤ _ + 1; omega)
  obtain ⟨⟨z0, z1, z2, z3, z4⟩, zf⟩ := Z1.out
  simp [settle, Leaves, results, Tryz.results15, go_sem, z0, z1, z2, z3, z4, c0, c1, c2, c3]
  exact ⟨rfl, HB2⟩
end Go.Proofs.YtkhjahpkbjafaaaGreatDoor
namespace Go.Proofs.YtkhjahpkbjafaaaGreatDoor
open Go.RowKit

set_option maxRecDepth 100000 in
set_option maxHeartbeats 2000000 in
theorem jparse_ok (t : ByteArray) (T : VT) (k : Nat) (q : List Wd) (w : World) (hread : ∀ X, Below w.heap.size w X → Calls Tryz.prog 31 #[.string t] X fun e w' => Jp t (.ok T k q) X e w') :
    Calls Tryz.prog 15 #[.string t] w fun e w' => Jq t (.ok T k q) w e w' := by
  have hmf : ∀ (fn : Fn) (first cap : Array Value) (w : World), (Instr.makeFunc fn first cap).run Tryz.prog w = .ok (.func fn first cap) w := fun _ _ _ _ => rfl
  have CR := hid hread
  clear hread
  go_enter_defers Tryz.func15, Tryz.ntmps15
  go_wp2_with fail
  go_at_call 31
  refine (CR.out _ (valloc_bel (valloc_bel (Below.refl w.heap.size w) (.cells #[.int .i64 0, .int .i64 0, .string ⟨#[]⟩, .slice none 0 0, .slice none 0 0] 27)) (.cells #[.int .i64 0, .int .i64 0, .int .i64 0, .int .i64 0] 30))).mono ?_
  rintro e w1 ⟨o, n, c, o', n', c', rfl, hs1, hb1⟩
  have HB1 := hid (vonto (valloc_bel (valloc_bel (Below.refl w.heap.size w) (.cells #[.int .i64 0, .int .i64 0, .string ⟨#[]⟩, .slice none 0 0, .slice none 0 0] 27)) (.cells #[.int .i64 0, .int .i64 0, .int .i64 0, .int .i64 0] 30)) hb1)
  have Z1 := hid (((z5_new w).onto (valloc_bel (Below.refl _ _) (.cells #[.int .i64 0, .int .i64 0, .int .i64 0, .int .i64 0] 30))).onto hb1)
  have c0 : ((w.alloc (.cells #[.int .i64 0, .int .i64 0, .string ⟨#[]⟩, .slice none 0 0, .slice none 0 0] 27)).alloc (.cells #[.int .i64 0, .int .i64 0, .int .i64 0, .int .i64 0] 30)).cell? ⟨w.heap.size + 1, 0, none⟩ = some (.int .i64 0) := by rw [← World.size_alloc w (.cells #[.int .i64 0, .int .i64 0, .string ⟨#[]⟩, .slice none 0 0, .slice none 0 0] 27)]; simp
  have c1 : ((w.alloc (.cells #[.int .i64 0, .int .i64 0, .string ⟨#[]⟩, .slice none 0 0, .slice none 0 0] 27)).alloc (.cells #[.int .i64 0, .int .i64 0, .int .i64 0, .int .i64 0] 30)).cell? ⟨w.heap.size + 1, 1, none⟩ = some (.int .i64 0) := by rw [← World.size_alloc w (.cells #[.int .i64 0, .int .i64 0, .string ⟨#[]⟩, .slice none 0 0, .slice none 0 0] 27)]; simp
  have c2 : ((w.alloc (.cells #[.int .i64 0, .int .i64 0, .string ⟨#[]⟩, .slice none 0 0, .slice none 0 0] 27)).alloc (.cells #[.int .i64 0, .int .i64 0, .int .i64 0, .int .i64 0] 30)).cell? ⟨w.heap.size + 1, 2, none⟩ = some (.int .i64 0) := by rw [← World.size_alloc w (.cells #[.int .i64 0, .int .i64 0, .string ⟨#[]⟩, .slice none 0 0, .slice none 0 0] 27)]; simp
  have c3 : ((w.alloc (.cells #[.int .i64 0, .int .i64 0, .string ⟨#[]⟩, .slice none 0 0, .slice none 0 0] 27)).alloc (.cells #[.int .i64 0, .int .i64 0, .int .i64 0, .int .i64 0] 30)).cell? ⟨w.heap.size + 1, 3, none⟩ = some (.int .i64 0) := by rw [← World.size_alloc w (.cells #[.int .i64 0, .int .i64 0, .string ⟨#[]⟩, .slice none 0 0, .slice none 0 0] 27)]; simp
  have hr0 := Row.new (w.alloc (.cells #[.int .i64 0, .int .i64 0, .string ⟨#[]⟩, .slice none 0 0, .slice none 0 0] 27)) #[.int .i64 0, .int .i64 0, .int .i64 0, .int .i64 0] 30
  rw [World.size_alloc] at hr0
  have hr := hr0.onto (hb1.block _ hr0.lt)
  replace c0 := keepCell hb1 c0
  replace c1 := keepCell hb1 c1
  replace c2 := keepCell hb1 c2
  replace c3 := keepCell hb1 c3
  have cf := hr.frozen
  have HS1 := hid hs1
  clear hb1 CR hr0 hs1
  obtain ⟨⟨z0, z1, z2, z3, z4⟩, zf⟩ := Z1.out
  unfold vv
  go_wp2_with fail
  refine leaves_cons (f := 30) (args := #[.pointer (some ⟨w.heap.size + 1, 0, none⟩)]) (by simp) (by simp [go_sem]) ?_
  refine (jcatch_idle ⟨w.heap.size + 1, 0, none⟩ _).mono ?_
  rintro e u' w' ⟨rfl, rfl, rfl⟩
  have HB2 : Below w.heap.size w (((((put5 w1 w.heap.size 0 (.int .i64 T.kd) (.int .i64 T.nm) (.string T.st) (.slice o n c) (.slice o' n' c')).setCell ⟨w.heap.size + 1, 0, none⟩ (.int .i64 0)).setCell ⟨w.heap.size + 1, 1, none⟩ (.int .i64 0)).setCell ⟨w.heap.size + 1, 2, none⟩ (.int .i64 0)).setCell ⟨w.heap.size + 1, 3, none⟩ (.int .i64 0)) := set_bel (set_bel (set_bel (set_bel (put5_bel8 HB1.out (Nat.le_refl _)) (by show _ ≤ _ + 1; omega)) (by show _ ≤ _ + 1; omega)) (by show _ ≤ _ + 1; omega)) (by show _ ≤ _ + 1; omega)
  have HS2 : HS (((((put5 w1 w.heap.size 0 (.int .i64 T.kd) (.int .i64 T.nm) (.string T.st) (.slice o n c) (.slice o' n' c')).setCell ⟨w.heap.size + 1, 0, none⟩ (.int .i64 0)).setCell ⟨w.heap.size + 1, 1, none⟩ (.int .i64 0)).setCell ⟨w.heap.size + 1, 2, none⟩ (.int .i64 0)).setCell ⟨w.heap.size + 1, 3, none⟩ (.int .i64 0)) (fun k => w.heap.size ≤ k ∧ k < (((((put5 w1 w.heap.size 0 (.int .i64 T.kd) (.int .i64 T.nm) (.string T.st) (.slice o n c) (.slice o' n' c')).setCell ⟨w.heap.size + 1, 0, none⟩ (.int .i64 0)).setCell ⟨w.heap.size + 1, 1, none⟩ (.int .i64 0)).setCell ⟨w.heap.size + 1, 2, none⟩ (.int .i64 0)).setCell ⟨w.heap.size + 1, 3, none⟩ (.int .i64 0)).heap.size) T (.slice o n c) (.slice o' n' c') := by
    have hs1 := HS1.out
    simp only [World.size_alloc] at hs1
    refine hs1.onto (fun k hk => ?_) (fun k hk => ⟨by have := hk.1; omega, ?_⟩)
    · have hne : ¬ k = w.heap.size + 1 := by have := hk.1; omega
      exact (Below.heap_setCell _ _ _ _ hne).trans ((Below.heap_setCell _ _ _ _ hne).trans ((Below.heap_setCell _ _ _ _ hne).trans ((Below.heap_setCell _ _ _ _ hne).trans (put5_heap _ _ _ _ _ _ _ _ _ (by have := hk.1; omega)))))
    · simpa [put5] using hk.2
  simp [settle, Leaves, results, Tryz.results15, go_sem, z0, z1, z2, z3, z4, c0, c1, c2, c3]
  exact ⟨_, _, _, _, _, _, rfl, HS2, HB2⟩
end Go.Proofs.YtkhjahpkbjafaaaGreatDoor
namespace Go.Proofs.YtkhjahpkbjafaaaGreatDoor
open Go.RowKit

/-- Parse over read, whatever read ends in -/
theorem jparse_of (t : ByteArray) (R : Rd) (w : World) (hread : ∀ X, Below w.heap.size w X → Calls Tryz.prog 31 #[.string t] X fun e w' => Jp t R X e w') :
    Calls Tryz.prog 15 #[.string t] w fun e w' => Jq t R w e w' := by
  cases R with
  | ok T k q => exact jparse_ok t T k q w hread
  | bad er a => exact jparse_bad t er a w hread
/-- the errno of an outcome -/
def rdErr : Rd → Nat
  | .ok _ _ _ => 0
  | .bad er _ => er
end Go.Proofs.YtkhjahpkbjafaaaGreatDoor
namespace Go.Proofs.YtkhjahpkbjafaaaGreatDoor
open Go.RowKit

set_option maxRecDepth 100000 in
set_option maxHeartbeats 2000000 in
theorem jsingle_str (x : Wd) (w : World) (g : x.kd = 2) (hs : (mkS x.tx).size ≤ maxLen) :
    Calls Tryz.prog 60 #[.agg #[.int .i64 (x.kd : Int), .string (mkS x.tx), .int .i64 (x.at_ : Int)]] w fun e w' => e = .returned (vv (strR (mkS x.tx)) (.slice none 0 0) (.slice none 0 0)) ∧ Below w.heap.size w w' := by
  have hb := valloc_bel (valloc_bel (Below.refl w.heap.size w) (.cells #[.int .i64 (x.kd : Int), .string (mkS x.tx), .int .i64 (x.at_ : Int)] 70)) (.cells #[.int .i64 0, .int .i64 0, .string ⟨#[]⟩, .slice none 0 0, .slice none 0 0] 27)
  have hk : ((x.kd : Int) == 2) = true := by rw [g]; rfl
  have CS := hid (fun X => vstr_any (mkS x.tx) X hs)
  clear g hs
  generalize strR (mkS x.tx) = T at CS ⊢
  generalize teI (mkS x.tx) = z at CS
  go_enter Tryz.func60, Tryz.ntmps60
  go_wp2_with fail
  go_at_call 83
  refine (CS.out _).mono ?_
  rintro e w1 ⟨rfl, hb1⟩
  have HB := hid (vonto hb hb1)
  have Z1 := (z5_new (w.alloc (.cells #[.int .i64 (x.kd : Int), .string (mkS x.tx), .int .i64 (x.at_ : Int)] 70))).onto hb1
  rw [World.size_alloc] at Z1
  have hal := valloc_bel (Below.refl w1.heap.size w1) (.cells #[.int .i64 T.kd, .int .i64 T.nm, .string T.st, .slice none 0 0, .slice none 0 0] 27)
  have HB2 := hid (vonto HB.out hal)
  obtain ⟨⟨z0, z1, z2, z3, z4⟩, zf⟩ := Z1.onto hal
  clear hal Z1
  clear hb hb1 CS
  unfold vv
  go_wp2_with fail
  refine bodyPost_ret (v := vv T (.slice none 0 0) (.slice none 0 0)) (by simp [results, Tryz.results60, go_sem, vv, z0, z1, z2, z3, z4]) rfl ⟨rfl, ?_⟩
  repeat (first | exact HB2.out | (refine vset_bel ?_ (by show _ ≤ _; simp)))
set_option maxRecDepth 100000 in
set_option maxHeartbeats 2000000 in
theorem jsingle_num (x : Wd) (w : World) (g : x.kd = 3) (hg : Glob w) (hs : (mkS x.tx).size ≤ maxLen) :
    Calls Tryz.prog 60 #[.agg #[.int .i64 (x.kd : Int), .string (mkS x.tx), .int .i64 (x.at_ : Int)]] w fun e w' => e = .returned (vv (numR (mkS x.tx)) (.slice none 0 0) (.slice none 0 0)) ∧ Below w.heap.size w w' := by
  have hb := valloc_bel (valloc_bel (Below.refl w.heap.size w) (.cells #[.int .i64 (x.kd : Int), .string (mkS x.tx), .int .i64 (x.at_ : Int)] 70)) (.cells #[.int .i64 0, .int .i64 0, .string ⟨#[]⟩, .slice none 0 0, .slice none 0 0] 27)
  have hk : ((x.kd : Int) == 3) = true := by rw [g]; rfl
  have hk2 : ((x.kd : Int) == 2) = false := by rw [g]; rfl
  have CS := hid (fun X (hX : Below w.heap.size w X) => vnum_any (mkS x.tx) X (hg.on hX) hs)
  clear g hs
  generalize numR (mkS x.tx) = T at CS ⊢
  generalize numE (mkS x.tx) = z at CS
  go_enter Tryz.func60, Tryz.ntmps60
  go_wp2_with fail
  go_at_call 84
  refine (CS.out _ hb).mono ?_
  rintro e w1 ⟨rfl, hb1⟩
  have HB := hid (vonto hb hb1)
  have Z1 := (z5_new (w.alloc (.cells #[.int .i64 (x.kd : Int), .string (mkS x.tx), .int .i64 (x.at_ : Int)] 70))).onto hb1
  rw [World.size_alloc] at Z1
  have hal := valloc_bel (Below.refl w1.heap.size w1) (.cells #[.int .i64 T.kd, .int .i64 T.nm, .string T.st, .slice none 0 0, .slice none 0 0] 27)
  have HB2 := hid (vonto HB.out hal)
  obtain ⟨⟨z0, z1, z2, z3, z4⟩, zf⟩ := Z1.onto hal
  clear hal Z1
  clear hb hb1 CS
  unfold vv
  go_wp2_with fail
  refine bodyPost_ret (v := vv T (.slice none 0 0) (.slice none 0 0)) (by simp [results, Tryz.results60, go_sem, vv, z0, z1, z2, z3, z4]) rfl ⟨rfl, ?_⟩
  repeat (first | exact HB2.out | (refine vset_bel ?_ (by show _ ≤ _; simp)))
end Go.Proofs.YtkhjahpkbjafaaaGreatDoor
namespace Go.Proofs.YtkhjahpkbjafaaaGreatDoor
open Go.RowKit

set_option maxRecDepth 100000 in
set_option maxHeartbeats 400000 in
theorem vfalse_any (w : World) :
    Calls Tryz.prog 86 #[.bool false] w fun e w' => e = .returned (vv (leafT 1 0 ⟨#[]⟩) (.slice none 0 0) (.slice none 0 0)) ∧ Below w.heap.size w w' := by
  go_enter Tryz.func86, Tryz.ntmps86
  go_wp2_with fail
  refine bodyPost_ret (v := vv (leafT 1 0 ⟨#[]⟩) (.slice none 0 0) (.slice none 0 0)) (by simp [results, Tryz.results86, go_sem, vv, leafT, VT.kd, VT.nm, VT.st]) rfl ⟨rfl, ?_⟩
  repeat (first | exact Below.refl _ _ | apply valloc_bel | (refine vset_bel ?_ (by simp)))
set_option maxRecDepth 100000 in
set_option maxHeartbeats 2000000 in
theorem jsingle_lit (x : Wd) (w : World) (g : x.kd = 4) (hl : litB x.tx = true) :
    Calls Tryz.prog 60 #[.agg #[.int .i64 (x.kd : Int), .string (mkS x.tx), .int .i64 (x.at_ : Int)]] w fun e w' => e = .returned (vv (litT x.tx) (.slice none 0 0) (.slice none 0 0)) ∧ Below w.heap.size w w' := by
  have hb := valloc_bel (valloc_bel (Below.refl w.heap.size w) (.cells #[.int .i64 (x.kd : Int), .string (mkS x.tx), .int .i64 (x.at_ : Int)] 70)) (.cells #[.int .i64 0, .int .i64 0, .string ⟨#[]⟩, .slice none 0 0, .slice none 0 0] 27)
  have hk2 : ((x.kd : Int) == 2) = false := by rw [g]; rfl
  have hk3 : ((x.kd : Int) == 3) = false := by rw [g]; rfl
  unfold litB at hl
  rw [decide_eq_true_eq] at hl
  clear g
  rcases hl with h | h | h
  · have e1 := lit_no (mkS x.tx) [110, 117, 108, 108] (by rw [mkS_list, h]; decide)
    have e2 := lit_is (mkS x.tx) [116, 114, 117, 101] (by rw [mkS_list, h])
    have HT := hid (show litT x.tx = leafT 1 1 ⟨#[]⟩ by rw [h]; rfl)
    clear h
    go_enter Tryz.func60, Tryz.ntmps60
    go_wp2_with fail
    go_at_call 86
    refine (vtrue_any _).mono ?_
    rintro e w1 ⟨rfl, hb1⟩
    have HB := hid (vonto hb hb1)
    have Z1 := (z5_new (w.alloc (.cells #[.int .i64 (x.kd : Int), .string (mkS x.tx), .int .i64 (x.at_ : Int)] 70))).onto hb1
    rw [World.size_alloc] at Z1
    obtain ⟨⟨z0, z1, z2, z3, z4⟩, zf⟩ := Z1
    clear hb hb1
    unfold vv leafT
    simp only [VT.kd, VT.nm, VT.st]
    go_wp2_with fail
    refine bodyPost_ret (v := vv (leafT 1 1 ⟨#[]⟩) (.slice none 0 0) (.slice none 0 0)) (by simp [results, Tryz.results60, go_sem, vv, leafT, VT.kd, VT.nm, VT.st, z0, z1, z2, z3, z4]) rfl ⟨by rw [HT.out], ?_⟩
    repeat (first | exact HB.out | (refine vset_bel ?_ (by show _ ≤ _; simp)))
  · have e1 := lit_no (mkS x.tx) [110, 117, 108, 108] (by rw [mkS_list, h]; decide)
    have e2 := lit_no (mkS x.tx) [116, 114, 117, 101] (by rw [mkS_list, h]; decide)
    have HT := hid (show litT x.tx = leafT 1 0 ⟨#[]⟩ by rw [h]; rfl)
    clear h
    go_enter Tryz.func60, Tryz.ntmps60
    go_wp2_with fail
    go_at_call 86
    refine (vfalse_any _).mono ?_
    rintro e w1 ⟨rfl, hb1⟩
    have HB := hid (vonto hb hb1)
    have Z1 := (z5_new (w.alloc (.cells #[.int .i64 (x.kd : Int), .string (mkS x.tx), .int .i64 (x.at_ : Int)] 70))).onto hb1
    rw [World.size_alloc] at Z1
    obtain ⟨⟨z0, z1, z2, z3, z4⟩, zf⟩ := Z1
    clear hb hb1
    unfold vv leafT
    simp only [VT.kd, VT.nm, VT.st]
    go_wp2_with fail
    refine bodyPost_ret (v := vv (leafT 1 0 ⟨#[]⟩) (.slice none 0 0) (.slice none 0 0)) (by simp [results, Tryz.results60, go_sem, vv, leafT, VT.kd, VT.nm, VT.st, z0, z1, z2, z3, z4]) rfl ⟨by rw [HT.out], ?_⟩
    repeat (first | exact HB.out | (refine vset_bel ?_ (by show _ ≤ _; simp)))
  · have e1 := lit_is (mkS x.tx) [110, 117, 108, 108] (by rw [mkS_list, h])
    have HT := hid (show litT x.tx = zeroT by rw [h]; rfl)
    clear h
    go_enter Tryz.func60, Tryz.ntmps60
    go_wp2_with fail
    go_at_call 85
    refine (vnull_any _).mono ?_
    rintro e w1 ⟨rfl, hb1⟩
    have HB := hid (vonto hb hb1)
    have Z1 := (z5_new (w.alloc (.cells #[.int .i64 (x.kd : Int), .string (mkS x.tx), .int .i64 (x.at_ : Int)] 70))).onto hb1
    rw [World.size_alloc] at Z1
    obtain ⟨⟨z0, z1, z2, z3, z4⟩, zf⟩ := Z1
    clear hb hb1
    unfold vv zeroT
    simp only [VT.kd, VT.nm, VT.st]
    go_wp2_with fail
    refine bodyPost_ret (v := vv zeroT (.slice none 0 0) (.slice none 0 0)) (by simp [results, Tryz.results60, go_sem, vv, zeroT, VT.kd, VT.nm, VT.st, z0, z1, z2, z3, z4]) rfl ⟨by rw [HT.out], ?_⟩
    repeat (first | exact HB.out | (refine vset_bel ?_ (by show _ ≤ _; simp)))
/-- what a word says alone -/
def sgT (x : Wd) : VT := if x.kd = 2 then leafT 4 0 (mkS x.tx) else if x.kd = 3 then numT x.tx else litT x.tx
theorem fine_te {x : Wd} (h : Fine x) (g : x.kd = 2) : teI (mkS x.tx) = 0 := by
  obtain ⟨h1, h2⟩ := h.str g
  unfold teI
  rw [mkS_list, mkS_size, if_pos (vld_mk _ h1.vld), if_neg (by omega)]
theorem jsingle_any (x : Wd) (w : World) (hf : Fine x) (h0 : ¬ x.kd = 0) (h1 : ¬ x.kd = 1) (hg : Glob w) (hs : (mkS x.tx).size ≤ maxLen) :
    Calls Tryz.prog 60 #[.agg #[.int .i64 (x.kd : Int), .string (mkS x.tx), .int .i64 (x.at_ : Int)]] w fun e w' => e = .returned (vv (sgT x) (.slice none 0 0) (.slice none 0 0)) ∧ Below w.heap.size w w' := by
  have h4 := hf.kd
  by_cases g2 : x.kd = 2
  · have := jsingle_str x w g2 hs
    unfold strR at this
    rw [if_pos (fine_te hf g2)] at this
    unfold sgT
    rw [if_pos g2]; exact this
  · by_cases g3 : x.kd = 3
    · have := jsingle_num x w g3 hg hs
      unfold numR at this
      rw [mkS_list, if_pos (hf.num g3)] at this
      unfold sgT
      rw [if_neg g2, if_pos g3]; exact this
    · unfold sgT
      rw [if_neg g2, if_neg g3]
      exact jsingle_lit x w (by omega) (hf.lit (by omega))
theorem sg_hs (w : World) (S : Nat → Prop) (x : Wd) (hs : (mkS x.tx).size ≤ maxLen) : HS w S (sgT x) (.slice none 0 0) (.slice none 0 0) := by
  unfold sgT
  split
  · exact hs_leaf _ _ 4 0 _ (by decide) (by decide) hs
  · split
    · exact num_hs _ _ hs
    · exact lit_hs _ _ hs
/-- the library's variables, elder than the reader -/
def Gb (b : Nat) (w : World) : Prop := ∃ u, Glob u ∧ u.heap.size ≤ b ∧ Below u.heap.size u w
theorem Gb.glob {b : Nat} {w : World} (h : Gb b w) : Glob w := by obtain ⟨u, h1, -, h2⟩ := h; exact h1.on h2
theorem Gb.own {b : Nat} {w w' : World} (h : Gb b w) (ho : Own b w w') : Gb b w' := by
  obtain ⟨u, h1, h2, h3⟩ := h
  exact ⟨u, h1, h2, own_bel h3 ho h2⟩
/-- the program's reader stands ahead of some words -/
structure Aj (w : World) (b : Nat) (t : ByteArray) (v : Value) (ws : List Wd) (n : Nat) : Prop where
  jr : Jr w b t v n
  wm : Wm w b ws v
  ends : EndW ws
  fine : ∀ x ∈ ws, Fine x
  len : ws.length ≤ 100000
  txt : ∀ x ∈ ws, x.tx.length ≤ 65536
  nod : n ≤ 4096
  tsz : t.size ≤ 1000000
  gl : Gb b w
/-- what a call of the program's reader ends in -/
def Rj (b : Nat) (t : ByteArray) (v : Value) (R : Rd) (w : World) (e : Ending) (w' : World) : Prop := match R with
  | .ok T m q => ∃ X Y v', e = .returned (vv T X Y) ∧ Jr w' b t v' m ∧ Wm w' b q v' ∧ blkV v' = blkV v ∧ HS w' (fun k => w.heap.size ≤ k ∧ k < w'.heap.size) T X Y ∧ Own b w w'
  | .bad er at_ => Faulted t er at_ e ∧ Own b w w'
def JvOk (N : Nat) : Prop := ∀ (b : Nat) (t : ByteArray) (v : Value) (ws : List Wd) (n d : Nat) (w : World) (f : Nat), Aj w b t v ws n → d ≤ 1000 → ws.length ≤ N → 2 * ws.length + 1 ≤ f →
    Calls Tryz.prog 41 #[.pointer (some ⟨b, 0, none⟩), .int .i64 (d : Int)] w (Rj b t v (jrV f d n ws) w)
def JlOk (N : Nat) : Prop := ∀ (b : Nat) (t : ByteArray) (v : Value) (ws : List Wd) (n d : Nat) (w : World) (f : Nat), Aj w b t v ws n → d ≤ 32 → ws.length ≤ N → 2 * ws.length + 2 ≤ f →
    Calls Tryz.prog 61 #[.pointer (some ⟨b, 0, none⟩), .int .i64 (d : Int)] w (Rj b t v (if isM 93 ws = true then .ok (listT []) n ws.tail else jrL f d n [] ws) w)
def JpOk (N : Nat) : Prop := ∀ (b : Nat) (t : ByteArray) (v : Value) (ws : List Wd) (n d : Nat) (w : World) (f : Nat), Aj w b t v ws n → d ≤ 32 → ws.length ≤ N → 2 * ws.length + 2 ≤ f →
    Calls Tryz.prog 62 #[.pointer (some ⟨b, 0, none⟩), .int .i64 (d : Int)] w (Rj b t v (if isM 125 ws = true then .ok (mapT []) n ws.tail else jrP f d n [] ws) w)
theorem Jr.same {w w' : World} {b : Nat} {t : ByteArray} {v : Value} {n : Nat} (h : Jr w b t v n) (e : w'.heap[b]? = w.heap[b]?) : Jr w' b t v n := by
  have c : ∀ o, w'.cell? ⟨b, o, none⟩ = w.cell? ⟨b, o, none⟩ := fun o => World.cell?_of_block (w := w) e
  exact ⟨(c 0).trans h.r0, (c 1).trans h.r1, (c 2).trans h.r2, h.row.onto e⟩
/-- words stay where their block stays -/
theorem Wm.stay {w w' : World} {b : Nat} {ws : List Wd} {v : Value} {K : Nat} (h : Wm w b ws v) (hK : blkV v = some K) (e : w'.heap[K]? = w.heap[K]?) : Wm w' b ws v := by
  obtain ⟨o, a, c, h1, h2, h3, h4, h0, h5⟩ := h
  by_cases hl : 0 < ws.length
  · have ho := h4 hl
    subst ho
    rw [h1] at hK
    simp only [blkV, Option.some.injEq] at hK
    have e' : ∀ i o', w'.cell? ⟨(a.add i).block, o', none⟩ = w.cell? ⟨(a.add i).block, o', none⟩ := fun i o' => World.cell?_of_block (w := w) (by show w'.heap[(a.add i).block]? = _; rw [addr_block, hK]; exact e)
    have e2 : ∀ i, w'.cell? (a.add i) = w.cell? (a.add i) := fun i => World.cell?_of_block (w := w) (by rw [addr_block, hK]; exact e)
    exact ⟨some a, a, c, h1, h2, h3, h4, h0, fun i x hx => ⟨(e2 _).trans (h5 i x hx).1, (e' _ _).trans (h5 i x hx).2.1, (e' _ _).trans (h5 i x hx).2.2⟩⟩
  · exact ⟨o, a, c, h1, h2, h3, h4, h0, fun i x hx => absurd (lt_of_some hx) (by omega)⟩
theorem Wm.blk {w : World} {b : Nat} {x : Wd} {r : List Wd} {v : Value} (h : Wm w b (x :: r) v) : ∃ K, blkV v = some K ∧ K < w.heap.size ∧ ¬ K = b := by
  obtain ⟨o, a, c, h1, h2, h3, h4, h0, h5⟩ := h
  have ho := h4 (by simp)
  subst ho
  have hc := (h5 0 x rfl).1
  have := World.block_lt_of_cell? w _ hc
  rw [addr_block] at this
  exact ⟨a.block, by rw [h1]; rfl, this, h0⟩
end Go.Proofs.YtkhjahpkbjafaaaGreatDoor
namespace Go.Proofs.YtkhjahpkbjafaaaGreatDoor
open Go.RowKit

theorem beg_no {x : Wd} (h : begB x = false) : x.kd = 0 ∨ (x.kd = 1 ∧ x.tx ≠ [123] ∧ x.tx ≠ [91]) := by
  unfold begB at h
  rw [decide_eq_false_iff_not] at h
  exact Classical.not_not.1 h
theorem beg_yes {x : Wd} (h : begB x = true) : ¬ (x.kd = 0 ∨ (x.kd = 1 ∧ x.tx ≠ [123] ∧ x.tx ≠ [91])) := by
  unfold begB at h
  rwa [decide_eq_true_eq] at h
section
variable {g d n : Nat} {x : Wd} {r : List Wd}
theorem jrV_bad (h : begB x = false) : jrV (g + 1) d n (x :: r) = .bad 4 x.at_ := by rw [jrV, if_pos (beg_no h)]
theorem jrV_lim (h : begB x = true) (hl : 32 < d ∨ 4096 < n + 1) : jrV (g + 1) d n (x :: r) = .bad 2 x.at_ := by rw [jrV, if_neg (beg_yes h), if_pos hl]
theorem jrV_sg (h : begB x = true) (hl : ¬ (32 < d ∨ 4096 < n + 1)) (h1 : ¬ x.kd = 1) (h4 : x.kd ≤ 4) : jrV (g + 1) d n (x :: r) = .ok (sgT x) (n + 1) r := by
  rw [jrV, if_neg (beg_yes h), if_neg hl]
  unfold sgT
  by_cases g2 : x.kd = 2
  · rw [if_pos g2, if_pos g2]
  · by_cases g3 : x.kd = 3
    · rw [if_neg g2, if_pos g3, if_neg g2, if_pos g3]
    · have g4 : x.kd = 4 := by
        have := beg_yes h
        have h0 : ¬ x.kd = 0 := fun e => this (Or.inl e)
        omega
      rw [if_neg g2, if_neg g3, if_pos g4, if_neg g2, if_neg g3]
theorem jrV_list (h : begB x = true) (hl : ¬ (32 < d ∨ 4096 < n + 1)) (h1 : x.kd = 1) (ht : x.tx = [91]) : jrV (g + 1) d n (x :: r) = if isM 93 r = true then .ok (listT []) (n + 1) r.tail else jrL g d (n + 1) [] r := by
  rw [jrV, if_neg (beg_yes h), if_neg hl, if_neg (by omega), if_neg (by omega), if_neg (by omega), if_pos ht]
theorem jrV_map (h : begB x = true) (hl : ¬ (32 < d ∨ 4096 < n + 1)) (h1 : x.kd = 1) (ht : ¬ x.tx = [91]) : jrV (g + 1) d n (x :: r) = if isM 125 r = true then .ok (mapT []) (n + 1) r.tail else jrP g d (n + 1) [] r := by
  rw [jrV, if_neg (beg_yes h), if_neg hl, if_neg (by omega), if_neg (by omega), if_neg (by omega), if_neg ht]
end
/-- what a call ended in, put into a box of one's own -/
theorem rj_put {b K : Nat} {t : ByteArray} {v v' : Value} {R : Rd} {w W w6 : World} {e : Ending} (h : Rj b t v' R W e w6) (ho : Own b w W) (hb : b < w.heap.size) (hW : w.heap.size < W.heap.size) (hv : blkV v' = blkV v) (hK : blkV v = some K) (hKw : K < w.heap.size) :
    (∃ T o n c o' n' c', e = .returned (vv T (.slice o n c) (.slice o' n' c')) ∧ Own b W w6 ∧ Rj b t v R w (.returned (vv T (.slice o n c) (.slice o' n' c'))) (put5 w6 w.heap.size 0 (.int .i64 T.kd) (.int .i64 T.nm) (.string T.st) (.slice o n c) (.slice o' n' c'))) ∨
    (∃ er a, Faulted t er a e ∧ Rj b t v R w e w6) := by
  cases R with
  | ok T m q =>
    obtain ⟨X, Y, v2, rfl, h1, h2, h3, h4, h5⟩ := h
    obtain ⟨o, n, c, o', n', c', rfl, rfl⟩ := hv_slices h4.hv
    have hbk : blkV v2 = some K := h3.trans (hv.trans hK)
    exact Or.inl ⟨T, o, n, c, o', n', c', rfl, h5, _, _, v2, rfl, h1.same (put5_heap _ _ _ _ _ _ _ _ _ (by omega)), h2.stay hbk (put5_heap _ _ _ _ _ _ _ _ _ (by omega)), h3.trans hv, hs_put hW h4 (by omega), Own.put (Own.trans ho h5) (Nat.le_refl _) _ _ _ _ _⟩
  | bad er a => exact Or.inr ⟨er, a, h.1, h.1, Own.trans ho h.2⟩
set_option maxRecDepth 100000 in
set_option maxHeartbeats 4000000 in
theorem jvalue8 (N : Nat) (hL : JlOk N) (hP : JpOk N) : JvOk (N + 1) := by
  intro b t v ws n d w f hA hd hN hf
  have HL := hid hL
  have HPP := hid hP
  have HA := hid hA
  obtain ⟨x, r, rfl⟩ := hA.ends.ne
  obtain ⟨g, rfl⟩ : ∃ g, f = g + 1 := ⟨f - 1, by omega⟩
  obtain ⟨K, hK, hKw, hKb⟩ := hA.wm.blk
  have HK := hid hK
  obtain ⟨a, n', c, rfl⟩ : ∃ a n' c, v = .slice (some a) n' c := by
    obtain ⟨o, a, cap, e, -, -, h3, -, -⟩ := hA.wm
    rw [h3 (by simp)] at e
    exact ⟨_, _, _, e⟩
  obtain ⟨rfl, h1, h2, -, k0, k1, k2⟩ := wm_tail hA.wm
  have HTS : Hid ((mkS x.tx).size ≤ maxLen) := hid (by rw [mkS_size]; have := hA.txt x (List.mem_cons_self ..); unfold maxLen; omega)
  have r1 := hA.jr.r1
  have hbw : b < w.heap.size := hA.jr.row.lt
  have hnod := hA.nod
  have hlen := hA.len
  simp only [List.length_cons] at hlen hN hf
  unfold maxLen at h2
  obtain ⟨R0, hR0⟩ : ∃ R0, R0 = jrV (g + 1) d n (x :: r) := ⟨_, rfl⟩
  rw [← hR0]
  have HJ := hid hR0
  have j0 := keepCell (valloc_bel (Below.refl w.heap.size w) (.cells #[.int .i64 0, .int .i64 0, .string ⟨#[]⟩, .slice none 0 0, .slice none 0 0] 27)) k0
  have j1 := keepCell (valloc_bel (Below.refl w.heap.size w) (.cells #[.int .i64 0, .int .i64 0, .string ⟨#[]⟩, .slice none 0 0, .slice none 0 0] 27)) k1
  have j2 := keepCell (valloc_bel (Below.refl w.heap.size w) (.cells #[.int .i64 0, .int .i64 0, .string ⟨#[]⟩, .slice none 0 0, .slice none 0 0] 27)) k2
  clear hL hP hA hR0 hK
  go_enter Tryz.func41, Tryz.ntmps41
  go_upto_region 2 with fail
  have hbel := valloc_bel (valloc_bel (Below.refl w.heap.size w) (.cells #[.int .i64 0, .int .i64 0, .string ⟨#[]⟩, .slice none 0 0, .slice none 0 0] 27)) (.cells #[.int .i64 (x.kd : Int), .string (mkS x.tx), .int .i64 (x.at_ : Int)] 70)
  have Z1 := hid ((z5_new w).onto (valloc_bel (Below.refl _ _) (.cells #[.int .i64 (x.kd : Int), .string (mkS x.tx), .int .i64 (x.at_ : Int)] 70)))
  have m0 : ((w.alloc (.cells #[.int .i64 0, .int .i64 0, .string ⟨#[]⟩, .slice none 0 0, .slice none 0 0] 27)).alloc (.cells #[.int .i64 (x.kd : Int), .string (mkS x.tx), .int .i64 (x.at_ : Int)] 70)).cell? ⟨w.heap.size + 1, 0, none⟩ = some (.int .i64 (x.kd : Int)) := by rw [← World.size_alloc w (.cells #[.int .i64 0, .int .i64 0, .string ⟨#[]⟩, .slice none 0 0, .slice none 0 0] 27)]; simp
  have m1 : ((w.alloc (.cells #[.int .i64 0, .int .i64 0, .string ⟨#[]⟩, .slice none 0 0, .slice none 0 0] 27)).alloc (.cells #[.int .i64 (x.kd : Int), .string (mkS x.tx), .int .i64 (x.at_ : Int)] 70)).cell? ⟨w.heap.size + 1, 1, none⟩ = some (.string (mkS x.tx)) := by rw [← World.size_alloc w (.cells #[.int .i64 0, .int .i64 0, .string ⟨#[]⟩, .slice none 0 0, .slice none 0 0] 27)]; simp
  have m2 : ((w.alloc (.cells #[.int .i64 0, .int .i64 0, .string ⟨#[]⟩, .slice none 0 0, .slice none 0 0] 27)).alloc (.cells #[.int .i64 (x.kd : Int), .string (mkS x.tx), .int .i64 (x.at_ : Int)] 70)).cell? ⟨w.heap.size + 1, 2, none⟩ = some (.int .i64 (x.at_ : Int)) := by rw [← World.size_alloc w (.cells #[.int .i64 0, .int .i64 0, .string ⟨#[]⟩, .slice none 0 0, .slice none 0 0] 27)]; simp
  have R1 := hid (HA.out.jr.onto hbel)
  have WM1 := hid (HA.out.wm.onto hbel)
  have GB1 := hid (HA.out.gl.own (Own.of hbel))
  have OW1 := hid (Own.of (b := b) hbel)
  have hs1 : w.heap.size + 2 ≤ ((w.alloc (.cells #[.int .i64 0, .int .i64 0, .string ⟨#[]⟩, .slice none 0 0, .slice none 0 0] 27)).alloc (.cells #[.int .i64 (x.kd : Int), .string (mkS x.tx), .int .i64 (x.at_ : Int)] 70)).heap.size := by simp
  clear hbel r1 k0 k1 k2 j0 j1 j2
  generalize ((w.alloc (.cells #[.int .i64 0, .int .i64 0, .string ⟨#[]⟩, .slice none 0 0, .slice none 0 0] 27)).alloc (.cells #[.int .i64 (x.kd : Int), .string (mkS x.tx), .int .i64 (x.at_ : Int)] 70)) = W1 at Z1 m0 m1 m2 R1 WM1 GB1 OW1 hs1 ⊢
  go_wp2_with fail
  go_at_call 58
  refine (jbegins_any x W1).mono ?_
  rintro e w2 ⟨rfl, hb2⟩
  have Z2 := hid (Z1.out.onto hb2)
  have p0 := keepCell hb2 m0
  have p1 := keepCell hb2 m1
  have p2 := keepCell hb2 m2
  have R2 := hid (R1.out.onto hb2)
  have WM2 := hid (WM1.out.onto hb2)
  have GB2 := hid (GB1.out.own (Own.of hb2))
  have OW2 := hid (OW1.out.trans (Own.of hb2))
  have hs2 : w.heap.size + 2 ≤ w2.heap.size := by have := hb2.size; omega
  clear hb2 Z1 m0 m1 m2 R1 WM1 GB1 OW1 hs1
  cases hbg : begB x with
  | false =>
    rw [jrV_bad hbg] at HJ
    have CR := hid (jrefuse_any b t (.slice (some a) (r.length + 1) c) n x r 4 w2 R2.out WM2.out HA.out.tsz)
    clear hbg
    go_wp2_with fail
    go_at_call 42
    refine CR.out.mono ?_
    rintro e w3 ⟨hfa, hb3⟩
    have HP : Hid (Rj b t (.slice (some a) (r.length + 1) c) R0 w e w3) := hid (by rw [HJ.out]; exact ⟨hfa, OW2.out.trans (Own.of hb3)⟩)
    unfold Faulted at hfa
    subst hfa
    generalize faultV t (x.at_ : Int) ((4 : Nat) : Int) = fv at HP ⊢
    clear CR hb3
    go_wp2_with fail
    first
    | exact HP.out
    | exact ⟨rfl, HP.out⟩
    | (simp only [bodyPost]; exact HP.out)
  | true =>
    have HBG := hid hbg
    have r2 := R2.out.r2
    have rf := R2.out.row.frozen
    clear hbg
    go_upto_region 5 with fail
    have R3 := hid (show Jr (w2.setCell ⟨b, 2, none⟩ (.int .i64 ((n : Int) + 1))) b t (.slice (some a) (r.length + 1) c) (n + 1) by have := R2.out.set2 (n + 1); simpa using this)
    have O3 := hid (show Own b w (w2.setCell ⟨b, 2, none⟩ (.int .i64 ((n : Int) + 1))) from Own.set OW2.out 2 _)
    have WM3 := hid (WM2.out.own (Own.set (Own.refl b w2) 2 (.int .i64 ((n : Int) + 1))))
    have GB3 := hid (GB2.out.own (Own.set (Own.refl b w2) 2 (.int .i64 ((n : Int) + 1))))
    have Z3 := hid (show Z5 (w2.setCell ⟨b, 2, none⟩ (.int .i64 ((n : Int) + 1))) w.heap.size from Z2.out.far (Own.set (Own.refl b w2) 2 _) (by omega))
    have m0 := (set_other w2 b (w.heap.size + 1) 2 0 (.int .i64 ((n : Int) + 1)) (Or.inl (by omega))).trans p0
    have m1 := (set_other w2 b (w.heap.size + 1) 2 1 (.int .i64 ((n : Int) + 1)) (Or.inl (by omega))).trans p1
    have m2 := (set_other w2 b (w.heap.size + 1) 2 2 (.int .i64 ((n : Int) + 1)) (Or.inl (by omega))).trans p2
    have hs3 : w.heap.size + 2 ≤ (w2.setCell ⟨b, 2, none⟩ (.int .i64 ((n : Int) + 1))).heap.size := by simp; omega
    clear R2 OW2 WM2 GB2 Z2 p0 p1 p2 hs2 r2 rf
    generalize (w2.setCell ⟨b, 2, none⟩ (.int .i64 ((n : Int) + 1))) = W3 at R3 O3 WM3 GB3 Z3 m0 m1 m2 hs3 ⊢
    have r2 := R3.out.r2
    simp only [Int.natCast_add, Int.cast_ofNat_Int] at r2
    by_cases hlim : 32 < d ∨ 4096 < n + 1
    · rw [jrV_lim HBG.out hlim] at HJ
      have CR := hid (jrefuse_any b t (.slice (some a) (r.length + 1) c) (n + 1) x r 2 W3 R3.out WM3.out HA.out.tsz)
      by_cases hd32 : 32 < d
      · clear hlim
        go_wp2_with fail
        go_at_call 42
        refine CR.out.mono ?_
        rintro e w4 ⟨hfa, hb4⟩
        have HP : Hid (Rj b t (.slice (some a) (r.length + 1) c) R0 w e w4) := hid (by rw [HJ.out]; exact ⟨hfa, O3.out.trans (Own.of hb4)⟩)
        unfold Faulted at hfa
        subst hfa
        generalize faultV t (x.at_ : Int) ((2 : Nat) : Int) = fv at HP ⊢
        clear CR hb4
        go_wp2_with fail
        first
        | exact HP.out
        | exact ⟨rfl, HP.out⟩
        | (simp only [bodyPost]; exact HP.out)
      · have hn96 : 4096 < n + 1 := hlim.resolve_left hd32
        clear hlim
        go_wp2_with fail
        go_at_call 42
        refine CR.out.mono ?_
        rintro e w4 ⟨hfa, hb4⟩
        have HP : Hid (Rj b t (.slice (some a) (r.length + 1) c) R0 w e w4) := hid (by rw [HJ.out]; exact ⟨hfa, O3.out.trans (Own.of hb4)⟩)
        unfold Faulted at hfa
        subst hfa
        generalize faultV t (x.at_ : Int) ((2 : Nat) : Int) = fv at HP ⊢
        clear CR hb4
        go_wp2_with fail
        first
        | exact HP.out
        | exact ⟨rfl, HP.out⟩
        | (simp only [bodyPost]; exact HP.out)
    have HLIM := hid hlim
    have hd32 : ¬ 32 < d := fun h => hlim (Or.inl h)
    have hn96 : ¬ 4096 < n + 1 := fun h => hlim (Or.inr h)
    have CS := hid (jstep_any b t (.slice (some a) (r.length + 1) c) (n + 1) x r W3 R3.out WM3.out)
    clear hlim
    go_wp2_with fail
    go_at_call 59
    refine CS.out.mono ?_
    rintro e w4 ⟨rfl, v4, hr4, hw4, ho4, hv4⟩
    have Z4 := hid (Z3.out.far ho4 (by omega))
    have p0 := ho4.cell m0 (by show ¬ w.heap.size + 1 = b; omega)
    have p1 := ho4.cell m1 (by show ¬ w.heap.size + 1 = b; omega)
    have p2 := ho4.cell m2 (by show ¬ w.heap.size + 1 = b; omega)
    have R4 := hid hr4
    have WM4 := hid hw4
    have GB4 := hid (GB3.out.own ho4)
    have O4 := hid (O3.out.trans ho4)
    have HV4 := hid hv4
    have hs4 : w.heap.size + 2 ≤ w4.heap.size := by have := ho4.size; omega
    clear hr4 hw4 ho4 hv4 CS R3 O3 WM3 GB3 Z3 m0 m1 m2 hs3 r2
    by_cases g1 : x.kd = 1
    · have H0 : Hid (¬ x.kd = 0) := hid (by omega)
      have hk1 : ((x.kd : Int) != 1) = false := by rw [g1]; rfl
      have HAJ : Hid (Aj w4 b t v4 r (n + 1)) := hid ⟨R4.out, WM4.out, HA.out.ends.tail H0.out, fun y hy => HA.out.fine y (List.mem_cons_of_mem _ hy), by omega, fun y hy => HA.out.txt y (List.mem_cons_of_mem _ hy), by omega, HA.out.tsz, GB4.out⟩
      by_cases ht : x.tx = [91]
      · rw [jrV_list HBG.out HLIM.out g1 ht] at HJ
        have e1 := lit_is (mkS x.tx) [91] (by rw [mkS_list]; exact ht)
        have CL := hid (HL.out b t v4 r (n + 1) d w4 g HAJ.out (by omega) (by omega) (by omega))
        rw [← HJ.out] at CL
        clear g1 ht
        go_wp2_with fail
        go_at_call 61
        refine CL.out.mono ?_
        intro e w5 hp5
        rcases rj_put hp5 O4.out hbw (by omega) HV4.out HK.out hKw with ⟨T4, o4, n4, c4, o5, n5, c5, rfl, ho5, hp6⟩ | ⟨er, at_, hfa, hp6⟩
        · have Z5' := hid (Z4.out.far ho5 (by omega))
          have HP5 := hid hp6
          clear hp5 hp6 CL ho5
          simp only [vv]
          obtain ⟨⟨q0, q1, q2, q3, q4⟩, qf⟩ := Z5'.out
          go_wp2_with fail
          obtain ⟨s0, s1, s2, s3, s4⟩ := z5_put Z5'.out T4 (.slice o4 n4 c4) (.slice o5 n5 c5)
          simp only [put5, Nat.zero_add] at s0 s1 s2 s3 s4
          refine bodyPost_ret (v := vv T4 (.slice o4 n4 c4) (.slice o5 n5 c5)) (by simp [results, Tryz.results41, go_sem, vv, s0, s1, s2, s3, s4]) rfl ?_
          exact HP5.out
        · have HP := hid hp6
          unfold Faulted at hfa
          subst hfa
          generalize faultV t (at_ : Int) (er : Int) = fv at HP ⊢
          clear hp5 hp6 CL
          go_wp2_with fail
          first
          | exact HP.out
          | exact ⟨rfl, HP.out⟩
          | (simp only [bodyPost]; exact HP.out)
      · rw [jrV_map HBG.out HLIM.out g1 ht] at HJ
        have e1 := lit_no (mkS x.tx) [91] (by rw [mkS_list]; exact ht)
        have CL := hid (HPP.out b t v4 r (n + 1) d w4 g HAJ.out (by omega) (by omega) (by omega))
        rw [← HJ.out] at CL
        clear g1 ht
        go_wp2_with fail
        go_at_call 62
        refine CL.out.mono ?_
        intro e w5 hp5
        rcases rj_put hp5 O4.out hbw (by omega) HV4.out HK.out hKw with ⟨T4, o4, n4, c4, o5, n5, c5, rfl, ho5, hp6⟩ | ⟨er, at_, hfa, hp6⟩
        · have Z5' := hid (Z4.out.far ho5 (by omega))
          have HP5 := hid hp6
          clear hp5 hp6 CL ho5
          simp only [vv]
          obtain ⟨⟨q0, q1, q2, q3, q4⟩, qf⟩ := Z5'.out
          go_wp2_with fail
          obtain ⟨s0, s1, s2, s3, s4⟩ := z5_put Z5'.out T4 (.slice o4 n4 c4) (.slice o5 n5 c5)
          simp only [put5, Nat.zero_add] at s0 s1 s2 s3 s4
          refine bodyPost_ret (v := vv T4 (.slice o4 n4 c4) (.slice o5 n5 c5)) (by simp [results, Tryz.results41, go_sem, vv, s0, s1, s2, s3, s4]) rfl ?_
          exact HP5.out
        · have HP := hid hp6
          unfold Faulted at hfa
          subst hfa
          generalize faultV t (at_ : Int) (er : Int) = fv at HP ⊢
          clear hp5 hp6 CL
          go_wp2_with fail
          first
          | exact HP.out
          | exact ⟨rfl, HP.out⟩
          | (simp only [bodyPost]; exact HP.out)
    · have hk1 : ((x.kd : Int) != 1) = true := by simp; omega
      rw [jrV_sg HBG.out HLIM.out g1 (HA.out.fine x (List.mem_cons_self ..)).kd] at HJ
      have CS := hid (jsingle_any x w4 (HA.out.fine x (List.mem_cons_self ..)) (fun e => beg_yes HBG.out (Or.inl e)) g1 GB4.out.glob HTS.out)
      have HSG : Hid (∀ X S, HS X S (sgT x) (.slice none 0 0) (.slice none 0 0)) := hid (fun X S => sg_hs X S x HTS.out)
      clear g1
      go_wp2_with fail
      go_at_call 60
      refine CS.out.mono ?_
      rintro e w5 ⟨rfl, hb5⟩
      have Z5' := hid (Z4.out.onto hb5)
      have R5 := hid (R4.out.onto hb5)
      have WM5 := hid (WM4.out.onto hb5)
      have O5 := hid (O4.out.trans (Own.of hb5))
      clear hb5 CS
      generalize (sgT x) = TT at HJ HSG
      simp only [vv]
      obtain ⟨⟨q0, q1, q2, q3, q4⟩, qf⟩ := Z5'.out
      go_wp2_with fail
      obtain ⟨s0, s1, s2, s3, s4⟩ := z5_put Z5'.out TT (.slice none 0 0) (.slice none 0 0)
      simp only [put5, Nat.zero_add] at s0 s1 s2 s3 s4
      refine bodyPost_ret (v := vv TT (.slice none 0 0) (.slice none 0 0)) (by simp [results, Tryz.results41, go_sem, vv, s0, s1, s2, s3, s4]) rfl ?_
      rw [HJ.out]
      exact ⟨_, _, v4, rfl, R5.out.same (put5_heap _ _ _ _ _ _ _ _ _ (by omega)), WM5.out.stay (HV4.out.trans HK.out) (put5_heap _ _ _ _ _ _ _ _ _ (by omega)), HV4.out, HSG.out _ _, Own.put O5.out (Nat.le_refl _) _ _ _ _ _⟩
end Go.Proofs.YtkhjahpkbjafaaaGreatDoor
namespace Go.Proofs.YtkhjahpkbjafaaaGreatDoor
open Go.RowKit

section
variable {σ : Type}
/-- where reading parts stands: the reader, its words' block, what is read so far -/
structure Pv (w0 : World) (b : Nat) (t : ByteArray) (K : Nat) (Acc : σ → Nat → World → Prop) (s : σ) (n : Nat) (ws : List Wd) (v : Value) (W : World) : Prop where
  aj : Aj W b t v ws n
  blk : blkV v = some K
  acc : Acc s n W
  own : Own b w0 W
/-- what reading a part, or parts, ends in -/
def Ps (w0 : World) (b : Nat) (t : ByteArray) (K : Nat) (Acc : σ → Nat → World → Prop) (R : Sd σ) (e : Ending) (w' : World) : Prop := match R with
  | .ok s m q => e = .returned (.tuple #[]) ∧ ∃ v', Pv w0 b t K Acc s m q v' w'
  | .bad er a => Faulted t er a e ∧ Own b w0 w'
end
/-- how long a slice is -/
def lenV : Value → Nat
  | .slice _ n _ => n
  | _ => 0
theorem Wm.len {w : World} {b : Nat} {ws : List Wd} {v : Value} (h : Wm w b ws v) : lenV v = ws.length := by
  obtain ⟨o, a, c, h1, -⟩ := h
  rw [h1]; rfl
theorem Pv.cell {σ : Type} {w0 : World} {b : Nat} {t : ByteArray} {K : Nat} {Acc : σ → Nat → World → Prop} {s : σ} {n : Nat} {ws : List Wd} {v : Value} {W : World} (h : Pv w0 b t K Acc s n ws v W) : lenV ((W.cell? ⟨b, 1, none⟩).getD undef) = ws.length := by
  rw [h.aj.jr.r1]; exact h.aj.wm.len
/-- behind a mark -/
theorem Pv.tail {σ : Type} {w0 : World} {b : Nat} {t : ByteArray} {K : Nat} {Acc : σ → Nat → World → Prop} {s : σ} {n : Nat} {x : Wd} {r : List Wd} {v v' : Value} {W W' : World} {c : UInt8} (h : Pv w0 b t K Acc s n (x :: r) v W) (hacc : ∀ s n W W', Acc s n W → Own b W W' → Acc s n W') (hm : isM c (x :: r) = true) (h1 : Jr W' b t v' n) (h2 : Wm W' b r v') (h3 : Own b W W') (h4 : blkV v' = blkV v) : Pv w0 b t K Acc s n r v' W' := by
  have hl := h.aj.len
  simp only [List.length_cons] at hl
  exact ⟨⟨h1, h2, isM_tail h.aj.ends hm, fun y hy => h.aj.fine y (List.mem_cons_of_mem _ hy), by omega, fun y hy => h.aj.txt y (List.mem_cons_of_mem _ hy), h.aj.nod, h.aj.tsz, h.aj.gl.own h3⟩, h4.trans h.blk, hacc _ _ _ _ h.acc h3, h.own.trans h3⟩
set_option maxRecDepth 100000 in
set_option maxHeartbeats 4000000 in
theorem jparts_any {σ : Type} (F : Nat) (caps : Array Value) (c : UInt8) (S : Nat → σ → Nat → List Wd → Sd σ) (N : Nat) (w0 : World) (b : Nat) (t : ByteArray) (K : Nat) (Acc : σ → Nat → World → Prop)
    (eF : ∀ args w, (callFunc F args).run Tryz.prog w = .ok (.enter F args) w)
    (hacc : ∀ s n W W', Acc s n W → Own b W W' → Acc s n W')
    (hF : ∀ (s : σ) (n : Nat) (ws : List Wd) (v : Value) (W : World) (f : Nat), Pv w0 b t K Acc s n ws v W → ws.length ≤ N → 2 * ws.length + 1 ≤ f → Calls Tryz.prog F caps W (Ps w0 b t K Acc (S f s n ws)))
    (hS : ∀ (s : σ) (n : Nat) (ws : List Wd) (f : Nat) (s' : σ) (m : Nat) (q : List Wd), EndW ws → S f s n ws = .ok s' m q → q.length < ws.length)
    (s : σ) (n : Nat) (ws : List Wd) (v : Value) (W : World) (f : Nat) (hP : Pv w0 b t K Acc s n ws v W) (hN : ws.length ≤ N) (hf : 2 * ws.length + 2 ≤ f) :
    Calls Tryz.prog 87 #[.pointer (some ⟨b, 0, none⟩), .string ⟨#[c]⟩, .func (.func F) #[] caps] W (Ps w0 b t K Acc (if isM c ws = true then .ok s n ws.tail else ptM c S f s n ws)) := by
  have HACC := hid hacc
  have HF := hid hF
  have HS := hid hS
  have HP := hid hP
  obtain ⟨x, r, rfl⟩ := hP.aj.ends.ne
  obtain ⟨R0, hR0⟩ : ∃ R0, R0 = (if isM c (x :: r) = true then Sd.ok s n (x :: r).tail else ptM c S f s n (x :: r)) := ⟨_, rfl⟩
  rw [← hR0]
  have HR := hid hR0
  have CP := hid (jpasses_any b t v n x r c W hP.aj.jr hP.aj.wm)
  obtain ⟨T, hT⟩ : ∃ T : ByteArray, T = ⟨#[c]⟩ := ⟨_, rfl⟩
  have HTT := hid hT
  rw [← hT] at CP ⊢
  clear hacc hF hS hP hR0 hT
  go_enter Tryz.func87, Tryz.ntmps87
  go_wp2_with fail
  go_at_call 114
  refine CP.out.mono ?_
  rintro e w1 ⟨rfl, ⟨hm, rfl⟩ | ⟨hm, v1, h1, h2, h3, h4⟩⟩
  rotate_left
  · rw [if_pos hm] at HR
    have HPV := hid (HP.out.tail HACC.out hm h1 h2 h3 h4)
    rw [hm]
    clear hm h1 h2 h3 h4 CP
    go_wp2_with fail
    first | go_end0 | refine bodyPost_ret (results_none rfl _ _ _) rfl ?_
    rw [HR.out]
    exact ⟨rfl, v1, HPV.out⟩
  rw [if_neg (by rw [hm]; decide)] at HR
  rw [hm]
  obtain ⟨f1, rfl⟩ : ∃ f1, f = f1 + 1 := ⟨f - 1, by omega⟩
  have CF := hid (HF.out s n (x :: r) v w1 f1 HP.out hN (by omega))
  have HS1 := hid (fun s' m q => HS.out s n (x :: r) f1 s' m q HP.out.aj.ends)
  clear hm CP
  go_wp2_with fail
  go_at_fn F
  refine CF.out.mono ?_
  intro e w2 hps
  cases hst : S f1 s n (x :: r) with
  | bad er a =>
    rw [hst] at hps
    rw [ptM_bad c S hst] at HR
    have hfa := hps.1
    have HPP : Hid (Ps w0 b t K Acc R0 e w2) := hid (by rw [HR.out]; exact hps)
    unfold Faulted at hfa
    subst hfa
    generalize faultV t (a : Int) (er : Int) = fv at HPP ⊢
    clear hps CF hst
    go_wp2_with fail
    first
    | exact HPP.out
    | exact ⟨rfl, HPP.out⟩
    | (simp only [bodyPost]; exact HPP.out)
  | ok s1 m1 q1 =>
    rw [hst] at hps
    rw [ptM_ok c S hst] at HR
    obtain ⟨rfl, v2, hpv⟩ := hps
    have HPV := hid hpv
    have hql := HS1.out _ _ _ hst
    clear hpv CF hst HS1
    go_wp2_with fail
    go_loopw [11, 12, 13, 14, 15, 16, 17, 18] (fun _ _ _ _ _ _ _ _ wr => ∃ (s2 : σ) (m2 g : Nat) (q2 : List Wd) (v3 : Value), q2.length ≤ N ∧ 2 * q2.length + 1 ≤ g ∧ Hid (Pv w0 b t K Acc s2 m2 q2 v3 wr) ∧ Hid (R0 = ptL c S g s2 m2 q2)) (fun _ _ _ _ _ _ _ _ wr => lenV ((wr.cell? ⟨b, 1, none⟩).getD undef))
    case atStart => exact ⟨s1, m1, f1, q1, v2, by omega, by omega, HPV, HR⟩
    case round =>
      obtain ⟨s2, m2, g, q2, v3, hqN, hqg, HPV2, HR2⟩ := hrel
      have HLN := hid HPV2.out.cell
      obtain ⟨y, r2, rfl⟩ := HPV2.out.aj.ends.ne
      simp only [List.length_cons] at hqN hqg
      have CP := hid (jpasses_any b t v3 m2 y r2 c wr HPV2.out.aj.jr HPV2.out.aj.wm)
      rw [← HTT.out] at CP
      clear HPV HR HP
      go_wp2_with fail
      go_at_call 114
      refine CP.out.mono ?_
      rintro e w3 ⟨rfl, ⟨hm, rfl⟩ | ⟨hm, v4, h1, h2, h3, h4⟩⟩
      rotate_left
      · unfold ptL at HR2
        rw [if_pos hm] at HR2
        have HPV3 := hid (HPV2.out.tail HACC.out hm h1 h2 h3 h4)
        rw [hm]
        clear hm h1 h2 h3 h4 CP
        go_wp2_with fail
        first | go_end0 | refine bodyPost_ret (results_none rfl _ _ _) rfl ?_
        rw [HR2.out]
        exact ⟨rfl, v4, HPV3.out⟩
      unfold ptL at HR2
      rw [if_neg (by rw [hm]; decide)] at HR2
      rw [hm]
      clear hm CP
      cases h44 : isM 44 (y :: r2) with
      | false =>
        rw [if_neg (by rw [h44]; decide)] at HR2
        have CW := hid (jwant_no b t v3 m2 y r2 44 w3 HPV2.out.aj.jr HPV2.out.aj.wm HPV2.out.aj.tsz h44)
        clear h44
        go_wp2_with fail
        go_at_call 92
        refine CW.out.mono ?_
        rintro e w4 ⟨hfa, hb4⟩
        have HPP : Hid (Ps w0 b t K Acc R0 e w4) := hid (by rw [HR2.out]; exact ⟨hfa, HPV2.out.own.trans (Own.of hb4)⟩)
        unfold Faulted at hfa
        subst hfa
        generalize faultV t (y.at_ : Int) ((4 : Nat) : Int) = fv at HPP ⊢
        clear CW hb4
        go_wp2_with fail
        first
        | exact HPP.out
        | exact ⟨rfl, HPP.out⟩
        | (simp only [bodyPost]; exact HPP.out)
      | true =>
        rw [if_pos h44] at HR2
        have CW := hid (jwant_yes b t v3 m2 y r2 44 w3 HPV2.out.aj.jr HPV2.out.aj.wm h44)
        have HM := hid h44
        clear h44
        go_wp2_with fail
        go_at_call 92
        refine CW.out.mono ?_
        rintro e w4 ⟨rfl, v4, h1, h2, h3, h4⟩
        have HPV4 := hid (HPV2.out.tail HACC.out HM.out h1 h2 h3 h4)
        clear h1 h2 h3 h4 CW
        obtain ⟨g1, rfl⟩ : ∃ g1, g = g1 + 1 := ⟨g - 1, by omega⟩
        have CF := hid (HF.out s2 m2 r2 v4 w4 g1 HPV4.out (by omega) (by omega))
        have HS2 := hid (fun s' m q => HS.out s2 m2 r2 g1 s' m q HPV4.out.aj.ends)
        simp only [List.tail_cons] at HR2
        go_wp2_with fail
        go_at_fn F
        refine CF.out.mono ?_
        intro e w5 hps
        cases hst : S g1 s2 m2 r2 with
        | bad er a =>
          rw [hst] at hps
          rw [ptM_bad c S hst] at HR2
          have hfa := hps.1
          have HPP : Hid (Ps w0 b t K Acc R0 e w5) := hid (by rw [HR2.out]; exact hps)
          unfold Faulted at hfa
          subst hfa
          generalize faultV t (a : Int) (er : Int) = fv at HPP ⊢
          clear hps CF hst
          go_wp2_with fail
          first
          | exact HPP.out
          | exact ⟨rfl, HPP.out⟩
          | (simp only [bodyPost]; exact HPP.out)
        | ok s3 m3 q3 =>
          rw [hst] at hps
          rw [ptM_ok c S hst] at HR2
          obtain ⟨rfl, v5, hpv⟩ := hps
          have HPV5 := hid hpv
          have hql2 := HS2.out _ _ _ hst
          clear hpv CF hst HS2
          go_wp2_with fail
          go_roundw
          case rel => exact ⟨s3, m3, g1, q3, v5, by omega, by omega, HPV5, HR2⟩
          case measure =>
            rw [HPV5.out.cell, HLN.out]
            simp only [List.length_cons]
            omega
end Go.Proofs.YtkhjahpkbjafaaaGreatDoor
