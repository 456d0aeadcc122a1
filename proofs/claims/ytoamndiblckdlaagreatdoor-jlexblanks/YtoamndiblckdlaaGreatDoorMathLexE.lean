/- Plain mathematics of JSON's words: a number alone between blanks. -/
import Derived.Test.YtoamndiblckdlaaGreatDoorJxTwo
import Derived.Test.YtoamndiblckdlaaGreatDoorMathJoin
namespace Go.Proofs.YtoamndiblckdlaaGreatDoor
open Go.RowKit

theorem ascii_vld (l : List UInt8) (h : ∀ b ∈ l, b.toNat < 128) : ∀ j < cnt l, tkN (l.drop (pos l j)) ≠ 0 := by
  intro j hj
  have hp := (cnt_has l).2 j hj
  rw [List.drop_eq_getElem_cons hp, (tk_n1 (h _ (List.getElem_mem _))).1]
  decide
theorem ascii_rv (l : List UInt8) (h : ∀ b ∈ l, b.toNat < 128) : rvI l = -1 := rv_yes l (vld_mk l (ascii_vld l h))
theorem run_app {p : UInt8 → Bool} {l m : List UInt8} {b : UInt8} (h : ∀ x ∈ l, p x = true) (hb : p b = false) : run p (l ++ b :: m) = l.length := by
  unfold run
  rw [List.takeWhile_append_of_pos h, List.takeWhile_cons, if_neg (by simp [hb]), List.append_nil]
theorem cut_of_lx {T : List UInt8} (h1 : T.length ≤ 65536) (h2 : rvI T < 0) : cutA T = lx T (T.length + 1) 0 [] := by
  unfold cutA; rw [if_neg (by omega), if_neg (by omega)]
theorem cut_num (S : List UInt8) (s0 : UInt8) (S' : List UInt8) (hS : S = s0 :: S') (h2 : S.length ≤ 390) (hall : ∀ b ∈ S, numC b = true) (h0 : numS s0 = true) :
    (pOk S = false → cutA (32 :: (S ++ [32])) = ([], 4, 1)) ∧ (pOk S = true → pwOk (pP S) = false → cutA (32 :: (S ++ [32])) = ([], 6, 1)) ∧ (pOk S = true → pwOk (pP S) = true → cutA (32 :: (S ++ [32])) = ([⟨3, S, 1⟩, ⟨0, [], S.length + 2⟩], 0, 0)) := by
  obtain ⟨T, hT⟩ : ∃ T, 32 :: (S ++ [32]) = T := ⟨_, rfl⟩
  rw [hT]
  have hl : T.length = S.length + 2 := by rw [← hT]; simp
  have hrv : rvI T = -1 := ascii_rv T (by
    rw [← hT]; intro b hb
    simp only [List.mem_cons, List.mem_append, List.not_mem_nil, or_false] at hb
    rcases hb with rfl | hb | rfl
    · decide
    · exact numC_lt (hall b hb)
    · decide)
  have e1 : T[0]? = some 32 := by rw [← hT]; rfl
  have e2 : T[1]? = some s0 := by rw [← hT, hS]; rfl
  have e3 : T.drop 1 = S ++ [32] := by rw [← hT]; rfl
  have e4 : T[S.length + 1]? = some 32 := by
    rw [← hT, List.getElem?_cons_succ, List.getElem?_append_right (Nat.le_refl _)]; simp
  have hr : run numC (T.drop 1) = S.length := by rw [e3]; exact run_app hall (by decide)
  have hw0 : lw T 0 = ⟨9, [], 1, 0, 0⟩ := lw_bl e1 (by decide)
  have hbl : blB s0 = false := by
    unfold numS at h0; have := of_decide_eq_true h0
    unfold blB; exact decide_eq_false (by omega)
  have hsg : sgnB s0 = false := by
    unfold numS at h0; have := of_decide_eq_true h0
    unfold sgnB; exact decide_eq_false (by omega)
  have hq : s0.toNat ≠ 34 := by unfold numS at h0; have := of_decide_eq_true h0; omega
  have hw1 : lw T 1 = lwN T 1 := lw_nm e2 hbl hsg hq h0
  have hw2 : lw T (S.length + 1) = ⟨9, [], S.length + 1 + 1, 0, 0⟩ := lw_bl e4 (by decide)
  have hP : (T.drop 1).take (run numC (T.drop 1)) = S := by rw [hr, e3]; exact List.take_left
  have hc := cut_of_lx (T := T) (by omega) (by omega)
  obtain ⟨f1, r1, r2⟩ := lx_blank (T := T) (f := T.length + 1) (i := 0) (acc := []) (by omega) (by omega) (by rw [hw0]) (by rw [hw0]) (by rw [hw0]; decide)
  rw [hw0] at r1 r2
  simp only at r1 r2
  have hlw : lw T 1 = if pOk S = false then ⟨0, [], 0, 4, 1⟩ else if pwOk (pP S) = false then ⟨0, [], 0, 6, 1⟩ else ⟨3, S, 1 + S.length, 0, 0⟩ := by
    rw [hw1]; unfold lwN; rw [hP, hr, if_neg (by omega)]
  refine ⟨fun h => ?_, fun h g => ?_, fun h g => ?_⟩
  · rw [if_pos h] at hlw
    rw [hc, r1, lx_bad r2 (by omega) (by rw [hlw]; decide), hlw]
  · rw [if_neg (by rw [h]; decide), if_pos g] at hlw
    rw [hc, r1, lx_bad r2 (by omega) (by rw [hlw]; decide), hlw]
  · rw [if_neg (by rw [h]; decide), if_neg (by rw [g]; decide)] at hlw
    obtain ⟨f2, r3, r4⟩ := lx_word (T := T) (f := f1) (i := 1) (acc := []) r2 (by omega) (by rw [hlw]) (by rw [hlw]; simp) (by rw [hlw]; simp only; rw [hS, List.length_cons]; omega)
    rw [hlw] at r3 r4
    simp only at r3 r4
    rw [Nat.add_comm 1 S.length] at r3 r4
    obtain ⟨f3, r5, r6⟩ := lx_blank (T := T) (f := f2) (i := S.length + 1) (acc := [⟨3, S, 1⟩]) (by omega) (by omega) (by rw [hw2]) (by rw [hw2]) (by rw [hw2]; simp only; omega)
    rw [hw2] at r5 r6
    simp only at r5 r6
    rw [hc, r1, r3]
    simp only [List.nil_append]
    rw [r5, lx_end (by omega) (by omega) (by omega), hl]; rfl
end Go.Proofs.YtoamndiblckdlaaGreatDoor
