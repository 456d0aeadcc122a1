/- Plain mathematics: words of JSON are such that a value can be made of them. -/
import Derived.Test.YtbeolgnognhfpaaGreatDoorMathLexL
import Derived.Test.YtbeolgnognhfpaaGreatDoorMathJ
import Derived.Test.YtbeolgnognhfpaaGreatDoorRef8All
namespace Go.Proofs.YtbeolgnognhfpaaGreatDoor
open Go.RowKit

theorem vl_one {l : List UInt8} (h : tkN l ≠ 0) : Vl (l.take (tkN l)) := by
  have e : tkN (l.take (tkN l)) = tkN l := tk_local h (by rw [List.take_take]; simp)
  refine .cons _ (by rw [e]; exact h) ?_
  rw [e, List.drop_eq_nil_of_le (List.length_take_le _ _)]
  exact .nil
theorem ltr_vl {r : Int} (h : goodB r = true) : Vl (ltr r) := by
  have hs : (strOfNums (enc r)).data.toList = (encI r).map ub := by rw [← ByteArray.toList_eq]; exact str_enc r h
  have k := (tk_enc r h []).2.1
  rw [List.append_nil] at k
  unfold ltr
  rw [hs]
  have hlen : 0 < (encI r).length := by unfold encI; (repeat' split) <;> simp
  refine .cons _ (by rw [k]; omega) ?_
  rw [k, List.drop_eq_nil_of_le (by simp)]
  exact .nil
theorem nmV_small (toml : Bool) (b : Nat) : nmV toml b < 128 ∨ nmV toml b = 256 := by
  unfold nmV; (repeat' split) <;> simp
theorem escU_vl {l : List UInt8} {n : Nat} : Vl (escU false l n).1 := by
  unfold escU
  split
  · rename_i h; exact ltr_vl h.2
  · rename_i h
    split
    · rename_i h2
      obtain ⟨-, h3, h4, -, -, h5, h6⟩ := h2
      refine ltr_vl ?_
      unfold goodB
      rw [decide_eq_true_eq]
      omega
    · exact .nil
theorem js_vl {l : List UInt8} (hn : 0 < (jsP l).2) : Vl (jsP l).1 := by
  unfold jsP at hn ⊢
  split
  · rename_i h0
    rw [if_pos h0] at hn
    unfold escP at hn ⊢
    split
    · rename_i h1
      refine vl_ascii (fun b hb => ?_)
      rw [List.mem_singleton.1 hb]
      have h2 : nmV false (bt l 1) < 128 := (nmV_small false (bt l 1)).resolve_right (by omega)
      rw [UInt8.toNat_ofNat']
      omega
    · rename_i h1
      rw [if_neg h1] at hn
      split
      · rename_i h2; exact absurd h2.2 (by decide)
      · rename_i h2
        rw [if_neg h2] at hn
        split
        · exact escU_vl
        · exact .nil
  · rename_i h0
    rw [if_neg h0] at hn
    split
    · exact .nil
    · rename_i h1
      rw [if_neg h1] at hn
      exact vl_one (by unfold plP at hn; simp only at hn; omega)
theorem rd_vl {T : List UInt8} : ∀ (f p : Nat) (acc o : List UInt8) (nx : Nat), rd (oE 34) jsP T f p acc = (o, nx, -1) → Vl acc → Vl o
  | 0, p, acc, o, nx, h, _ => by rw [rd] at h; injection h with h1 h2; injection h2 with h2 h3; omega
  | f + 1, p, acc, o, nx, h, ha => by
    rw [rd] at h
    split at h
    · injection h with h1 h2; injection h2 with h2 h3; omega
    · split at h
      · injection h with h1 h2
        rw [← h1]
        have : (oE 34 (T.drop p)).1 = [] := by unfold oE; split <;> rfl
        rw [this, List.append_nil]; exact ha
      · split at h
        · injection h with h1 h2; injection h2 with h2 h3; omega
        · rename_i h3
          exact rd_vl f _ _ o nx h (ha.app (js_vl (by omega)))
/-- a word that a value takes -/
structure Fine (x : Wd) : Prop where
  kd : x.kd ≤ 4
  str : x.kd = 2 → Vl x.tx ∧ x.tx.length ≤ 4096
  num : x.kd = 3 → numB x.tx = true
  lit : x.kd = 4 → litB x.tx = true
theorem lw_fine (T : List UInt8) (i : Nat) (h : (lw T i).er = 0) (h9 : ¬ (lw T i).kd = 9) (a : Nat) : Fine ⟨(lw T i).kd, (lw T i).tx, a⟩ := by
  unfold lw at h h9 ⊢
  cases hb : T[i]? with
  | none => rw [hb] at h; simp at h
  | some c =>
    rw [hb] at h h9
    simp only at h h9 ⊢
    split at h
    · rename_i h1; rw [if_pos h1] at h9; exact absurd rfl h9
    · rename_i h1
      rw [if_neg h1]
      rw [if_neg h1] at h9
      split at h
      · rename_i h2; rw [if_pos h2]; exact ⟨by simp, by simp, by simp, by simp⟩
      · rename_i h2
        rw [if_neg h2]
        rw [if_neg h2] at h9
        split at h
        · rename_i h3
          rw [if_pos h3]
          unfold lwS at h ⊢
          split at h
          · simp at h
          · rename_i h4
            rw [if_neg h4]
            split at h
            · simp at h
            · rename_i h5
              rw [if_neg h5]
              refine ⟨by simp, fun _ => ⟨?_, by simp only; omega⟩, by simp, by simp⟩
              show Vl (unqJ T i).1
              unfold unqJ at h4 ⊢
              split at h4
              · rename_i h6
                rw [if_pos h6]
                unfold rdA at h4 ⊢
                have h7 := (rd_third (E := oE 34) (P := jsP) (T := T) (T.length + 1) ((i : Int).toNat + 1) []).resolve_right h4
                exact rd_vl (T.length + 1) ((i : Int).toNat + 1) [] _ (rd (oE 34) jsP T (T.length + 1) ((i : Int).toNat + 1) []).2.1 (by rw [← h7]) .nil
              · rename_i h6
                rw [if_neg h6]
                exact .nil
        · rename_i h3
          rw [if_neg h3]
          rw [if_neg h3] at h9
          split at h
          · rename_i h4
            rw [if_pos h4]
            unfold lwN at h ⊢
            split at h
            · simp at h
            · rename_i h5
              rw [if_neg h5]
              split at h
              · simp at h
              · rename_i h6
                rw [if_neg h6]
                split at h
                · simp at h
                · rename_i h7
                  rw [if_neg h7]
                  refine ⟨by simp, by simp, fun _ => ?_, by simp⟩
                  show numB ((T.drop i).take (run numC (T.drop i))) = true
                  have g6 : pOk ((T.drop i).take (run numC (T.drop i))) = true := by simpa using h6
                  have g7 : pwOk (pP ((T.drop i).take (run numC (T.drop i)))) = true := by simpa using h7
                  unfold numB
                  rw [g6, g7]
                  have := List.length_take_le (run numC (T.drop i)) (T.drop i)
                  simp only [Bool.true_and, decide_eq_true_eq]
                  omega
          · rename_i h4
            rw [if_neg h4]
            unfold lwL at h ⊢
            split at h
            · rename_i h5
              rw [if_pos h5]
              exact ⟨by simp, by simp, by simp, fun _ => h5⟩
            · simp at h
theorem lx_fine (T : List UInt8) : ∀ (f i : Nat) (acc ws : List Wd) (a : Nat), lx T f i acc = (ws, 0, a) → (∀ x ∈ acc, Fine x) → ∀ x ∈ ws, Fine x
  | 0, i, acc, ws, a, h, _ => by rw [lx] at h; simp at h
  | f + 1, i, acc, ws, a, h, hA => by
    rw [lx] at h
    split at h
    · injection h with h1 h2
      subst h1
      intro x hx
      rcases List.mem_append.1 hx with h | h
      · exact hA x h
      · rw [List.mem_singleton.1 h]; exact ⟨by simp, by simp, by simp, by simp⟩
    · split at h
      · rename_i he
        injection h with h1 h2
        injection h2 with h2 h3
        exact absurd h2 he
      · rename_i he
        split at h
        · exact lx_fine T f _ acc ws a h hA
        · rename_i h9
          exact lx_fine T f _ _ ws a h (fun x hx => by
            rcases List.mem_append.1 hx with h | h
            · exact hA x h
            · rw [List.mem_singleton.1 h]; exact lw_fine T i (Classical.not_not.1 he) h9 i)
theorem cut_fine {T : List UInt8} (h : (cutA T).2.1 = 0) : ∀ x ∈ (cutA T).1, Fine x := by
  unfold cutA at h ⊢
  split at h
  · simp at h
  · rename_i h1
    rw [if_neg h1]
    split at h
    · simp at h
    · rename_i h2
      rw [if_neg h2]
      have hp2 : lx T (T.length + 1) 0 [] = ((lx T (T.length + 1) 0 []).1, 0, (lx T (T.length + 1) 0 []).2.2) := by
        generalize lx T (T.length + 1) 0 [] = p at h ⊢
        obtain ⟨p1, p2, p3⟩ := p
        simp only at h
        rw [h]
      exact lx_fine T _ _ _ _ _ hp2 (fun x hx => by simp at hx)
end Go.Proofs.YtbeolgnognhfpaaGreatDoor
