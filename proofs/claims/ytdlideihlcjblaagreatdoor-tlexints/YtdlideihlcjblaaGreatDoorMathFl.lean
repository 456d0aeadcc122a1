/- Floats put together: plain mathematics. -/
import Derived.Test.YtdlideihlcjblaaGreatDoorTlK
namespace Go.Proofs.YtdlideihlcjblaaGreatDoor

theorem cdn_all {p : UInt8 → Bool} : ∀ (W : List UInt8) (q : Bool) (rest : List UInt8), (∀ b ∈ W, p b = true) → (∀ c m, rest = c :: m → p c = false ∧ c.toNat ≠ 95) → cdN p q (W ++ rest) = W.length
  | [], q, rest, _, h => by
    rw [List.nil_append]
    cases rest with
    | nil => rfl
    | cons c m =>
      obtain ⟨h1, h2⟩ := h c m rfl
      rw [cdN, h1, decide_eq_false h2]; simp
  | b :: W, q, rest, hW, h => by
    rw [List.cons_append, cdN, hW b (List.mem_cons_self ..), Bool.true_or, if_pos rfl, cdn_all W true rest (fun x hx => hW x (List.mem_cons_of_mem _ hx)) h, List.length_cons]; omega
theorem isD_dg {b : UInt8} (h : isD b = true) : dgB 10 b = true := by
  rw [dgB_ten]; unfold dgI; unfold isD at h; simp at h ⊢; exact h
theorem all_dg {W : List UInt8} (h : W.all isD = true) : ∀ b ∈ W, dgB 10 b = true := fun b hb => isD_dg (List.all_eq_true.1 h b hb)
theorem dgs_all {W : List UInt8} (h : W.all isD = true) (h0 : ¬ W = []) : dgs 10 W = true := by
  have := cdn_all W false [] (all_dg h) (fun c m e => by cases e)
  rw [List.append_nil] at this
  unfold dgs; rw [this]; simp [h0]
theorem hd_pt : dgB 10 46 = false := by decide
/-- e and its digits -/
theorem pw_txt (c : UInt8) (hc : c.toNat = 101 ∨ c.toNat = 69) (k : Int) : pwB (c :: txt k) = true := by
  unfold pwB
  rw [bt_cons, decide_eq_true hc, Bool.true_and]
  show dgs 10 (unS (txt k)) = true
  have e : unS (txt k) = natD (mag k) := by
    rw [txt_form]
    by_cases h : k < 0
    · rw [decide_eq_true h]; rfl
    · rw [decide_eq_false h]
      show unS (natD (mag k)) = _
      obtain ⟨a, t, ea, ha⟩ := natD_head (mag k)
      unfold unS sgA
      rw [ea, bt_cons]
      have := isD_bd ha
      rw [decide_eq_false (by omega)]; rfl
  rw [e]; exact dgs_all (natD_all _) (natD_ne _)
theorem e_no {c : UInt8} (hc : c.toNat = 101 ∨ c.toNat = 69) : dgB 10 c = false ∧ c.toNat ≠ 95 := by
  refine ⟨?_, by omega⟩
  rw [dgB_ten]; unfold dgI; simp; omega
theorem bt_head {W rest : List UInt8} (h0 : ¬ W = []) : bt (W ++ rest) 0 = bt W 0 := by
  cases W with
  | nil => exact absurd rfl h0
  | cons a W => rfl
theorem kd_first {W rest : List UInt8} (hW : W.all isD = true) (h0 : ¬ W = []) (h2 : W.length = 1 ∨ ¬ (W.getD 0 0).toNat = 48) (hr : ∀ c m, rest = c :: m → dgB 10 c = false ∧ c.toNat ≠ 95) : cdN (dgB 10) false (W ++ rest) = W.length ∧ ¬ (cdN (dgB 10) false (W ++ rest) = 0 ∨ (1 < cdN (dgB 10) false (W ++ rest) ∧ bt (W ++ rest) 0 = 48)) := by
  have e := cdn_all W false rest (all_dg hW) hr
  refine ⟨e, ?_⟩
  rw [e, bt_head h0]
  have hl : 0 < W.length := List.length_pos_iff.2 h0
  rintro (k | ⟨k1, k2⟩)
  · omega
  · rcases h2 with h | h
    · omega
    · apply h
      cases W with
      | nil => exact absurd rfl h0
      | cons a W => exact k2
theorem kd_dot {W F E : List UInt8} (hW : W.all isD = true) (h0 : ¬ W = []) (h2 : W.length = 1 ∨ ¬ (W.getD 0 0).toNat = 48) (hF : F.all isD = true) (hF0 : ¬ F = []) (hE : E = [] ∨ (pwB E = true ∧ ∃ c P, E = c :: P ∧ (c.toNat = 101 ∨ c.toNat = 69))) : kdN (W ++ (46 :: (F ++ E))) = 3 := by
  obtain ⟨e, hn⟩ := kd_first (rest := 46 :: (F ++ E)) hW h0 h2 (fun c m k => by cases k; exact ⟨hd_pt, by decide⟩)
  have hd : (W ++ (46 :: (F ++ E))).drop (cdN (dgB 10) false (W ++ (46 :: (F ++ E)))) = 46 :: (F ++ E) := by rw [e, List.drop_left]
  have hFE : cdN (dgB 10) false (F ++ E) = F.length := cdn_all F false E (all_dg hF) (fun c m k => by
    rcases hE with h | ⟨-, c', P, h, hc⟩
    · rw [h] at k; cases k
    · rw [h] at k; cases k; exact e_no hc)
  unfold kdN
  rw [if_neg hn, hd, if_neg (by simp)]
  have k1 : kdF (46 :: (F ++ E)) = false := by
    unfold kdF; rw [bt_cons, List.drop_succ_cons, List.drop_zero, hFE]
    have : 0 < F.length := List.length_pos_iff.2 hF0
    exact decide_eq_false (fun k => by omega)
  have k2 : kdR (46 :: (F ++ E)) = E := by
    unfold kdR; rw [bt_cons, if_pos (show (46 : UInt8).toNat = 46 from rfl), List.drop_succ_cons, List.drop_zero, hFE, List.drop_left]
  rw [k1, if_neg (by decide), k2, if_neg (by
    rintro ⟨a, b⟩
    rcases hE with h | ⟨h, -⟩
    · exact a h
    · rw [h] at b; cases b)]
theorem kd_e {W E : List UInt8} (hW : W.all isD = true) (h0 : ¬ W = []) (h2 : W.length = 1 ∨ ¬ (W.getD 0 0).toNat = 48) (hp : pwB E = true) (hE : ∃ c P, E = c :: P ∧ (c.toNat = 101 ∨ c.toNat = 69)) : kdN (W ++ E) = 3 := by
  obtain ⟨c, P, rfl, hc⟩ := hE
  obtain ⟨e, hn⟩ := kd_first (rest := c :: P) hW h0 h2 (fun c' m k => by cases k; exact e_no hc)
  have hd : (W ++ (c :: P)).drop (cdN (dgB 10) false (W ++ (c :: P))) = c :: P := by rw [e, List.drop_left]
  unfold kdN
  rw [if_neg hn, hd, if_neg (by simp)]
  have k1 : kdF (c :: P) = false := by unfold kdF; rw [bt_cons]; exact decide_eq_false (fun k => by omega)
  have k2 : kdR (c :: P) = c :: P := by unfold kdR; rw [bt_cons, if_neg (by omega)]
  rw [k1, if_neg (by decide), k2, hp, if_neg (by rintro ⟨-, b⟩; cases b)]
theorem cln_self {l : List UInt8} (h : ∀ b ∈ l, b.toNat ≠ 95) : clnS l = l := by
  unfold clnS
  rw [List.filter_eq_self]
  intro b hb; unfold noS; simp [h b hb]
theorem inf_no {a : UInt8} {l : List UInt8} (h : isD a = true) : infB (a :: l) = false := by
  unfold infB
  have := isD_bd h
  exact decide_eq_false (by rintro (k | k) <;> (have e := congrArg (fun x => bt x 0) k; simp only [bt_cons] at e; have : (105 : UInt8).toNat = 105 := rfl; have : (110 : UInt8).toNat = 110 := rfl; omega))
/-- a num that is its own text -/
theorem tn_num {l : List UInt8} (h1 : infB (unS l) = false) (h2 : bsB l = 0) (h3 : kdN (unS l) = 3) (hc : clnS l = l) (hn : numB (noP l) = true) (hi : intB (noP l) = false) : tnR l = leafT 3 0 (mkS (noP l)) ∧ tnE l = 0 := by
  unfold tnR tnE
  rw [h1, h2, h3]
  show nuR l = _ ∧ nuE l = 0
  unfold nuR nuE
  rw [hc, hn, if_pos rfl, if_pos rfl]
  refine ⟨?_, rfl⟩
  unfold numR
  rw [mkS_list, hn, hi]; rfl
end Go.Proofs.YtdlideihlcjblaaGreatDoor
