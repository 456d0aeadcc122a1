/- What is written is read back; what is cut off is wrong; each letter is said by escapes: plain mathematics. -/
import Derived.Test.YtkhjahpkbjafaaaGreatDoorUEscRQ2
import Derived.Test.YtkhjahpkbjafaaaGreatDoorUPlaceAll
namespace Go.Proofs.YtkhjahpkbjafaaaGreatDoor
open Go.RowKit

theorem ltr_small (b : Nat) (h : b < 128) : ltr (b : Int) = [UInt8.ofNat b] := by
  unfold ltr enc encI
  rw [good_yes (by omega) (by omega) (by omega), if_pos rfl, if_pos (by omega), strOfNums_data']
  simp
theorem hx_cd (n : Nat) (h : n < 256) : hexB [48, 48, hxD (n / 16), hxD (n % 16)] = true ∧ hexF [48, 48, hxD (n / 16), hxD (n % 16)] = n := by
  revert n; decide +kernel
theorem cdI_u (n : Nat) (h : n < 256) (m : List UInt8) : cdI ([92, 117, 48, 48, hxD (n / 16), hxD (n % 16)] ++ m) 2 4 = n := by
  have e : (([92, 117, 48, 48, hxD (n / 16), hxD (n % 16)] ++ m).drop 2).take 4 = [48, 48, hxD (n / 16), hxD (n % 16)] := rfl
  unfold cdI
  rw [e, if_pos ⟨by simp, (hx_cd n h).1⟩, (hx_cd n h).2]
theorem esc_two (toml : Bool) (c : UInt8) (m : List UInt8) (h : nmV toml c.toNat < 256) : escP toml ([92, c] ++ m) = ([UInt8.ofNat (nmV toml c.toNat)], 2) := by
  have e : bt ([92, c] ++ m) 1 = c.toNat := rfl
  unfold escP
  rw [e, if_pos h]
theorem esc_six (toml : Bool) (n : Nat) (h : n < 128) (m : List UInt8) : escP toml ([92, 117, 48, 48, hxD (n / 16), hxD (n % 16)] ++ m) = ([UInt8.ofNat n], 6) := by
  rw [esc_u toml _ rfl]
  have hc := cdI_u n (by omega) m
  unfold escU
  rw [hc, if_pos ⟨by omega, good_yes (by omega) (by omega) (by omega)⟩, ltr_small n h]
theorem head_take {l : List UInt8} (h : 0 < l.length) : l.take 1 = [UInt8.ofNat (bt l 0)] := by
  cases l with
  | nil => simp at h
  | cons a t => rw [bt_cons]; simp
/-- what is written of a letter, with whatever behind it, is read as that letter -/
theorem back_step (toml : Bool) (l m : List UInt8) (h0 : tkN l ≠ 0) :
    (if toml = true then oeP (qst toml l ++ m) else jsP (qst toml l ++ m)) = (l.take (tkN l), (qst toml l).length) ∧ bt (qst toml l ++ m) 0 ≠ 34 ∧ 0 < (qst toml l).length := by
  have hll : 0 < l.length := by have := tkN_le l; omega
  by_cases hw : 1 < tkN l ∨ bt l 0 = 127 ∧ toml = false
  · have hq := qst_as (toml := toml) h0 hw
    have hlen : (l.take (tkN l)).length = tkN l := by rw [List.length_take]; have := tkN_le l; omega
    have hst : stp l = tkN l := by unfold stp; omega
    have htk : tkN (l.take (tkN l) ++ m) = tkN l := by
      have h1 := tk_cut l hll
      rw [hst] at h1
      rw [tkN_more _ _ (by rw [h1]; exact h0), h1]
    have hb : bt (l.take (tkN l) ++ m) 0 = bt l 0 := by
      rw [bt_app _ _ _ (by rw [hlen]; omega)]
      unfold bt
      rw [List.getElem?_take_of_lt (by omega)]
    have hbig : 127 ≤ bt l 0 ∧ bt l 0 < 256 := by
      refine ⟨?_, bt_in hll⟩
      by_cases h1 : bt l 0 < 128
      · rw [tk_ascii h1] at hw; omega
      · omega
    have hpl : plP (l.take (tkN l) ++ m) = (l.take (tkN l), tkN l) := by
      unfold plP
      rw [htk, List.take_append_of_le_length (by omega), List.take_take, Nat.min_self]
    rw [hq]
    refine ⟨?_, by rw [hb]; omega, by omega⟩
    rw [hlen]
    cases toml with
    | false =>
      rw [if_neg (by decide)]
      unfold jsP
      rw [hb, if_neg (by omega), if_neg (by omega), hpl]
    | true =>
      rw [if_pos rfl]
      have h127 : bt l 0 ≠ 127 := by
        rcases hw with h | ⟨-, h⟩
        · intro hc; rw [tk_ascii (by omega)] at h; omega
        · cases h
      unfold oeP opP
      rw [hb, if_neg (by omega), if_neg (by omega), hpl]
  · have h1 : tkN l = 1 := by omega
    have hsm : bt l 0 < 128 := tk_small h0 (by omega)
    have hq := qst_small (toml := toml) h0 hsm (fun h => hw (Or.inr h))
    rw [hq, h1, head_take hll]
    obtain ⟨b, hb⟩ : ∃ b, bt l 0 = b := ⟨_, rfl⟩
    rw [hb] at hsm ⊢
    have h127 : b = 127 → toml = true := by
      intro h
      cases toml with
      | true => rfl
      | false => exact absurd (Or.inr ⟨by omega, rfl⟩) hw
    clear hq hw h1 h0 hll hb
    have fin : ∀ (q : List UInt8), bt (q ++ m) 0 = 92 → 0 < q.length → escP toml (q ++ m) = ([UInt8.ofNat b], q.length) →
        (if toml = true then oeP (q ++ m) else jsP (q ++ m)) = ([UInt8.ofNat b], q.length) ∧ bt (q ++ m) 0 ≠ 34 ∧ 0 < q.length := by
      intro q e1 e2 e3
      refine ⟨?_, by omega, e2⟩
      cases toml with
      | false => rw [if_neg (by decide)]; unfold jsP; rw [if_pos e1, e3]
      | true => rw [if_pos rfl]; unfold oeP; rw [if_pos e1, e3]
    unfold qbB
    by_cases c1 : b = 34 ∨ b = 92
    · rw [if_pos c1]
      refine fin [92, UInt8.ofNat b] rfl (by simp) ?_
      have e : (UInt8.ofNat b).toNat = b := by simp; omega
      have hn : nmV toml b = b := by unfold nmV; rcases c1 with h | h <;> subst h <;> simp
      rw [esc_two toml _ m (by rw [e, hn]; omega), e, hn]; rfl
    · rw [if_neg c1]
      by_cases e8 : b = 8
      · rw [if_pos e8]; subst e8; exact fin [92, 98] rfl (by simp) (by rw [esc_two toml 98 m (by cases toml <;> decide)]; cases toml <;> rfl)
      · rw [if_neg e8]
        by_cases e9 : b = 9
        · rw [if_pos e9]; subst e9; exact fin [92, 116] rfl (by simp) (by rw [esc_two toml 116 m (by cases toml <;> decide)]; cases toml <;> rfl)
        · rw [if_neg e9]
          by_cases e10 : b = 10
          · rw [if_pos e10]; subst e10; exact fin [92, 110] rfl (by simp) (by rw [esc_two toml 110 m (by cases toml <;> decide)]; cases toml <;> rfl)
          · rw [if_neg e10]
            by_cases e12 : b = 12
            · rw [if_pos e12]; subst e12; exact fin [92, 102] rfl (by simp) (by rw [esc_two toml 102 m (by cases toml <;> decide)]; cases toml <;> rfl)
            · rw [if_neg e12]
              by_cases e13 : b = 13
              · rw [if_pos e13]; subst e13; exact fin [92, 114] rfl (by simp) (by rw [esc_two toml 114 m (by cases toml <;> decide)]; cases toml <;> rfl)
              · rw [if_neg e13]
                by_cases ct : b < 32 ∨ b = 127
                · rw [if_pos ct]
                  exact fin [92, 117, 48, 48, hxD (b / 16), hxD (b % 16)] rfl (by simp) (esc_six toml b hsm m)
                · rw [if_neg ct]
                  have e : bt ([UInt8.ofNat b] ++ m) 0 = b := by
                    show (UInt8.ofNat b).toNat = b
                    simp; omega
                  have hp : plP ([UInt8.ofNat b] ++ m) = ([UInt8.ofNat b], 1) := by unfold plP; rw [tk_ascii (by rw [e]; exact hsm)]; rfl
                  refine ⟨?_, by rw [e]; omega, by simp⟩
                  cases toml with
                  | false => rw [if_neg (by decide)]; unfold jsP; rw [e, if_neg (by omega), if_neg (by omega), hp]; rfl
                  | true => rw [if_pos rfl]; unfold oeP opP; rw [e, if_neg (by omega), if_neg (by omega), hp]; rfl
def pcB (toml : Bool) : List UInt8 → List UInt8 × Nat := if toml = true then oeP else jsP
theorem pcB_at (toml : Bool) (l : List UInt8) : pcB toml l = if toml = true then oeP l else jsP l := by unfold pcB; cases toml <;> rfl
/-- what is written of letters is read back, wherever it stands -/
theorem rd_back (toml : Bool) (s M N : List UInt8) (hv : ∀ j < cnt s, tkN (s.drop (pos s j)) ≠ 0) :
    ∀ k ≤ cnt s, ∃ f, rdA (oE 34) (pcB toml) (M ++ qtA toml s ++ N) (M.length + 1) = rd (oE 34) (pcB toml) (M ++ qtA toml s ++ N) f (M.length + (qtK toml s k).length) (s.take (pos s k)) ∧ (M ++ qtA toml s ++ N).length < M.length + (qtK toml s k).length + f := by
  intro k
  induction k with
  | zero =>
    intro _
    exact ⟨(M ++ qtA toml s ++ N).length + 1, rfl, by omega⟩
  | succ k ih =>
    intro hk
    obtain ⟨f, h1, h2⟩ := ih (by omega)
    have hsplit : ∀ j ≤ cnt s, ∃ r, qtA toml s = qtK toml s j ++ r ∧ (j < cnt s → ∃ r', r = qst toml (s.drop (pos s j)) ++ r') := by
      intro j hj
      have hq : ∀ d j, j + d = cnt s → ∃ r, qtA toml s = qtK toml s j ++ r ∧ (j < cnt s → ∃ r', r = qst toml (s.drop (pos s j)) ++ r') := by
        intro d
        induction d with
        | zero => intro j hj; refine ⟨[34], ?_, fun h => by omega⟩; unfold qtA; rw [show cnt s = j by omega]
        | succ d ih =>
          intro j hj
          obtain ⟨r, hr, -⟩ := ih (j + 1) (by omega)
          exact ⟨qst toml (s.drop (pos s j)) ++ r, by rw [hr, qtK_succ, List.append_assoc], fun _ => ⟨r, rfl⟩⟩
      exact hq (cnt s - j) j (by omega)
    obtain ⟨r, hr, hr'⟩ := hsplit k (by omega)
    obtain ⟨r', rfl⟩ := hr' (by omega)
    have hdrop : (M ++ qtA toml s ++ N).drop (M.length + (qtK toml s k).length) = qst toml (s.drop (pos s k)) ++ (r' ++ N) := by
      rw [hr]
      simp only [List.append_assoc]
      rw [List.drop_append, List.drop_of_length_le (by omega), Nat.add_sub_cancel_left, List.drop_append, List.drop_of_length_le (Nat.le_refl _), Nat.sub_self, List.drop_zero, List.nil_append, List.nil_append]
    obtain ⟨b1, b2, b3⟩ := back_step toml (s.drop (pos s k)) (r' ++ N) (hv k (by omega))
    rw [← pcB_at] at b1
    have hlt : M.length + (qtK toml s k).length < (M ++ qtA toml s ++ N).length := by
      have h8 := congrArg List.length hdrop
      rw [List.length_drop] at h8
      have h9 : (qst toml (s.drop (pos s k)) ++ (r' ++ N)).length = (qst toml (s.drop (pos s k))).length + (r' ++ N).length := List.length_append
      omega
    obtain ⟨f', h3, h4⟩ := rd_step (E := oE 34) (P := pcB toml) (acc := s.take (pos s k)) h2 hlt (by rw [hdrop]; exact oE_no b2) (by rw [hdrop, b1]; exact b3)
    rw [hdrop, b1] at h3 h4
    refine ⟨f', ?_, ?_⟩
    · rw [h1, h3, qtK_succ, List.length_append, Nat.add_assoc]
      congr 1
      have hpk : pos s (k + 1) = pos s k + tkN (s.drop (pos s k)) := by
        have := hv k (by omega)
        simp only [pos, stp]; omega
      rw [hpk, List.take_add]
    · have h5 : (M ++ qtA toml s ++ N).length < M.length + (qtK toml s k).length + (qst toml (s.drop (pos s k))).length + f' := h4
      have e : (qtK toml s (k + 1)).length = (qtK toml s k).length + (qst toml (s.drop (pos s k))).length := by rw [qtK_succ, List.length_append]
      omega
theorem rd_whole (toml : Bool) (s M N : List UInt8) (hv : ∀ j < cnt s, tkN (s.drop (pos s j)) ≠ 0) :
    rdA (oE 34) (pcB toml) (M ++ qtA toml s ++ N) (M.length + 1) = (s, M.length + (qtA toml s).length, -1) := by
  obtain ⟨f, h1, h2⟩ := rd_back toml s M N hv (cnt s) (Nat.le_refl _)
  have hdrop : (M ++ qtA toml s ++ N).drop (M.length + (qtK toml s (cnt s)).length) = [34] ++ N := by
    unfold qtA
    simp only [List.append_assoc]
    rw [List.drop_append, List.drop_of_length_le (by omega), Nat.add_sub_cancel_left, List.drop_append, List.drop_of_length_le (Nat.le_refl _), Nat.sub_self, List.drop_zero, List.nil_append, List.nil_append]
  have hE : oE 34 ([34] ++ N) = ([], 1) := oE_yes rfl
  have hlt : M.length + (qtK toml s (cnt s)).length < (M ++ qtA toml s ++ N).length := by
    have h8 := congrArg List.length hdrop
    rw [List.length_drop] at h8
    have h9 : ([34] ++ N).length = 1 + N.length := by rw [List.length_append]; rfl
    omega
  rw [h1, rd_stop h2 hlt (by rw [hdrop, hE]; decide), hdrop, hE, (cnt_has s).1, List.take_length, List.append_nil]
  have : (qtA toml s).length = (qtK toml s (cnt s)).length + 1 := by unfold qtA; simp
  rw [this]; rfl
end Go.Proofs.YtkhjahpkbjafaaaGreatDoor
