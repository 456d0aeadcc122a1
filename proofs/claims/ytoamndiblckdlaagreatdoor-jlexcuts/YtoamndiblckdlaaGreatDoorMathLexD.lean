/- Plain mathematics: the model's decoder and the letters that a text begins with. -/
import Derived.Test.YtoamndiblckdlaaGreatDoorMathUtf
import Derived.Lib.MapLaws
namespace Go.Proofs.YtoamndiblckdlaaGreatDoor
open Go.RowKit

theorem tkN_c (a : UInt8) (t : List UInt8) : tkN (a :: t) = if tkOk a t = true then begN a.toNat else 0 := rfl
theorem tkR_c (a : UInt8) (t : List UInt8) : tkR (a :: t) = if tkOk a t = true then fol (begR a.toNat) (t.take (begN a.toNat - 1)) else 0 := rfl
theorem tk_short {a : UInt8} {t : List UInt8} (h : t.length + 1 < begN a.toNat) : tkN (a :: t) = 0 := by
  have : decide (begN a.toNat ≠ 0 ∧ begN a.toNat ≤ t.length + 1) = false := decide_eq_false (by omega)
  rw [tkN_c]; unfold tkOk; rw [this]; rfl
theorem tk_ok {a : UInt8} {t u : List UInt8} {n r : Nat} (hn : begN a.toNat = n) (hr : begR a.toNat = r) (h0 : n ≠ 0) (hl : n ≤ t.length + 1) (hu : t.take (n - 1) = u) : tkOk a t = (u.all cont && (goodN (fol r u) && decide (wdN (fol r u) = n))) := by
  have : decide (n ≠ 0 ∧ n ≤ t.length + 1) = true := decide_eq_true ⟨h0, hl⟩
  unfold tkOk; rw [hn, hr, hu, this, Bool.true_and]
theorem tk_n1 {a : UInt8} {t : List UInt8} (h : a.toNat < 128) : tkN (a :: t) = 1 ∧ tkR (a :: t) = a.toNat := by
  have hb : begN a.toNat = 1 := by unfold begN; rw [if_pos h]
  have hr : begR a.toNat = a.toNat := by unfold begR; rw [if_pos h]
  have ok : tkOk a t = true := by
    unfold tkOk; rw [hb, hr]
    have hf : fol a.toNat (t.take (1 - 1)) = a.toNat := by simp [fol]
    rw [hf]
    have g1 : goodN a.toNat = true := by unfold goodN; exact decide_eq_true (by omega)
    have g2 : wdN a.toNat = 1 := by unfold wdN; rw [if_pos h]
    rw [g1, g2]; simp
  rw [tkN_c, tkR_c, if_pos ok, if_pos ok, hb, hr]
  simp [fol]
theorem tk_n0 {a : UInt8} {t : List UInt8} (h : (128 ≤ a.toNat ∧ a.toNat < 192) ∨ 248 ≤ a.toNat) : tkN (a :: t) = 0 := by
  have hb : begN a.toNat = 0 := by unfold begN; (repeat' split) <;> omega
  have ok : tkOk a t = false := by unfold tkOk; rw [hb]; simp
  rw [tkN_c, ok]; rfl
theorem beg2 {n : Nat} (h : 192 ≤ n ∧ n < 224) : begN n = 2 ∧ begR n = n - 192 := by
  unfold begN begR; constructor <;> ((repeat' split) <;> omega)
theorem beg3 {n : Nat} (h : 224 ≤ n ∧ n < 240) : begN n = 3 ∧ begR n = n - 224 := by
  unfold begN begR; constructor <;> ((repeat' split) <;> omega)
theorem beg4 {n : Nat} (h : 240 ≤ n ∧ n < 248) : begN n = 4 ∧ begR n = n - 240 := by
  unfold begN begR; constructor <;> ((repeat' split) <;> omega)
theorem cont_iff (b : UInt8) : cont b = decide (b.toNat / 64 = 2) := by
  unfold cont; exact decide_eq_decide.2 (by omega)
/-- the decoder's answer is the letter and its bytes, or the sign of no letter and one byte -/
theorem tk_dec (l : List UInt8) (hne : 0 < l.length) : Lib.decodeL l = if tkN l = 0 then (65533, 1) else (tkR l, tkN l) := by
  rw [Lib.decodeL_N]
  rcases l with _ | ⟨a, t⟩
  · simp at hne
  have k0 := a.toNat_lt
  by_cases h1 : a.toNat < 128
  · obtain ⟨e1, e2⟩ := tk_n1 (t := t) h1
    rw [e1, e2]
    simp only [List.getD_cons_zero]
    unfold Lib.decodeN; rw [if_pos h1]; rfl
  by_cases h2 : (128 ≤ a.toNat ∧ a.toNat < 192) ∨ 248 ≤ a.toNat
  · rw [tk_n0 h2]
    simp only [List.getD_cons_zero, if_true]
    unfold Lib.decodeN
    rw [if_neg h1, if_neg (by omega), if_neg (by omega), if_neg (by omega)]
  by_cases h3 : a.toNat < 224
  · obtain ⟨e1, e2⟩ := beg2 (n := a.toNat) (by omega)
    rcases t with _ | ⟨b, t⟩
    · have : tkN [a] = 0 := tk_short (by rw [e1]; simp)
      rw [this]; unfold Lib.decodeN
      simp only [List.getD_cons_zero, List.getD_cons_succ, List.length_cons, List.length_nil, if_true]
      rw [if_neg h1, if_neg (by omega), if_neg (by omega), if_neg (by omega)]
    have k1 := b.toNat_lt
    have ok : tkOk a (b :: t) = (cont b && (goodN (64 * (a.toNat - 192) + (b.toNat - 128)) && decide (wdN (64 * (a.toNat - 192) + (b.toNat - 128)) = 2))) := by
      rw [tk_ok e1 e2 (by omega) (by rw [List.length_cons]; omega) (u := [b]) rfl, show [b].all cont = cont b from Bool.and_true _]; rfl
    have en : tkN (a :: b :: t) = if tkOk a (b :: t) = true then 2 else 0 := by rw [tkN_c, e1]
    have er : tkR (a :: b :: t) = if tkOk a (b :: t) = true then 64 * (a.toNat - 192) + (b.toNat - 128) else 0 := by rw [tkR_c, e1, e2]; rfl
    rw [en, er, ok]
    simp only [List.getD_cons_zero, List.getD_cons_succ, List.length_cons]
    unfold Lib.decodeN
    rw [if_neg h1, cont_iff]
    by_cases hc : b.toNat / 64 = 2
    · rw [if_pos ⟨by omega, by omega, hc⟩, decide_eq_true hc, Bool.true_and]
      have ev : a.toNat % 32 * 64 + b.toNat % 64 = 64 * (a.toNat - 192) + (b.toNat - 128) := by omega
      rw [ev]
      by_cases hv : 64 * (a.toNat - 192) + (b.toNat - 128) ≥ 128
      · have g1 : goodN (64 * (a.toNat - 192) + (b.toNat - 128)) = true := by unfold goodN; exact decide_eq_true (by omega)
        have g2 : wdN (64 * (a.toNat - 192) + (b.toNat - 128)) = 2 := by unfold wdN; rw [if_neg (by omega), if_pos (by omega)]
        rw [g1, g2, if_pos hv]; simp
      · have g2 : wdN (64 * (a.toNat - 192) + (b.toNat - 128)) = 1 := by unfold wdN; rw [if_pos (by omega)]
        rw [g2, if_neg hv]; simp
    · rw [if_neg (by omega), if_neg (by omega), if_neg (by omega), decide_eq_false hc]; simp
  by_cases h4 : a.toNat < 240
  · obtain ⟨e1, e2⟩ := beg3 (n := a.toNat) (by omega)
    rcases t with _ | ⟨b, _ | ⟨c, t⟩⟩
    · have : tkN [a] = 0 := tk_short (by rw [e1]; simp)
      rw [this]; unfold Lib.decodeN
      simp only [List.getD_cons_zero, List.getD_cons_succ, List.length_cons, List.length_nil, if_true]
      rw [if_neg h1, if_neg (by omega), if_neg (by omega), if_neg (by omega)]
    · have : tkN [a, b] = 0 := tk_short (by rw [e1]; simp)
      rw [this]; unfold Lib.decodeN
      simp only [List.getD_cons_zero, List.getD_cons_succ, List.length_cons, List.length_nil, if_true]
      rw [if_neg h1, if_neg (by omega), if_neg (by omega), if_neg (by omega)]
    have k1 := b.toNat_lt
    have k2 := c.toNat_lt
    have ok : tkOk a (b :: c :: t) = (cont b && cont c && (goodN (64 * (64 * (a.toNat - 224) + (b.toNat - 128)) + (c.toNat - 128)) && decide (wdN (64 * (64 * (a.toNat - 224) + (b.toNat - 128)) + (c.toNat - 128)) = 3))) := by
      rw [tk_ok e1 e2 (by omega) (by rw [List.length_cons, List.length_cons]; omega) (u := [b, c]) rfl, show [b, c].all cont = (cont b && cont c) from congrArg _ (Bool.and_true _)]; rfl
    have en : tkN (a :: b :: c :: t) = if tkOk a (b :: c :: t) = true then 3 else 0 := by rw [tkN_c, e1]
    have er : tkR (a :: b :: c :: t) = if tkOk a (b :: c :: t) = true then 64 * (64 * (a.toNat - 224) + (b.toNat - 128)) + (c.toNat - 128) else 0 := by rw [tkR_c, e1, e2]; rfl
    rw [en, er, ok]
    simp only [List.getD_cons_zero, List.getD_cons_succ, List.length_cons]
    unfold Lib.decodeN
    rw [if_neg h1, if_neg (by omega), cont_iff, cont_iff]
    by_cases hc : b.toNat / 64 = 2 ∧ c.toNat / 64 = 2
    · rw [if_pos ⟨by omega, ⟨by omega, hc.1⟩, by omega, hc.2⟩, decide_eq_true hc.1, decide_eq_true hc.2, Bool.true_and, Bool.true_and]
      have ev : a.toNat % 16 * 4096 + b.toNat % 64 * 64 + c.toNat % 64 = 64 * (64 * (a.toNat - 224) + (b.toNat - 128)) + (c.toNat - 128) := by omega
      rw [ev]
      have hlt : 64 * (64 * (a.toNat - 224) + (b.toNat - 128)) + (c.toNat - 128) < 65536 := by omega
      obtain ⟨V, hV⟩ : ∃ V, 64 * (64 * (a.toNat - 224) + (b.toNat - 128)) + (c.toNat - 128) = V := ⟨_, rfl⟩
      rw [hV] at hlt ⊢
      by_cases hv : V ≥ 2048
      · have g2 : wdN V = 3 := by unfold wdN; rw [if_neg (by omega), if_neg (by omega), if_pos (by omega)]
        rw [g2]
        by_cases hg : V < 55296 ∨ 57343 < V
        · have g1 : goodN V = true := by unfold goodN; exact decide_eq_true (by omega)
          rw [g1, if_pos (by omega)]; simp
        · have g1 : goodN V = false := by unfold goodN; exact decide_eq_false (by omega)
          rw [g1, if_neg (by omega)]; simp
      · have g2 : ¬ wdN V = 3 := by unfold wdN; (repeat' split) <;> omega
        rw [decide_eq_false g2, if_neg (by omega)]; simp
    · rw [if_neg (by omega), if_neg (by omega)]
      have : (decide (b.toNat / 64 = 2) && decide (c.toNat / 64 = 2)) = false := by
        rw [← Bool.decide_and]; exact decide_eq_false hc
      rw [this]; simp
  · obtain ⟨e1, e2⟩ := beg4 (n := a.toNat) (by omega)
    rcases t with _ | ⟨b, _ | ⟨c, _ | ⟨d, t⟩⟩⟩
    · have : tkN [a] = 0 := tk_short (by rw [e1]; simp)
      rw [this]; unfold Lib.decodeN
      simp only [List.getD_cons_zero, List.getD_cons_succ, List.length_cons, List.length_nil, if_true]
      rw [if_neg h1, if_neg (by omega), if_neg (by omega), if_neg (by omega)]
    · have : tkN [a, b] = 0 := tk_short (by rw [e1]; simp)
      rw [this]; unfold Lib.decodeN
      simp only [List.getD_cons_zero, List.getD_cons_succ, List.length_cons, List.length_nil, if_true]
      rw [if_neg h1, if_neg (by omega), if_neg (by omega), if_neg (by omega)]
    · have : tkN [a, b, c] = 0 := tk_short (by rw [e1]; simp)
      rw [this]; unfold Lib.decodeN
      simp only [List.getD_cons_zero, List.getD_cons_succ, List.length_cons, List.length_nil, if_true]
      rw [if_neg h1, if_neg (by omega), if_neg (by omega), if_neg (by omega)]
    have k1 := b.toNat_lt
    have k2 := c.toNat_lt
    have k3 := d.toNat_lt
    have ok : tkOk a (b :: c :: d :: t) = (cont b && (cont c && cont d) && (goodN (64 * (64 * (64 * (a.toNat - 240) + (b.toNat - 128)) + (c.toNat - 128)) + (d.toNat - 128)) && decide (wdN (64 * (64 * (64 * (a.toNat - 240) + (b.toNat - 128)) + (c.toNat - 128)) + (d.toNat - 128)) = 4))) := by
      rw [tk_ok e1 e2 (by omega) (by rw [List.length_cons, List.length_cons, List.length_cons]; omega) (u := [b, c, d]) rfl, show [b, c, d].all cont = (cont b && (cont c && cont d)) from congrArg _ (congrArg _ (Bool.and_true _))]; rfl
    have en : tkN (a :: b :: c :: d :: t) = if tkOk a (b :: c :: d :: t) = true then 4 else 0 := by rw [tkN_c, e1]
    have er : tkR (a :: b :: c :: d :: t) = if tkOk a (b :: c :: d :: t) = true then 64 * (64 * (64 * (a.toNat - 240) + (b.toNat - 128)) + (c.toNat - 128)) + (d.toNat - 128) else 0 := by rw [tkR_c, e1, e2]; rfl
    rw [en, er, ok]
    simp only [List.getD_cons_zero, List.getD_cons_succ, List.length_cons]
    unfold Lib.decodeN
    rw [if_neg h1, if_neg (by omega), if_neg (by omega), cont_iff, cont_iff, cont_iff]
    by_cases hc : b.toNat / 64 = 2 ∧ c.toNat / 64 = 2 ∧ d.toNat / 64 = 2
    · rw [if_pos ⟨by omega, ⟨by omega, hc.1⟩, ⟨by omega, hc.2.1⟩, by omega, hc.2.2⟩, decide_eq_true hc.1, decide_eq_true hc.2.1, decide_eq_true hc.2.2, Bool.true_and, Bool.true_and, Bool.true_and]
      have ev : a.toNat % 8 * 262144 + b.toNat % 64 * 4096 + c.toNat % 64 * 64 + d.toNat % 64 = 64 * (64 * (64 * (a.toNat - 240) + (b.toNat - 128)) + (c.toNat - 128)) + (d.toNat - 128) := by omega
      rw [ev]
      obtain ⟨V, hV⟩ : ∃ V, 64 * (64 * (64 * (a.toNat - 240) + (b.toNat - 128)) + (c.toNat - 128)) + (d.toNat - 128) = V := ⟨_, rfl⟩
      rw [hV]
      by_cases hv : V ≥ 65536
      · have g2 : wdN V = 4 := by unfold wdN; rw [if_neg (by omega), if_neg (by omega), if_neg (by omega)]
        rw [g2]
        by_cases hg : V ≤ 1114111
        · have g1 : goodN V = true := by unfold goodN; exact decide_eq_true (by omega)
          rw [g1, if_pos (by omega)]; simp
        · have g1 : goodN V = false := by unfold goodN; exact decide_eq_false (by omega)
          rw [g1, if_neg (by omega)]; simp
      · have g2 : ¬ wdN V = 4 := by unfold wdN; (repeat' split) <;> omega
        rw [decide_eq_false g2, if_neg (by omega)]; simp
    · rw [if_neg (by omega)]
      have : (decide (b.toNat / 64 = 2) && (decide (c.toNat / 64 = 2) && decide (d.toNat / 64 = 2))) = false := by
        rw [← Bool.decide_and, ← Bool.decide_and]; exact decide_eq_false hc
      rw [this]; simp
/-- the sign of no letter is itself a letter: its three bytes -/
theorem tk_fffd (l : List UInt8) (h : tkN l ≠ 0) : tkR l = 65533 ↔ [239, 191, 189] <+: l := by
  have hne : 0 < l.length := by
    cases l with
    | nil => exact absurd rfl h
    | cons => simp
  have hd := tk_dec l hne
  rw [if_neg h] at hd
  constructor
  · intro hr
    have he := Lib.encode_decode l (by intro e; rw [e] at hne; simp at hne) (by
      rw [hd]; rintro ⟨-, h2⟩
      simp only at h2
      rcases l with _ | ⟨a, t⟩
      · simp at hne
      by_cases h1 : a.toNat < 128
      · have := (tk_n1 (t := t) h1).2; rw [hr] at this; omega
      · have hb : begN a.toNat ≠ 1 := by unfold begN; rw [if_neg h1]; (repeat' split) <;> omega
        have : tkN (a :: t) = begN a.toNat ∨ tkN (a :: t) = 0 := by rw [tkN_c]; split <;> simp
        omega)
    rw [hd] at he
    simp only at he
    rw [hr] at he
    have e2 : Lib.encodeRune ((65533 : Nat) : Int) = [239, 191, 189] := by decide
    rw [e2] at he
    rw [he]; exact List.take_prefix _ _
  · rintro ⟨t, rfl⟩
    have : Lib.decodeL ([239, 191, 189] ++ t) = (65533, 3) := by
      rw [Lib.decodeL_N]
      simp [Lib.decodeN]
    rw [this] at hd
    exact (Prod.mk.inj hd).1.symm
theorem tk_pre (l : List UInt8) (h : [239, 191, 189] <+: l) : tkN l = 3 := by
  obtain ⟨t, rfl⟩ := h
  have hd := tk_dec ([239, 191, 189] ++ t) (by simp)
  have : Lib.decodeL ([239, 191, 189] ++ t) = (65533, 3) := by
    rw [Lib.decodeL_N]
    simp [Lib.decodeN]
  rw [this] at hd
  split at hd
  · have := (Prod.mk.inj hd).2; omega
  · exact (Prod.mk.inj hd).2.symm
end Go.Proofs.YtoamndiblckdlaaGreatDoor
