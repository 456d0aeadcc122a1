import Derived.Test.YtjbccmnmcjmooaaDoorMathDecAll
import Derived.Lib.IndexAny
import Derived.Test.YtjbccmnmcjmooaaDoorMathUtf
import Derived.Lib.MapLaws
/- Plain mathematics of a number's row: with noughts for the digits behind e it has a number's form just if the row has. -/
/- Plain mathematics: the model's decoder and the letters that a text begins with. -/
namespace Go.Proofs.YtjbccmnmcjmooaaDoor
open Go.RowKit

/-- no e -/
def notE (b : UInt8) : Bool := !(decide (b.toNat = 101) || decide (b.toNat = 69))
/-- nought for a digit -/
def zd (b : UInt8) : UInt8 := if isD b = true then 48 else b
/-- a row with noughts for the digits behind e -/
def wpow (l : List UInt8) : List UInt8 := l.takeWhile notE ++ (l.dropWhile notE).map zd
theorem isD_notE {b : UInt8} (h : isD b = true) : notE b = true := by
  have := isD_bd h
  unfold notE; simp; omega
theorem zd_not {b : UInt8} (h : isD b = false) : zd b = b := by unfold zd; rw [h]; rfl
theorem isD_zd (b : UInt8) : isD (zd b) = isD b := by
  unfold zd
  by_cases h : isD b = true
  · rw [if_pos h, h]; rfl
  · rw [if_neg h]
theorem wpow_nil : wpow [] = [] := rfl
theorem wpow_cons {b : UInt8} {l : List UInt8} (h : notE b = true) : wpow (b :: l) = b :: wpow l := by
  unfold wpow; rw [List.takeWhile_cons, List.dropWhile_cons, if_pos h, if_pos h]; rfl
theorem wpow_e {b : UInt8} {l : List UInt8} (h : notE b = false) : wpow (b :: l) = b :: l.map zd := by
  unfold wpow; rw [List.takeWhile_cons, List.dropWhile_cons, if_neg (by simp [h]), if_neg (by simp [h])]
  have : isD b = false := by
    cases hd : isD b with
    | false => rfl
    | true => rw [isD_notE hd] at h; cases h
  rw [List.map_cons, zd_not this]; rfl
theorem wpow_head (l : List UInt8) : (wpow l).getD 0 0 = l.getD 0 0 := by
  cases l with
  | nil => rfl
  | cons b l =>
    cases h : notE b with
    | true => rw [wpow_cons h]; rfl
    | false => rw [wpow_e h]; rfl
theorem wpow_empty (l : List UInt8) : wpow l = [] ↔ l = [] := by
  cases l with
  | nil => simp [wpow_nil]
  | cons b l =>
    cases h : notE b with
    | true => rw [wpow_cons h]; simp
    | false => rw [wpow_e h]; simp
theorem wpow_drop {l : List UInt8} (h : notE (l.getD 0 0) = true) : (wpow l).drop 1 = wpow (l.drop 1) := by
  cases l with
  | nil => rfl
  | cons b l => rw [wpow_cons (by simpa using h)]; rfl
theorem wpow_take (l : List UInt8) : (wpow l).takeWhile isD = l.takeWhile isD := by
  induction l with
  | nil => rfl
  | cons b l ih =>
    cases h : notE b with
    | true => rw [wpow_cons h, List.takeWhile_cons, List.takeWhile_cons, ih]
    | false =>
      have : ¬ isD b = true := fun hd => by rw [isD_notE hd] at h; cases h
      rw [wpow_e h, List.takeWhile_cons, List.takeWhile_cons, if_neg this, if_neg this]
theorem wpow_dropD (l : List UInt8) : (wpow l).dropWhile isD = wpow (l.dropWhile isD) := by
  induction l with
  | nil => rfl
  | cons b l ih =>
    cases hd : isD b with
    | true => rw [wpow_cons (isD_notE hd), List.dropWhile_cons, List.dropWhile_cons, if_pos hd, if_pos hd, ih]
    | false =>
      have h2 : ¬ isD b = true := by simp [hd]
      rw [List.dropWhile_cons (x := b) (xs := l), if_neg h2]
      cases h : notE b with
      | true => rw [wpow_cons h, List.dropWhile_cons, if_neg h2]
      | false => rw [wpow_e h, List.dropWhile_cons, if_neg h2]
theorem wp_neg (l : List UInt8) : pNeg (wpow l) = pNeg l := by unfold pNeg; rw [wpow_head]
theorem wp_U (l : List UInt8) : pU (wpow l) = wpow (pU l) := by
  unfold pU; rw [wp_neg]
  by_cases h : pNeg l = true
  · rw [if_pos h, if_pos h]
    refine wpow_drop ?_
    unfold pNeg at h; simp at h
    unfold notE; simp; omega
  · rw [if_neg h, if_neg h]
theorem wp_W (l : List UInt8) : pW (wpow l) = pW l := by unfold pW; rw [wp_U, wpow_take]
theorem wp_R (l : List UInt8) : pR (wpow l) = wpow (pR l) := by unfold pR; rw [wp_U, wpow_dropD]
theorem wp_Dot (l : List UInt8) : pDot (wpow l) = pDot l := by unfold pDot; rw [wp_R, wpow_head]
theorem wp_dotD {l : List UInt8} (h : pDot l = true) : (wpow (pR l)).drop 1 = wpow ((pR l).drop 1) := by
  refine wpow_drop ?_
  unfold pDot at h; simp at h
  unfold notE; simp; omega
theorem wp_F (l : List UInt8) : pF (wpow l) = pF l := by
  unfold pF; rw [wp_Dot, wp_R]
  by_cases h : pDot l = true
  · rw [if_pos h, if_pos h, wp_dotD h, wpow_take]
  · rw [if_neg h, if_neg h]
theorem wp_S (l : List UInt8) : pS (wpow l) = wpow (pS l) := by
  unfold pS; rw [wp_Dot, wp_R]
  by_cases h : pDot l = true
  · rw [if_pos h, if_pos h, wp_dotD h, wpow_dropD]
  · rw [if_neg h, if_neg h]
theorem wp_E (l : List UInt8) : pE (wpow l) = pE l := by unfold pE; rw [wp_S, wpow_head]
theorem wp_P {l : List UInt8} (h : pE l = true) : pP (wpow l) = (pP l).map zd := by
  unfold pP; rw [wp_S]
  unfold pE at h
  cases hs : pS l with
  | nil => rfl
  | cons b t =>
    rw [hs] at h
    have : notE b = false := by
      unfold notE
      simp only [List.getD_cons_zero] at h
      rw [h]; rfl
    rw [wpow_e this]; rfl
theorem zd_head (p : List UInt8) : pSg (p.map zd) = pSg p := by
  cases p with
  | nil => rfl
  | cons b p =>
    unfold pSg; simp only [List.map_cons, List.getD_cons_zero]
    cases h : isD b with
    | false => rw [zd_not h]
    | true =>
      have := isD_bd h
      have e : zd b = 48 := by unfold zd; rw [h]; rfl
      rw [e, Bool.eq_iff_iff]; simp [show (48 : UInt8).toNat = 48 from rfl]; omega
theorem zd_D (p : List UInt8) : pD (p.map zd) = (pD p).map zd := by
  unfold pD; rw [zd_head]
  split
  · rw [List.map_drop]
  · rfl
theorem zd_run (p : List UInt8) : runN (p.map zd) = runN p := by
  unfold runN
  induction p with
  | nil => rfl
  | cons b p ih =>
    rw [List.map_cons, List.takeWhile_cons, List.takeWhile_cons, isD_zd]
    split
    · rw [List.length_cons, List.length_cons, ih]
    · rfl
theorem zd_val (p : List UInt8) : pval (p.map zd) = 0 := by
  unfold pval
  suffices h : ∀ (v : Nat), v = 0 → (p.map zd).foldl (fun v b => if isD b then 10 * v + (b.toNat - 48) else v) v = 0 from h 0 rfl
  induction p with
  | nil => intro v h; simpa using h
  | cons b p ih =>
    intro v h
    rw [List.map_cons, List.foldl_cons]
    apply ih
    rw [isD_zd, h]
    cases hd : isD b with
    | false => simp
    | true =>
      have e : zd b = 48 := by unfold zd; rw [hd]; rfl
      rw [e]; rfl
theorem wp_Eok (l : List UInt8) : pEok (wpow l) = pEok l := by
  unfold pEok
  rw [wp_E]
  have e1 : decide (pS (wpow l) = []) = decide (pS l = []) := by rw [wp_S]; exact decide_eq_decide.2 (wpow_empty _)
  rw [e1]
  cases h : pE l with
  | false => simp only [Bool.false_and]
  | true =>
    rw [wp_P h, zd_D, zd_run, List.length_map]
    have e2 : decide ((pD (pP l)).map zd = []) = decide (pD (pP l) = []) := decide_eq_decide.2 List.map_eq_nil_iff
    rw [e2]
theorem wp_ok (l : List UInt8) : pOk (wpow l) = pOk l := by
  unfold pOk
  have e1 : pWok (wpow l) = pWok l := by unfold pWok; rw [wp_W]
  have e2 : pFok (wpow l) = pFok l := by unfold pFok; rw [wp_Dot, wp_F]
  rw [e1, e2, wp_Eok]
theorem wpow_len (l : List UInt8) : (wpow l).length = l.length := by
  unfold wpow
  rw [List.length_append, List.length_map, ← List.length_append, List.takeWhile_append_dropWhile]
theorem wp_num (l : List UInt8) (hl : l.length ≤ 400) : numB (wpow l) = pOk l := by
  have : numB (wpow l) = (pOk (wpow l) && pwOk (pP (wpow l)) && decide ((wpow l).length ≤ 400)) := rfl
  rw [this, wp_ok, wpow_len, decide_eq_true hl, Bool.and_true]
  cases h : pOk l with
  | false => rfl
  | true =>
    rw [Bool.true_and]
    cases hE : pE l with
    | true => rw [wp_P hE]; unfold pwOk; rw [zd_val]; rfl
    | false =>
      have h3 : pEok l = true := by unfold pOk at h; simp at h; exact h.2
      unfold pEok at h3; rw [hE] at h3; simp at h3
      unfold pP; rw [wp_S, h3, wpow_nil]; rfl
theorem of256' {f g : UInt8 → Bool} (h : ∀ n : Fin 256, f (UInt8.ofNat n.val) = g (UInt8.ofNat n.val)) (b : UInt8) : f b = g b := by
  have := h ⟨b.toNat, b.toNat_lt⟩
  simpa using this
set_option maxRecDepth 10000 in
/-- where the first e stands -/
theorem ix_e (l : List UInt8) : (Lib.indexAny l [101, 69] = -1 ∧ l.takeWhile notE = l) ∨ (Lib.indexAny l [101, 69] = ((l.takeWhile notE).length : Nat) ∧ (l.takeWhile notE).length < l.length) := by
  induction l with
  | nil => exact .inl ⟨rfl, rfl⟩
  | cons b l ih =>
    have hc : ([101, 69] : List UInt8).contains b = !notE b := by
      exact of256' (f := fun b => ([101, 69] : List UInt8).contains b) (g := fun b => !notE b) (by decide +kernel) b
    unfold Lib.indexAny
    rw [hc, List.takeWhile_cons]
    cases h : notE b with
    | false => right; simp
    | true =>
      simp only [Bool.not_true, Bool.false_eq_true, if_false, if_true]
      rcases ih with ⟨h1, h2⟩ | ⟨h1, h2⟩
      · left; rw [h1, h2]; exact ⟨rfl, rfl⟩
      · right
        rw [h1]
        have : ((((l.takeWhile notE).length : Nat) : Int) == -1) = false := by
          rw [beq_eq_false_iff_ne]; omega
        rw [this]
        simp only [Bool.false_eq_true, if_false, List.length_cons]
        omega
end Go.Proofs.YtjbccmnmcjmooaaDoor
namespace Go.Proofs.YtjbccmnmcjmooaaDoor
open Go.RowKit

theorem tkN_c (a : UInt8) (t : List UInt8) : tkN (a :: t) = if tkOk a t = true then begN a.toNat else 0 := rfl
theorem tkR_c (a : UInt8) (t : List UInt8) : tkR (a :: t) = if tkOk a t = true then fol (begR a.toNat) (t.take (begN a.toNat - 1)) else 0 := rfl
theorem tk_short {a : UInt8} {t : List UInt8} (h : t.length + 1 < begN a.toNat) : tkN (a :: t) = 0 := by
  have : decide (begN a.toNat ≠ 0 ∧ begN a.toNat ≤ t.length + 1) = false := decide_eq_false (by omega)
  rw [tkN_c]; unfold tkOk; rw [this]; rfl
theorem tk_ok {a : UInt8} {t u : List UInt8} {n r : Nat} (hn : begN a.toNat = n) (hr : begR a.toNat = r) (h0 : n ≠ 0) (hl : n ≤ t.length + 1) (hu : t.take (n - 1) = u) : tkOk a t = (u.all cont && (goodN (fol r u) && decide (wdN (fol r u) = n))) := by
  have : decide (n ≠ 0 ∧ n ≤ t.length + 1) = true := decide_eq_true ⟨h0, hl⟩
  unfold tkOk; rw [hn, hr, hu, this, Bool.true_and]
theorem tk_n1 {a : UInt8} {t : List UInt8} (h : a.toNat < 128) : tkN (a :: t) = 1 ∧ tkR (a :: t) = a.toNat := by
  have hb : begN a.toNat = 1 := by unfold begN; rw [if_pos h]
  have hr : begR a.toNat = a.toNat := by unfold begR; rw [if_pos h]
  have ok : tkOk a t = true := by
    unfold tkOk; rw [hb, hr]
    have hf : fol a.toNat (t.take (1 - 1)) = a.toNat := by simp [fol]
    rw [hf]
    have g1 : goodN a.toNat = true := by unfold goodN; exact decide_eq_true (by omega)
    have g2 : wdN a.toNat = 1 := by unfold wdN; rw [if_pos h]
    rw [g1, g2]; simp
  rw [tkN_c, tkR_c, if_pos ok, if_pos ok, hb, hr]
  simp [fol]
theorem tk_n0 {a : UInt8} {t : List UInt8} (h : (128 ≤ a.toNat ∧ a.toNat < 192) ∨ 248 ≤ a.toNat) : tkN (a :: t) = 0 := by
  have hb : begN a.toNat = 0 := by unfold begN; (repeat' split) <;> omega
  have ok : tkOk a t = false := by unfold tkOk; rw [hb]; simp
  rw [tkN_c, ok]; rfl
theorem beg2 {n : Nat} (h : 192 ≤ n ∧ n < 224) : begN n = 2 ∧ begR n = n - 192 := by
  unfold begN begR; constructor <;> ((repeat' split) <;> omega)
theorem beg3 {n : Nat} (h : 224 ≤ n ∧ n < 240) : begN n = 3 ∧ begR n = n - 224 := by
  unfold begN begR; constructor <;> ((repeat' split) <;> omega)
theorem beg4 {n : Nat} (h : 240 ≤ n ∧ n < 248) : begN n = 4 ∧ begR n = n - 240 := by
  unfold begN begR; constructor <;> ((repeat' split) <;> omega)
theorem cont_iff (b : UInt8) : cont b = decide (b.toNat / 64 = 2) := by
  unfold cont; exact decide_eq_decide.2 (by omega)
/-- the decoder's answer is the letter and its bytes, or the sign of no letter and one byte -/
theorem tk_dec (l : List UInt8) (hne : 0 < l.length) : Lib.decodeL l = if tkN l = 0 then (65533, 1) else (tkR l, tkN l) := by
  rw [Lib.decodeL_N]
  rcases l with _ | ⟨a, t⟩
  · simp at hne
  have k0 := a.toNat_lt
  by_cases h1 : a.toNat < 128
  · obtain ⟨e1, e2⟩ := tk_n1 (t := t) h1
    rw [e1, e2]
    simp only [List.getD_cons_zero]
    unfold Lib.decodeN; rw [if_pos h1]; rfl
  by_cases h2 : (128 ≤ a.toNat ∧ a.toNat < 192) ∨ 248 ≤ a.toNat
  · rw [tk_n0 h2]
    simp only [List.getD_cons_zero, if_true]
    unfold Lib.decodeN
    rw [if_neg h1, if_neg (by omega), if_neg (by omega), if_neg (by omega)]
  by_cases h3 : a.toNat < 224
  · obtain ⟨e1, e2⟩ := beg2 (n := a.toNat) (by omega)
    rcases t with _ | ⟨b, t⟩
    · have : tkN [a] = 0 := tk_short (by rw [e1]; simp)
      rw [this]; unfold Lib.decodeN
      simp only [List.getD_cons_zero, List.getD_cons_succ, List.length_cons, List.length_nil, if_true]
      rw [if_neg h1, if_neg (by omega), if_neg (by omega), if_neg (by omega)]
    have k1 := b.toNat_lt
    have ok : tkOk a (b :: t) = (cont b && (goodN (64 * (a.toNat - 192) + (b.toNat - 128)) && decide (wdN (64 * (a.toNat - 192) + (b.toNat - 128)) = 2))) := by
      rw [tk_ok e1 e2 (by omega) (by rw [List.length_cons]; omega) (u := [b]) rfl, show [b].all cont = cont b from Bool.and_true _]; rfl
    have en : tkN (a :: b :: t) = if tkOk a (b :: t) = true then 2 else 0 := by rw [tkN_c, e1]
    have er : tkR (a :: b :: t) = if tkOk a (b :: t) = true then 64 * (a.toNat - 192) + (b.toNat - 128) else 0 := by rw [tkR_c, e1, e2]; rfl
    rw [en, er, ok]
    simp only [List.getD_cons_zero, List.getD_cons_succ, List.length_cons]
    unfold Lib.decodeN
    rw [if_neg h1, cont_iff]
    by_cases hc : b.toNat / 64 = 2
    · rw [if_pos ⟨by omega, by omega, hc⟩, decide_eq_true hc, Bool.true_and]
      have ev : a.toNat % 32 * 64 + b.toNat % 64 = 64 * (a.toNat - 192) + (b.toNat - 128) := by omega
      rw [ev]
      by_cases hv : 64 * (a.toNat - 192) + (b.toNat - 128) ≥ 128
      · have g1 : goodN (64 * (a.toNat - 192) + (b.toNat - 128)) = true := by unfold goodN; exact decide_eq_true (by omega)
        have g2 : wdN (64 * (a.toNat - 192) + (b.toNat - 128)) = 2 := by unfold wdN; rw [if_neg (by omega), if_pos (by omega)]
        rw [g1, g2, if_pos hv]; simp
      · have g2 : wdN (64 * (a.toNat - 192) + (b.toNat - 128)) = 1 := by unfold wdN; rw [if_pos (by omega)]
        rw [g2, if_neg hv]; simp
    · rw [if_neg (by omega), if_neg (by omega), if_neg (by omega), decide_eq_false hc]; simp
  by_cases h4 : a.toNat < 240
  · obtain ⟨e1, e2⟩ := beg3 (n := a.toNat) (by omega)
    rcases t with _ | ⟨b, _ | ⟨c, t⟩⟩
    · have : tkN [a] = 0 := tk_short (by rw [e1]; simp)
      rw [this]; unfold Lib.decodeN
      simp only [List.getD_cons_zero, List.getD_cons_succ, List.length_cons, List.length_nil, if_true]
      rw [if_neg h1, if_neg (by omega), if_neg (by omega), if_neg (by omega)]
    · have : tkN [a, b] = 0 := tk_short (by rw [e1]; simp)
      rw [this]; unfold Lib.decodeN
      simp only [List.getD_cons_zero, List.getD_cons_succ, List.length_cons, List.length_nil, if_true]
      rw [if_neg h1, if_neg (by omega), if_neg (by omega), if_neg (by omega)]
    have k1 := b.toNat_lt
    have k2 := c.toNat_lt
    have ok : tkOk a (b :: c :: t) = (cont b && cont c && (goodN (64 * (64 * (a.toNat - 224) + (b.toNat - 128)) + (c.toNat - 128)) && decide (wdN (64 * (64 * (a.toNat - 224) + (b.toNat - 128)) + (c.toNat - 128)) = 3))) := by
      rw [tk_ok e1 e2 (by omega) (by rw [List.length_cons, List.length_cons]; omega) (u := [b, c]) rfl, show [b, c].all cont = (cont b && cont c) from congrArg _ (Bool.and_true _)]; rfl
    have en : tkN (a :: b :: c :: t) = if tkOk a (b :: c :: t) = true then 3 else 0 := by rw [tkN_c, e1]
    have er : tkR (a :: b :: c :: t) = if tkOk a (b :: c :: t) = true then 64 * (64 * (a.toNat - 224) + (b.toNat - 128)) + (c.toNat - 128) else 0 := by rw [tkR_c, e1, e2]; rfl
    rw [en, er, ok]
    simp only [List.getD_cons_zero, List.getD_cons_succ, List.length_cons]
    unfold Lib.decodeN
    rw [if_neg h1, if_neg (by omega), cont_iff, cont_iff]
    by_cases hc : b.toNat / 64 = 2 ∧ c.toNat / 64 = 2
    · rw [if_pos ⟨by omega, ⟨by omega, hc.1⟩, by omega, hc.2⟩, decide_eq_true hc.1, decide_eq_true hc.2, Bool.true_and, Bool.true_and]
      have ev : a.toNat % 16 * 4096 + b.toNat % 64 * 64 + c.toNat % 64 = 64 * (64 * (a.toNat - 224) + (b.toNat - 128)) + (c.toNat - 128) := by omega
      rw [ev]
      have hlt : 64 * (64 * (a.toNat - 224) + (b.toNat - 128)) + (c.toNat - 128) < 65536 := by omega
      obtain ⟨V, hV⟩ : ∃ V, 64 * (64 * (a.toNat - 224) + (b.toNat - 128)) + (c.toNat - 128) = V := ⟨_, rfl⟩
      rw [hV] at hlt ⊢
      by_cases hv : V ≥ 2048
      · have g2 : wdN V = 3 := by unfold wdN; rw [if_neg (by omega), if_neg (by omega), if_pos (by omega)]
        rw [g2]
        by_cases hg : V < 55296 ∨ 57343 < V
        · have g1 : goodN V = true := by unfold goodN; exact decide_eq_true (by omega)
          rw [g1, if_pos (by omega)]; simp
        · have g1 : goodN V = false := by unfold goodN; exact decide_eq_false (by omega)
          rw [g1, if_neg (by omega)]; simp
      · have g2 : ¬ wdN V = 3 := by unfold wdN; (repeat' split) <;> omega
        rw [decide_eq_false g2, if_neg (by omega)]; simp
    · rw [if_neg (by omega), if_neg (by omega)]
      have : (decide (b.toNat / 64 = 2) && decide (c.toNat / 64 = 2)) = false := by
        rw [← Bool.decide_and]; exact decide_eq_false hc
      rw [this]; simp
  · obtain ⟨e1, e2⟩ := beg4 (n := a.toNat) (by omega)
    rcases t with _ | ⟨b, _ | ⟨c, _ | ⟨d, t⟩⟩⟩
    · have : tkN [a] = 0 := tk_short (by rw [e1]; simp)
      rw [this]; unfold Lib.decodeN
      simp only [List.getD_cons_zero, List.getD_cons_succ, List.length_cons, List.length_nil, if_true]
      rw [if_neg h1, if_neg (by omega), if_neg (by omega), if_neg (by omega)]
    · have : tkN [a, b] = 0 := tk_short (by rw [e1]; simp)
      rw [this]; unfold Lib.decodeN
      simp only [List.getD_cons_zero, List.getD_cons_succ, List.length_cons, List.length_nil, if_true]
      rw [if_neg h1, if_neg (by omega), if_neg (by omega), if_neg (by omega)]
    · have : tkN [a, b, c] = 0 := tk_short (by rw [e1]; simp)
      rw [this]; unfold Lib.decodeN
      simp only [List.getD_cons_zero, List.getD_cons_succ, List.length_cons, List.length_nil, if_true]
      rw [if_neg h1, if_neg (by omega), if_neg (by omega), if_neg (by omega)]
    have k1 := b.toNat_lt
    have k2 := c.toNat_lt
    have k3 := d.toNat_lt
    have ok : tkOk a (b :: c :: d :: t) = (cont b && (cont c && cont d) && (goodN (64 * (64 * (64 * (a.toNat - 240) + (b.toNat - 128)) + (c.toNat - 128)) + (d.toNat - 128)) && decide (wdN (64 * (64 * (64 * (a.toNat - 240) + (b.toNat - 128)) + (c.toNat - 128)) + (d.toNat - 128)) = 4))) := by
      rw [tk_ok e1 e2 (by omega) (by rw [List.length_cons, List.length_cons, List.length_cons]; omega) (u := [b, c, d]) rfl, show [b, c, d].all cont = (cont b && (cont c && cont d)) from congrArg _ (congrArg _ (Bool.and_true _))]; rfl
    have en : tkN (a :: b :: c :: d :: t) = if tkOk a (b :: c :: d :: t) = true then 4 else 0 := by rw [tkN_c, e1]
    have er : tkR (a :: b :: c :: d :: t) = if tkOk a (b :: c :: d :: t) = true then 64 * (64 * (64 * (a.toNat - 240) + (b.toNat - 128)) + (c.toNat - 128)) + (d.toNat - 128) else 0 := by rw [tkR_c, e1, e2]; rfl
    rw [en, er, ok]
    simp only [List.getD_cons_zero, List.getD_cons_succ, List.length_cons]
    unfold Lib.decodeN
    rw [if_neg h1, if_neg (by omega), if_neg (by omega), cont_iff, cont_iff, cont_iff]
    by_cases hc : b.toNat / 64 = 2 ∧ c.toNat / 64 = 2 ∧ d.toNat / 64 = 2
    · rw [if_pos ⟨by omega, ⟨by omega, hc.1⟩, ⟨by omega, hc.2.1⟩, by omega, hc.2.2⟩, decide_eq_true hc.1, decide_eq_true hc.2.1, decide_eq_true hc.2.2, Bool.true_and, Bool.true_and, Bool.true_and]
      have ev : a.toNat % 8 * 262144 + b.toNat % 64 * 4096 + c.toNat % 64 * 64 + d.toNat % 64 = 64 * (64 * (64 * (a.toNat - 240) + (b.toNat - 128)) + (c.toNat - 128)) + (d.toNat - 128) := by omega
      rw [ev]
      obtain ⟨V, hV⟩ : ∃ V, 64 * (64 * (64 * (a.toNat - 240) + (b.toNat - 128)) + (c.toNat - 128)) + (d.toNat - 128) = V := ⟨_, rfl⟩
      rw [hV]
      by_cases hv : V ≥ 65536
      · have g2 : wdN V = 4 := by unfold wdN; rw [if_neg (by omega), if_neg (by omega), if_neg (by omega)]
        rw [g2]
        by_cases hg : V ≤ 1114111
        · have g1 : goodN V = true := by unfold goodN; exact decide_eq_true (by omega)
          rw [g1, if_pos (by omega)]; simp
        · have g1 : goodN V = false := by unfold goodN; exact decide_eq_false (by omega)
          rw [g1, if_neg (by omega)]; simp
      · have g2 : ¬ wdN V = 4 := by unfold wdN; (repeat' split) <;> omega
        rw [decide_eq_false g2, if_neg (by omega)]; simp
    · rw [if_neg (by omega)]
      have : (decide (b.toNat / 64 = 2) && (decide (c.toNat / 64 = 2) && decide (d.toNat / 64 = 2))) = false := by
        rw [← Bool.decide_and, ← Bool.decide_and]; exact decide_eq_false hc
      rw [this]; simp
/-- the sign of no letter is itself a letter: its three bytes -/
theorem tk_fffd (l : List UInt8) (h : tkN l ≠ 0) : tkR l = 65533 ↔ [239, 191, 189] <+: l := by
  have hne : 0 < l.length := by
    cases l with
    | nil => exact absurd rfl h
    | cons => simp
  have hd := tk_dec l hne
  rw [if_neg h] at hd
  constructor
  · intro hr
    have he := Lib.encode_decode l (by intro e; rw [e] at hne; simp at hne) (by
      rw [hd]; rintro ⟨-, h2⟩
      simp only at h2
      rcases l with _ | ⟨a, t⟩
      · simp at hne
      by_cases h1 : a.toNat < 128
      · have := (tk_n1 (t := t) h1).2; rw [hr] at this; omega
      · have hb : begN a.toNat ≠ 1 := by unfold begN; rw [if_neg h1]; (repeat' split) <;> omega
        have : tkN (a :: t) = begN a.toNat ∨ tkN (a :: t) = 0 := by rw [tkN_c]; split <;> simp
        omega)
    rw [hd] at he
    simp only at he
    rw [hr] at he
    have e2 : Lib.encodeRune ((65533 : Nat) : Int) = [239, 191, 189] := by decide
    rw [e2] at he
    rw [he]; exact List.take_prefix _ _
  · rintro ⟨t, rfl⟩
    have : Lib.decodeL ([239, 191, 189] ++ t) = (65533, 3) := by
      rw [Lib.decodeL_N]
      simp [Lib.decodeN]
    rw [this] at hd
    exact (Prod.mk.inj hd).1.symm
theorem tk_pre (l : List UInt8) (h : [239, 191, 189] <+: l) : tkN l = 3 := by
  obtain ⟨t, rfl⟩ := h
  have hd := tk_dec ([239, 191, 189] ++ t) (by simp)
  have : Lib.decodeL ([239, 191, 189] ++ t) = (65533, 3) := by
    rw [Lib.decodeL_N]
    simp [Lib.decodeN]
  rw [this] at hd
  split at hd
  · have := (Prod.mk.inj hd).2; omega
  · exact (Prod.mk.inj hd).2.symm
end Go.Proofs.YtjbccmnmcjmooaaDoor
