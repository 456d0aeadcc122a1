/- What is cut off is wrong at its end or ahead of it: plain mathematics. -/
import Derived.Test.YtkhjahpkbjafaaaGreatDoorPMathEscB
import Derived.Test.YtkhjahpkbjafaaaGreatDoorPMathNest
/- Plain mathematics: tokens with any text behind them: just these words are cut off it. -/
namespace Go.Proofs.YtkhjahpkbjafaaaGreatDoor
open Go.RowKit

theorem cdI_app {l m : List UInt8} {k n : Nat} (h : 0 ≤ cdI l k n) : cdI (l ++ m) k n = cdI l k n := by
  have hl : k + n ≤ l.length := by
    by_cases hl : l.length < k + n
    · rw [cdI_short _ _ _ hl] at h; omega
    · omega
  have e : ((l ++ m).drop k).take n = (l.drop k).take n := by
    rw [List.drop_append_of_le_length (by omega), List.take_append_of_le_length (by rw [List.length_drop]; omega)]
  unfold cdI
  rw [e, List.length_append]
  by_cases hb : hexB ((l.drop k).take n) = true
  · rw [if_pos ⟨by omega, hb⟩, if_pos ⟨hl, hb⟩]
  · rw [if_neg (fun hc => hb hc.2), if_neg (fun hc => hb hc.2)]
theorem bt_app' {l m : List UInt8} {k : Nat} (h : bt l k < 256) : bt (l ++ m) k = bt l k := bt_app l m k (bt_lt h)
theorem nmV_lt {toml : Bool} {b : Nat} (h : nmV toml b < 256) : b < 256 := by
  by_cases hb : b < 256
  · exact hb
  · unfold nmV at h
    rw [if_neg (by omega), if_neg (by omega), if_neg (by omega), if_neg (by omega), if_neg (by omega), if_neg (by omega), if_neg (by omega), if_neg (by omega), if_neg (by omega)] at h
    omega
/-- what a longer text cannot take back -/
def Keeps (P : List UInt8 → List UInt8 × Nat) : Prop := ∀ l m, 0 < (P l).2 → P (l ++ m) = P l
theorem keeps_escU (toml : Bool) (n : Nat) (l m : List UInt8) (h : 0 < (escU toml l n).2) : escU toml (l ++ m) n = escU toml l n := by
  by_cases h1 : 0 ≤ cdI l 2 n ∧ goodB (cdI l 2 n) = true
  · have e := cdI_app (m := m) h1.1
    unfold escU
    rw [e, if_pos h1, if_pos h1]
  · by_cases h2 : toml = false ∧ 55296 ≤ cdI l 2 n ∧ cdI l 2 n < 56320 ∧ bt l 6 = 92 ∧ bt l 7 = 117 ∧ 56320 ≤ cdI l 8 4 ∧ cdI l 8 4 < 57344
    · have e := cdI_app (l := l) (m := m) (k := 2) (n := n) (by omega)
      have e2 := cdI_app (l := l) (m := m) (k := 8) (n := 4) (by omega)
      have e3 := bt_app' (l := l) (m := m) (k := 6) (by omega)
      have e4 := bt_app' (l := l) (m := m) (k := 7) (by omega)
      unfold escU
      rw [e, e2, e3, e4]
    · unfold escU at h
      rw [if_neg h1, if_neg h2] at h
      exact absurd h (Nat.lt_irrefl 0)
theorem keeps_esc (toml : Bool) : Keeps (escP toml) := fun l m h => by
  by_cases h1 : nmV toml (bt l 1) < 256
  · have e := bt_app' (l := l) (m := m) (nmV_lt h1)
    unfold escP
    rw [e, if_pos h1, if_pos h1]
  · by_cases h2 : bt l 1 = 85 ∧ toml = true
    · have e := bt_app' (l := l) (m := m) (k := 1) (by omega)
      unfold escP at h ⊢
      rw [if_neg h1, if_pos h2] at h
      rw [e, if_neg h1, if_pos h2, if_neg h1, if_pos h2]
      exact keeps_escU toml 8 l m h
    · by_cases h3 : bt l 1 = 117
      · have e := bt_app' (l := l) (m := m) (k := 1) (by omega)
        unfold escP at h ⊢
        rw [if_neg h1, if_neg h2, if_pos h3] at h
        rw [e, if_neg h1, if_neg h2, if_pos h3, if_neg h1, if_neg h2, if_pos h3]
        exact keeps_escU toml 4 l m h
      · unfold escP at h
        rw [if_neg h1, if_neg h2, if_neg h3] at h
        exact absurd h (Nat.lt_irrefl 0)
theorem keeps_pl : Keeps plP := fun l m h => by
  have h0 : tkN l ≠ 0 := by unfold plP at h; simp only at h; omega
  have := tkN_le l
  unfold plP
  rw [tkN_more l m h0, List.take_append_of_le_length this]
theorem keeps_pc (toml : Bool) : Keeps (pcB toml) := fun l m h => by
  rw [pcB_at] at h
  have hl : 0 < l.length := by
    have : (if toml = true then oeP l else jsP l).2 ≤ l.length := by
      cases toml with
      | false => rw [if_neg (by decide)]; exact (fits_js l).1
      | true => rw [if_pos rfl]; exact (fits_oe l).1
    omega
  have e := bt_app l m 0 hl
  rw [pcB_at, pcB_at]
  cases toml with
  | false =>
    rw [if_neg (by decide)] at h ⊢
    rw [if_neg (by decide)]
    unfold jsP at h ⊢
    rw [e]
    by_cases h1 : bt l 0 = 92
    · rw [if_pos h1] at h
      rw [if_pos h1, if_pos h1]
      exact keeps_esc false l m h
    · rw [if_neg h1] at h
      rw [if_neg h1, if_neg h1]
      by_cases h2 : bt l 0 < 32
      · rw [if_pos h2] at h; exact absurd h (Nat.lt_irrefl 0)
      · rw [if_neg h2] at h
        rw [if_neg h2, if_neg h2]
        exact keeps_pl l m h
  | true =>
    rw [if_pos rfl] at h ⊢
    rw [if_pos rfl]
    unfold oeP at h ⊢
    rw [e]
    by_cases h1 : bt l 0 = 92
    · rw [if_pos h1] at h
      rw [if_pos h1, if_pos h1]
      exact keeps_esc true l m h
    · rw [if_neg h1] at h
      rw [if_neg h1, if_neg h1]
      unfold opP at h ⊢
      rw [e]
      by_cases h2 : bt l 0 < 32 ∧ bt l 0 ≠ 9 ∨ bt l 0 = 127
      · rw [if_pos h2] at h; exact absurd h (Nat.lt_irrefl 0)
      · rw [if_neg h2] at h
        rw [if_neg h2, if_neg h2]
        exact keeps_pl l m h
theorem fits_pc (toml : Bool) : Fits (pcB toml) := fun l => by
  rw [pcB_at]
  cases toml with
  | false => rw [if_neg (by decide)]; exact fits_js l
  | true => rw [if_pos rfl]; exact fits_oe l
/-- where a reading ends, or is wrong -/
theorem rd_range (toml : Bool) (U : List UInt8) : ∀ f i acc, U.length < i + f → i ≤ U.length → (rd (oE 34) (pcB toml) U f i acc).2.2 = -1 ∨ (0 ≤ (rd (oE 34) (pcB toml) U f i acc).2.2 ∧ (rd (oE 34) (pcB toml) U f i acc).2.2 ≤ U.length) := by
  intro f
  induction f with
  | zero => intro i acc h1 h2; omega
  | succ f ih =>
    intro i acc h1 h2
    rw [rd]
    split
    · right; constructor <;> simp
    · split
      · left; rfl
      · split
        · right; constructor <;> simp; omega
        · have hf := (fits_pc toml (U.drop i)).1
          rw [List.length_drop] at hf
          exact ih _ _ (by omega) (by omega)
/-- a reading that ends is the reading of every longer text -/
theorem rd_keeps (toml : Bool) (U V : List UInt8) : ∀ f i acc g, U.length < i + f → i ≤ U.length → (U ++ V).length < i + g → (rd (oE 34) (pcB toml) U f i acc).2.2 = -1 →
    rd (oE 34) (pcB toml) (U ++ V) g i acc = rd (oE 34) (pcB toml) U f i acc ∧ (rd (oE 34) (pcB toml) U f i acc).2.1 ≤ U.length := by
  intro f
  induction f with
  | zero => intro i acc g h1 h2; omega
  | succ f ih =>
    intro i acc g h1 h2 h3 h4
    have hlen : (U ++ V).length = U.length + V.length := List.length_append
    by_cases hi : U.length ≤ i
    · rw [rd, if_pos hi] at h4
      simp only at h4; omega
    · have hd : (U ++ V).drop i = U.drop i ++ V := List.drop_append_of_le_length (by omega)
      have hl : 0 < (U.drop i).length := by rw [List.length_drop]; omega
      have hb := bt_app (U.drop i) V 0 hl
      have hE : oE 34 ((U ++ V).drop i) = oE 34 (U.drop i) := by rw [hd]; unfold oE; rw [hb]
      by_cases he : 0 < (oE 34 (U.drop i)).2
      · rw [rd_stop h3 (by omega) (by rw [hE]; exact he), rd_stop h1 (by omega) he, hE]
        refine ⟨rfl, ?_⟩
        have := (fits_oE 34 (by omega) (U.drop i)).1
        rw [List.length_drop] at this
        show i + (oE 34 (U.drop i)).2 ≤ U.length
        omega
      · have he0 : (oE 34 (U.drop i)).2 = 0 := by omega
        by_cases hp : (pcB toml (U.drop i)).2 = 0
        · rw [rd_wrong h1 (by omega) he0 hp] at h4
          simp only at h4; omega
        · have hP : pcB toml ((U ++ V).drop i) = pcB toml (U.drop i) := by rw [hd]; exact keeps_pc toml _ V (by omega)
          have hf := (fits_pc toml (U.drop i)).1
          rw [List.length_drop] at hf
          obtain ⟨g', k1, k2⟩ := rd_step (E := oE 34) (P := pcB toml) (acc := acc) h3 (by omega) (by rw [hE]; exact he0) (by rw [hP]; omega)
          have e1 : rd (oE 34) (pcB toml) U (f + 1) i acc = rd (oE 34) (pcB toml) U f (i + (pcB toml (U.drop i)).2) (acc ++ (pcB toml (U.drop i)).1) := by
            rw [rd, if_neg hi, if_neg he, if_neg hp]
          rw [hP] at k1 k2
          rw [e1] at h4 ⊢
          rw [k1]
          exact ih _ _ g' (by omega) (by omega) k2 h4
end Go.Proofs.YtkhjahpkbjafaaaGreatDoor
namespace Go.Proofs.YtkhjahpkbjafaaaGreatDoor
open Go.RowKit

/-- a token as it may stand, with this text behind it -/
def Tk.ok (R : List UInt8) : Tk → Prop
  | .bl b => ∀ x ∈ b, blB x = true
  | .sg c => sgnB c = true
  | .st s => Vl s ∧ s.length ≤ 4096
  | .nu s => numB s = true ∧ ∀ x, R.head? = some x → numC x = false
  | .li s => litB s = true ∧ ∀ x, R.head? = some x → lowC x = false
def okR (R : List UInt8) : List Tk → Prop
  | [] => True
  | t :: r => t.ok (txs r ++ R) ∧ okR R r
theorem okR_app {R : List UInt8} : ∀ (a b : List Tk), okR R (a ++ b) ↔ okR (txs b ++ R) a ∧ okR R b
  | [], b => by simp [okR]
  | t :: r, b => by rw [List.cons_append, okR, okR, okR_app r b, txs_app, List.append_assoc, and_assoc]
theorem okT_R : ∀ (ts : List Tk), okT ts ↔ okR [] ts
  | [] => Iff.rfl
  | t :: r => by
    have ih := okT_R r
    cases t with
    | bl b => rw [okT, okR, List.append_nil, ih]; rfl
    | sg c => rw [okT, okR, List.append_nil, ih]; rfl
    | st s => rw [okT, okR, List.append_nil, ih]; exact and_assoc.symm
    | nu s => rw [okT, okR, List.append_nil, ih]; exact and_assoc.symm
    | li s => rw [okT, okR, List.append_nil, ih]; exact and_assoc.symm
theorem head_pre {A P Q : List UInt8} {x : UInt8} (h : P <+: Q) (hx : (A ++ P).head? = some x) : (A ++ Q).head? = some x := by
  obtain ⟨r, rfl⟩ := h
  rw [← List.append_assoc]
  cases hA : A ++ P with
  | nil => rw [hA] at hx; simp at hx
  | cons a l => rw [hA] at hx; simpa using hx
theorem okR_pre {P Q : List UInt8} (h : P <+: Q) : ∀ (ts : List Tk), okR Q ts → okR P ts
  | [], _ => trivial
  | t :: r, hq => by
    obtain ⟨h1, h2⟩ := hq
    refine ⟨?_, okR_pre h r h2⟩
    cases t with
    | bl b => exact h1
    | sg c => exact h1
    | st s => exact h1
    | nu s => exact ⟨h1.1, fun x hx => h1.2 x (head_pre h hx)⟩
    | li s => exact ⟨h1.1, fun x hx => h1.2 x (head_pre h hx)⟩
/-- what a token that is no blank is cut to -/
theorem tok_lw (t : Tk) (M R : List UInt8) (h : t.ok R) (hb : ∀ b, t ≠ .bl b) : ∃ (b : UInt8) (kd : Nat) (tx : List UInt8), (M ++ (t.tx ++ R))[M.length]? = some b ∧ blB b = false ∧ lw (M ++ (t.tx ++ R)) M.length = ⟨kd, tx, M.length + t.tx.length, 0, 0⟩ ∧ t.wd M.length = [⟨kd, tx, M.length⟩] := by
  cases t with
  | bl b => exact absurd rfl (hb b)
  | sg c =>
    have h1 : sgnB c = true := h
    have hb := get_mid M c R
    have hbl : blB c = false := by
      unfold sgnB at h1; have := of_decide_eq_true h1
      unfold blB; exact decide_eq_false (by omega)
    exact ⟨c, 1, [c], hb, hbl, lw_sg hb hbl h1, rfl⟩
  | st s =>
    obtain ⟨h1, h3⟩ := h
    obtain ⟨q, hq⟩ : ∃ q, qtA false s = 34 :: q := ⟨_, rfl⟩
    have hb : (M ++ (qtA false s ++ R))[M.length]? = some 34 := by rw [hq]; exact get_mid M 34 _
    have hrd := rd_whole false s M R h1.vld
    rw [List.append_assoc] at hrd
    have hu : unqJ (M ++ (qtA false s ++ R)) (M.length : Nat) = (s, M.length + (qtA false s).length, -1) := by
      unfold unqJ
      rw [if_pos ⟨by omega, by rw [Int.toNat_natCast]; exact bt_some hb⟩, Int.toNat_natCast]
      exact hrd
    have hl : lw (M ++ (qtA false s ++ R)) M.length = ⟨2, s, M.length + (qtA false s).length, 0, 0⟩ := by
      rw [lw_qt hb (by decide) (by decide) (by decide)]
      unfold lwS
      rw [hu, if_neg (by simp), if_neg (by simp only; omega)]
    exact ⟨34, 2, s, hb, by decide, hl, rfl⟩
  | nu s =>
    obtain ⟨h1, h3⟩ := h
    have hN := h1
    unfold numB at hN
    rw [Bool.and_eq_true, Bool.and_eq_true, decide_eq_true_eq] at hN
    obtain ⟨⟨hp, hw⟩, hlen⟩ := hN
    obtain ⟨hall, s0, S', hS, h0⟩ := num_bytes hp
    have hb : (M ++ (s ++ R))[M.length]? = some s0 := by rw [hS]; exact get_mid M s0 _
    have hbl : blB s0 = false := by
      unfold numS at h0; have := of_decide_eq_true h0
      unfold blB; exact decide_eq_false (by omega)
    have hsg : sgnB s0 = false := by
      unfold numS at h0; have := of_decide_eq_true h0
      unfold sgnB; exact decide_eq_false (by omega)
    have hq : s0.toNat ≠ 34 := by unfold numS at h0; have := of_decide_eq_true h0; omega
    have hr : run numC ((M ++ (s ++ R)).drop M.length) = s.length := by rw [drop_mid]; exact run_stop hall h3
    have hP : ((M ++ (s ++ R)).drop M.length).take s.length = s := by rw [drop_mid]; exact List.take_left
    have hl : lw (M ++ (s ++ R)) M.length = ⟨3, s, M.length + s.length, 0, 0⟩ := by
      rw [lw_nm hb hbl hsg hq h0]
      unfold lwN
      rw [hr, hP, if_neg (by omega), if_neg (by rw [hp]; decide), if_neg (by rw [hw]; decide)]
    exact ⟨s0, 3, s, hb, hbl, hl, rfl⟩
  | li s =>
    obtain ⟨h1, h3⟩ := h
    obtain ⟨⟨s0, S', hS, hbl, hsg, hq, h0⟩, hall⟩ := lit_head h1
    have hb : (M ++ (s ++ R))[M.length]? = some s0 := by rw [hS]; exact get_mid M s0 _
    have hr : run lowC ((M ++ (s ++ R)).drop M.length) = s.length := by rw [drop_mid]; exact run_stop hall h3
    have hP : ((M ++ (s ++ R)).drop M.length).take s.length = s := by rw [drop_mid]; exact List.take_left
    have hl : lw (M ++ (s ++ R)) M.length = ⟨4, s, M.length + s.length, 0, 0⟩ := by
      rw [lw_lt hb hbl hsg hq h0]
      unfold lwL
      rw [hr, hP, if_pos h1]
    exact ⟨s0, 4, s, hb, hbl, hl, rfl⟩
/-- a word that stands at once here -/
theorem wds_here {T : List UInt8} {i : Nat} {b : UInt8} {ws : List Wd} (hb : T[i]? = some b) (hn : blB b = false) (h : Wds T i ws) : (lw T i).er = 0 ∧ ∃ ws', ws = ⟨(lw T i).kd, (lw T i).tx, i⟩ :: ws' ∧ Wds T (lw T i).nx ws' := by
  obtain ⟨hlt, he⟩ := List.getElem?_eq_some_iff.1 hb
  cases h with
  | stop _ h1 h2 =>
    have := h2 i hlt (Nat.le_refl _)
    rw [he, hn] at this; cases this
  | word _ j hij hj hb2 hn2 he2 ws r =>
    by_cases hji : i = j
    · subst hji; exact ⟨he2, _, rfl, r⟩
    · have := hb2 i hlt (Nat.le_refl _) (by omega)
      rw [he, hn] at this; cases this
theorem wds_past {T : List UInt8} {i : Nat} {b : UInt8} {ws : List Wd} (hb : T[i]? = some b) (hn : blB b = true) (h : Wds T i ws) : Wds T (i + 1) ws := by
  obtain ⟨hlt, he⟩ := List.getElem?_eq_some_iff.1 hb
  cases h with
  | stop _ h1 h2 => exact .stop _ (by omega) (fun k hk hik => h2 k hk (by omega))
  | word _ j hij hj hb2 hn2 he2 ws r =>
    by_cases hji : i = j
    · subst hji; rw [he, hn] at hn2; cases hn2
    · exact .word _ j (by omega) hj (fun k hk h1 h2 => hb2 k hk (by omega) h2) hn2 he2 ws r
theorem wds_blanks : ∀ (b M R : List UInt8) (ws : List Wd), (∀ x ∈ b, blB x = true) → Wds (M ++ (b ++ R)) M.length ws → Wds (M ++ (b ++ R)) (M.length + b.length) ws
  | [], M, R, ws, _, h => by simpa using h
  | a :: b, M, R, ws, hb, h => by
    have e : M ++ ((a :: b) ++ R) = (M ++ [a]) ++ (b ++ R) := by simp
    have h0 := wds_past (get_mid M a (b ++ R)) (hb a (List.mem_cons_self ..)) h
    have h1 := wds_blanks b (M ++ [a]) R ws (fun x hx => hb x (List.mem_cons_of_mem _ hx)) (by rw [← e, List.length_append, List.length_singleton]; exact h0)
    rw [← e, List.length_append, List.length_singleton] at h1
    rw [List.length_cons, show M.length + (b.length + 1) = M.length + 1 + b.length from by omega]
    exact h1
/-- the words of tokens come first -/
theorem tok_split : ∀ (ts : List Tk) (M R : List UInt8) (ws : List Wd), okR R ts → Wds (M ++ (txs ts ++ R)) M.length ws → ∃ ws', ws = wdsN M.length ts ++ ws' ∧ Wds (M ++ (txs ts ++ R)) (M.length + (txs ts).length) ws'
  | [], M, R, ws, _, h => ⟨ws, rfl, by simpa [txs] using h⟩
  | t :: r, M, R, ws, hk, h => by
    obtain ⟨h1, h2⟩ := hk
    have e : M ++ (txs (t :: r) ++ R) = M ++ (t.tx ++ (txs r ++ R)) := by rw [txs_cons, List.append_assoc]
    have e2 : M ++ (t.tx ++ (txs r ++ R)) = (M ++ t.tx) ++ (txs r ++ R) := by rw [List.append_assoc]
    rw [e] at h ⊢
    by_cases hb : ∃ b, t = .bl b
    · obtain ⟨b, rfl⟩ := hb
      have h3 := wds_blanks b M (txs r ++ R) ws h1 h
      obtain ⟨ws', hw, hr⟩ := tok_split r (M ++ b) R ws h2 (by rw [← show M ++ (b ++ (txs r ++ R)) = M ++ b ++ (txs r ++ R) from by rw [List.append_assoc], List.length_append]; exact h3)
      rw [List.length_append] at hw hr
      refine ⟨ws', by rw [wdsN]; exact hw, ?_⟩
      rw [txs_cons, List.length_append, ← Nat.add_assoc]
      rw [List.append_assoc] at hr
      exact hr
    · obtain ⟨b, kd, tx, hb1, hb2, hl, hwd⟩ := tok_lw t M (txs r ++ R) h1 (fun b hb' => hb ⟨b, hb'⟩)
      obtain ⟨-, w1, hw1, hr1⟩ := wds_here hb1 hb2 h
      rw [hl] at hw1 hr1
      simp only at hw1 hr1
      obtain ⟨ws', hw, hr⟩ := tok_split r (M ++ t.tx) R w1 h2 (by rw [← e2, List.length_append]; exact hr1)
      rw [List.length_append] at hw hr
      refine ⟨ws', by rw [hw1, wdsN, hwd, hw]; rfl, ?_⟩
      rw [txs_cons, List.length_append, ← Nat.add_assoc]
      rw [List.append_assoc] at hr
      exact hr
/-- a text of tokens, cut off somewhere -/
theorem take_split : ∀ (ts : List Tk) (n : Nat), n < (txs ts).length → ∃ ts1 t ts2 m, ts = ts1 ++ t :: ts2 ∧ m < t.tx.length ∧ (txs ts).take n = txs ts1 ++ t.tx.take m
  | [], n, h => by simp [txs] at h
  | t :: r, n, h => by
    rw [txs_cons, List.length_append] at h
    by_cases hn : n < t.tx.length
    · refine ⟨[], t, r, n, rfl, hn, ?_⟩
      rw [txs_cons, List.take_append_of_le_length (by omega)]; rfl
    · obtain ⟨ts1, t', ts2, m, he, hm, ht⟩ := take_split r (n - t.tx.length) (by omega)
      refine ⟨t :: ts1, t', ts2, m, by rw [he]; rfl, hm, ?_⟩
      rw [txs_cons, txs_cons, List.append_assoc, ← ht, List.take_append, List.take_of_length_le (by omega)]
/-- signs that open, less those that shut -/
def bal : List Wd → Int
  | [] => 0
  | x :: r => (if x.kd = 1 then (if x.tx = [91] ∨ x.tx = [123] then 1 else if x.tx = [93] ∨ x.tx = [125] then -1 else 0) else 0) + bal r
theorem bal_app : ∀ (a b : List Wd), bal (a ++ b) = bal a + bal b
  | [], b => by simp [bal]
  | x :: a, b => by rw [List.cons_append, bal, bal, bal_app a b, Int.add_assoc]
/-- a string that was written, cut off, is wrong, whatever stands ahead of it -/
theorem cut_wrongM (toml : Bool) (s M : List UInt8) (n : Nat) (hv : ∀ j < cnt s, tkN (s.drop (pos s j)) ≠ 0) (h1 : 1 ≤ n) (h2 : n < (qtA toml s).length) :
    0 ≤ (rdA (oE 34) (pcB toml) (M ++ (qtA toml s).take n) (M.length + 1)).2.2 := by
  have hl : (M ++ (qtA toml s).take n).length = M.length + n := by rw [List.length_append, List.length_take]; omega
  have hr := rd_range toml (M ++ (qtA toml s).take n) ((M ++ (qtA toml s).take n).length + 1) (M.length + 1) [] (by omega) (by omega)
  rcases hr with h | h
  · have e : M ++ (qtA toml s).take n ++ (qtA toml s).drop n = M ++ qtA toml s := by rw [List.append_assoc, List.take_append_drop]
    have hk := rd_keeps toml (M ++ (qtA toml s).take n) ((qtA toml s).drop n) ((M ++ (qtA toml s).take n).length + 1) (M.length + 1) [] ((M ++ qtA toml s).length + 1) (by omega) (by omega) (by rw [e]; omega) h
    rw [e] at hk
    have hw := rd_whole toml s M [] hv
    rw [List.append_nil] at hw
    have hw' : rd (oE 34) (pcB toml) (M ++ qtA toml s) ((M ++ qtA toml s).length + 1) (M.length + 1) [] = (s, M.length + (qtA toml s).length, -1) := hw
    have h9 := hk.2
    rw [← hk.1, hw'] at h9
    simp only at h9
    omega
  · exact h.1
theorem lwN_ok {T : List UInt8} {i : Nat} (h : (lwN T i).er = 0) : (lwN T i).kd = 3 ∧ (lwN T i).nx = i + run numC (T.drop i) := by
  unfold lwN at h ⊢
  split
  · rename_i h1; rw [if_pos h1] at h; cases h
  · rename_i h1
    rw [if_neg h1] at h
    split
    · rename_i h2; rw [if_pos h2] at h; cases h
    · rename_i h2
      rw [if_neg h2] at h
      split
      · rename_i h3; rw [if_pos h3] at h; cases h
      · exact ⟨rfl, rfl⟩
theorem lit_cut {s : List UInt8} {m : Nat} (h : litB s = true) (hm : m < s.length) : litB (s.take m) = false := by
  unfold litB at h
  rw [decide_eq_true_eq] at h
  rcases h with rfl | rfl | rfl
  · have : ∀ m < 4, litB (List.take m [116, 114, 117, 101]) = false := by decide
    exact this m hm
  · have : ∀ m < 5, litB (List.take m [102, 97, 108, 115, 101]) = false := by decide
    exact this m hm
  · have : ∀ m < 4, litB (List.take m [110, 117, 108, 108]) = false := by decide
    exact this m hm
/-- what is left of a token that was cut off holds no sign -/
theorem cut_tail (t : Tk) (M : List UInt8) (m : Nat) (ws : List Wd) (hm : m < t.tx.length) (hk : ∃ R, t.ok R) (h : Wds (M ++ t.tx.take m) M.length ws) : bal ws = 0 ∧ (m = 0 → ∃ z, ws = [z] ∧ z.kd = 0) := by
  have end_ : ∀ (p : List UInt8), (∀ x ∈ p, blB x = true) → Wds (M ++ p) M.length ws → ∃ z, ws = [z] ∧ z.kd = 0 := by
    intro p hp hw
    have h1 := wds_blanks p M [] ws hp (by rw [List.append_nil]; exact hw)
    rw [List.append_nil] at h1
    have e : M.length + p.length = (M ++ p).length := by rw [List.length_append]
    rw [e] at h1
    cases h1 with
    | stop _ _ _ => exact ⟨_, rfl, rfl⟩
    | word _ j hij hj => omega
  by_cases h0 : m = 0
  · subst h0
    obtain ⟨z, rfl, hz⟩ := end_ [] (by simp) (by simpa using h)
    refine ⟨?_, fun _ => ⟨z, rfl, hz⟩⟩
    rw [bal, bal, if_neg (by omega)]; rfl
  refine ⟨?_, fun e => absurd e h0⟩
  obtain ⟨R, hok⟩ := hk
  cases t with
  | bl b =>
    obtain ⟨z, rfl, hz⟩ := end_ (b.take m) (fun x hx => hok x (List.mem_of_mem_take hx)) h
    rw [bal, bal, if_neg (by omega)]; rfl
  | sg c => simp [Tk.tx] at hm; omega
  | st s =>
    exfalso
    obtain ⟨q, hq⟩ : ∃ q, qtA false s = 34 :: q := ⟨_, rfl⟩
    have hb : (M ++ (qtA false s).take m)[M.length]? = some 34 := by
      obtain ⟨k, rfl⟩ : ∃ k, m = k + 1 := ⟨m - 1, by omega⟩
      rw [hq, List.take_succ_cons]; exact get_mid M 34 _
    obtain ⟨he, -⟩ := wds_here hb (by decide) h
    have hc := cut_wrongM false s M m hok.1.vld (by omega) hm
    have hu : 0 ≤ (unqJ (M ++ (qtA false s).take m) (M.length : Nat)).2.2 := by
      unfold unqJ
      rw [if_pos ⟨by omega, by rw [Int.toNat_natCast]; exact bt_some hb⟩, Int.toNat_natCast]
      exact hc
    change (lw (M ++ (qtA false s).take m) M.length).er = 0 at he
    rw [lw_qt hb (by decide) (by decide) (by decide)] at he
    unfold lwS at he
    rw [if_pos hu] at he
    cases he
  | nu s =>
    have hN := hok.1
    unfold numB at hN
    rw [Bool.and_eq_true, Bool.and_eq_true, decide_eq_true_eq] at hN
    obtain ⟨⟨hp, hw⟩, hlen⟩ := hN
    obtain ⟨hall, s0, S', hS, h0'⟩ := num_bytes hp
    have hb : (M ++ s.take m)[M.length]? = some s0 := by
      obtain ⟨k, rfl⟩ : ∃ k, m = k + 1 := ⟨m - 1, by omega⟩
      rw [hS, List.take_succ_cons]; exact get_mid M s0 _
    have hbl : blB s0 = false := by
      unfold numS at h0'; have := of_decide_eq_true h0'
      unfold blB; exact decide_eq_false (by omega)
    have hsg : sgnB s0 = false := by
      unfold numS at h0'; have := of_decide_eq_true h0'
      unfold sgnB; exact decide_eq_false (by omega)
    have hq : s0.toNat ≠ 34 := by unfold numS at h0'; have := of_decide_eq_true h0'; omega
    have hr : run numC ((M ++ s.take m).drop M.length) = (s.take m).length := by rw [drop_mid]; exact run_self (fun x hx => hall x (List.mem_of_mem_take hx))
    obtain ⟨he, w1, hw1, hr1⟩ := wds_here hb hbl h
    change (lw (M ++ s.take m) M.length).er = 0 at he
    change Wds (M ++ s.take m) (lw (M ++ s.take m) M.length).nx w1 at hr1
    change ws = ⟨(lw (M ++ s.take m) M.length).kd, _, _⟩ :: w1 at hw1
    rw [lw_nm hb hbl hsg hq h0'] at he hr1 hw1
    obtain ⟨k1, k2⟩ := lwN_ok he
    rw [k2, hr, ← List.length_append] at hr1
    cases hr1 with
    | stop _ _ _ =>
      rw [hw1, bal, bal, bal, if_neg (by simp only; omega), if_neg (by simp)]; rfl
    | word _ j hij hj => omega
  | li s =>
    exfalso
    obtain ⟨⟨s0, S', hS, hbl, hsg, hq, h0'⟩, hall⟩ := lit_head hok.1
    have hb : (M ++ s.take m)[M.length]? = some s0 := by
      obtain ⟨k, rfl⟩ : ∃ k, m = k + 1 := ⟨m - 1, by omega⟩
      rw [hS, List.take_succ_cons]; exact get_mid M s0 _
    have hr : run lowC ((M ++ s.take m).drop M.length) = (s.take m).length := by rw [drop_mid]; exact run_self (fun x hx => hall x (List.mem_of_mem_take hx))
    obtain ⟨he, -⟩ := wds_here hb hbl h
    change (lw (M ++ s.take m) M.length).er = 0 at he
    rw [lw_lt hb hbl hsg hq h0'] at he
    unfold lwL at he
    rw [hr, drop_mid, List.take_length, if_neg (by rw [lit_cut hok.1 hm]; decide)] at he
    cases he
end Go.Proofs.YtkhjahpkbjafaaaGreatDoor
