/- TlexKeysBack: the mathematics, strings handed in, and the walk. -/
import Derived.Test.YtdlideihlcjblaaGreatDoorEscRQ2
import Derived.Test.YtdlideihlcjblaaGreatDoorMathJ
import Derived.Test.YtdlideihlcjblaaGreatDoorTlS
import Derived.Test.YtdlideihlcjblaaGreatDoorVBase
import Derived.WideShapes
import Derived.Test.YtdlideihlcjblaaGreatDoorL10A
import Derived.Test.YtdlideihlcjblaaGreatDoorVStr
namespace Go.Proofs.YtdlideihlcjblaaGreatDoor
open Go.RowKit

theorem ltr_small (b : Nat) (h : b < 128) : ltr (b : Int) = [UInt8.ofNat b] := by
  unfold ltr enc encI
  rw [good_yes (by omega) (by omega) (by omega), if_pos rfl, if_pos (by omega), strOfNums_data']
  simp
theorem hx_cd (n : Nat) (h : n < 256) : hexB [48, 48, hxD (n / 16), hxD (n % 16)] = true ∧ hexF [48, 48, hxD (n / 16), hxD (n % 16)] = n := by
  revert n; decide +kernel
theorem cdI_u (n : Nat) (h : n < 256) (m : List UInt8) : cdI ([92, 117, 48, 48, hxD (n / 16), hxD (n % 16)] ++ m) 2 4 = n := by
  have e : (([92, 117, 48, 48, hxD (n / 16), hxD (n % 16)] ++ m).drop 2).take 4 = [48, 48, hxD (n / 16), hxD (n % 16)] := rfl
  unfold cdI
  rw [e, if_pos ⟨by simp, (hx_cd n h).1⟩, (hx_cd n h).2]
theorem esc_two (toml : Bool) (c : UInt8) (m : List UInt8) (h : nmV toml c.toNat < 256) : escP toml ([92, c] ++ m) = ([UInt8.ofNat (nmV toml c.toNat)], 2) := by
  have e : bt ([92, c] ++ m) 1 = c.toNat := rfl
  unfold escP
  rw [e, if_pos h]
theorem esc_six (toml : Bool) (n : Nat) (h : n < 128) (m : List UInt8) : escP toml ([92, 117, 48, 48, hxD (n / 16), hxD (n % 16)] ++ m) = ([UInt8.ofNat n], 6) := by
  rw [esc_u toml _ rfl]
  have hc := cdI_u n (by omega) m
  unfold escU
  rw [hc, if_pos ⟨by omega, good_yes (by omega) (by omega) (by omega)⟩, ltr_small n h]
theorem head_take {l : List UInt8} (h : 0 < l.length) : l.take 1 = [UInt8.ofNat (bt l 0)] := by
  cases l with
  | nil => simp at h
  | cons a t => rw [bt_cons]; simp
/-- what is written of a letter, with whatever behind it, is read as that letter -/
theorem back_step (toml : Bool) (l m : List UInt8) (h0 : tkN l ≠ 0) :
    (if toml = true then oeP (qst toml l ++ m) else jsP (qst toml l ++ m)) = (l.take (tkN l), (qst toml l).length) ∧ bt (qst toml l ++ m) 0 ≠ 34 ∧ 0 < (qst toml l).length := by
  have hll : 0 < l.length := by have := tkN_le l; omega
  by_cases hw : 1 < tkN l ∨ bt l 0 = 127 ∧ toml = false
  · have hq := qst_as (toml := toml) h0 hw
    have hlen : (l.take (tkN l)).length = tkN l := by rw [List.length_take]; have := tkN_le l; omega
    have hst : stp l = tkN l := by unfold stp; omega
    have htk : tkN (l.take (tkN l) ++ m) = tkN l := by
      have h1 := tk_cut l hll
      rw [hst] at h1
      rw [tkN_more _ _ (by rw [h1]; exact h0), h1]
    have hb : bt (l.take (tkN l) ++ m) 0 = bt l 0 := by
      rw [bt_app _ _ _ (by rw [hlen]; omega)]
      unfold bt
      rw [List.getElem?_take_of_lt (by omega)]
    have hbig : 127 ≤ bt l 0 ∧ bt l 0 < 256 := by
      refine ⟨?_, bt_in hll⟩
      by_cases h1 : bt l 0 < 128
      · rw [tk_ascii h1] at hw; omega
      · omega
    have hpl : plP (l.take (tkN l) ++ m) = (l.take (tkN l), tkN l) := by
      unfold plP
      rw [htk, List.take_append_of_le_length (by omega), List.take_take, Nat.min_self]
    rw [hq]
    refine ⟨?_, by rw [hb]; omega, by omega⟩
    rw [hlen]
    cases toml with
    | false =>
      rw [if_neg (by decide)]
      unfold jsP
      rw [hb, if_neg (by omega), if_neg (by omega), hpl]
    | true =>
      rw [if_pos rfl]
      have h127 : bt l 0 ≠ 127 := by
        rcases hw with h | ⟨-, h⟩
        · intro hc; rw [tk_ascii (by omega)] at h; omega
        · cases h
      unfold oeP opP
      rw [hb, if_neg (by omega), if_neg (by omega), hpl]
  · have h1 : tkN l = 1 := by omega
    have hsm : bt l 0 < 128 := tk_small h0 (by omega)
    have hq := qst_small (toml := toml) h0 hsm (fun h => hw (Or.inr h))
    rw [hq, h1, head_take hll]
    obtain ⟨b, hb⟩ : ∃ b, bt l 0 = b := ⟨_, rfl⟩
    rw [hb] at hsm ⊢
    have h127 : b = 127 → toml = true := by
      intro h
      cases toml with
      | true => rfl
      | false => exact absurd (Or.inr ⟨by omega, rfl⟩) hw
    clear hq hw h1 h0 hll hb
    have fin : ∀ (q : List UInt8), bt (q ++ m) 0 = 92 → 0 < q.length → escP toml (q ++ m) = ([UInt8.ofNat b], q.length) →
        (if toml = true then oeP (q ++ m) else jsP (q ++ m)) = ([UInt8.ofNat b], q.length) ∧ bt (q ++ m) 0 ≠ 34 ∧ 0 < q.length := by
      intro q e1 e2 e3
      refine ⟨?_, by omega, e2⟩
      cases toml with
      | false => rw [if_neg (by decide)]; unfold jsP; rw [if_pos e1, e3]
      | true => rw [if_pos rfl]; unfold oeP; rw [if_pos e1, e3]
    unfold qbB
    by_cases c1 : b = 34 ∨ b = 92
    · rw [if_pos c1]
      refine fin [92, UInt8.ofNat b] rfl (by simp) ?_
      have e : (UInt8.ofNat b).toNat = b := by simp; omega
      have hn : nmV toml b = b := by unfold nmV; rcases c1 with h | h <;> subst h <;> simp
      rw [esc_two toml _ m (by rw [e, hn]; omega), e, hn]; rfl
    · rw [if_neg c1]
      by_cases e8 : b = 8
      · rw [if_pos e8]; subst e8; exact fin [92, 98] rfl (by simp) (by rw [esc_two toml 98 m (by cases toml <;> decide)]; cases toml <;> rfl)
      · rw [if_neg e8]
        by_cases e9 : b = 9
        · rw [if_pos e9]; subst e9; exact fin [92, 116] rfl (by simp) (by rw [esc_two toml 116 m (by cases toml <;> decide)]; cases toml <;> rfl)
        · rw [if_neg e9]
          by_cases e10 : b = 10
          · rw [if_pos e10]; subst e10; exact fin [92, 110] rfl (by simp) (by rw [esc_two toml 110 m (by cases toml <;> decide)]; cases toml <;> rfl)
          · rw [if_neg e10]
            by_cases e12 : b = 12
            · rw [if_pos e12]; subst e12; exact fin [92, 102] rfl (by simp) (by rw [esc_two toml 102 m (by cases toml <;> decide)]; cases toml <;> rfl)
            · rw [if_neg e12]
              by_cases e13 : b = 13
              · rw [if_pos e13]; subst e13; exact fin [92, 114] rfl (by simp) (by rw [esc_two toml 114 m (by cases toml <;> decide)]; cases toml <;> rfl)
              · rw [if_neg e13]
                by_cases ct : b < 32 ∨ b = 127
                · rw [if_pos ct]
                  exact fin [92, 117, 48, 48, hxD (b / 16), hxD (b % 16)] rfl (by simp) (esc_six toml b hsm m)
                · rw [if_neg ct]
                  have e : bt ([UInt8.ofNat b] ++ m) 0 = b := by
                    show (UInt8.ofNat b).toNat = b
                    simp; omega
                  have hp : plP ([UInt8.ofNat b] ++ m) = ([UInt8.ofNat b], 1) := by unfold plP; rw [tk_ascii (by rw [e]; exact hsm)]; rfl
                  refine ⟨?_, by rw [e]; omega, by simp⟩
                  cases toml with
                  | false => rw [if_neg (by decide)]; unfold jsP; rw [e, if_neg (by omega), if_neg (by omega), hp]; rfl
                  | true => rw [if_pos rfl]; unfold oeP opP; rw [e, if_neg (by omega), if_neg (by omega), hp]; rfl
def pcB (toml : Bool) : List UInt8 → List UInt8 × Nat := if toml = true then oeP else jsP
theorem pcB_at (toml : Bool) (l : List UInt8) : pcB toml l = if toml = true then oeP l else jsP l := by unfold pcB; cases toml <;> rfl
/-- what is written of letters is read back, wherever it stands -/
theorem rd_back (toml : Bool) (s M N : List UInt8) (hv : ∀ j < cnt s, tkN (s.drop (pos s j)) ≠ 0) :
    ∀ k ≤ cnt s, ∃ f, rdA (oE 34) (pcB toml) (M ++ qtA toml s ++ N) (M.length + 1) = rd (oE 34) (pcB toml) (M ++ qtA toml s ++ N) f (M.length + (qtK toml s k).length) (s.take (pos s k)) ∧ (M ++ qtA toml s ++ N).length < M.length + (qtK toml s k).length + f := by
  intro k
  induction k with
  | zero =>
    intro _
    exact ⟨(M ++ qtA toml s ++ N).length + 1, rfl, by omega⟩
  | succ k ih =>
    intro hk
    obtain ⟨f, h1, h2⟩ := ih (by omega)
    have hsplit : ∀ j ≤ cnt s, ∃ r, qtA toml s = qtK toml s j ++ r ∧ (j < cnt s → ∃ r', r = qst toml (s.drop (pos s j)) ++ r') := by
      intro j hj
      have hq : ∀ d j, j + d = cnt s → ∃ r, qtA toml s = qtK toml s j ++ r ∧ (j < cnt s → ∃ r', r = qst toml (s.drop (pos s j)) ++ r') := by
        intro d
        induction d with
        | zero => intro j hj; refine ⟨[34], ?_, fun h => by omega⟩; unfold qtA; rw [show cnt s = j by omega]
        | succ d ih =>
          intro j hj
          obtain ⟨r, hr, -⟩ := ih (j + 1) (by omega)
          exact ⟨qst toml (s.drop (pos s j)) ++ r, by rw [hr, qtK_succ, List.append_assoc], fun _ => ⟨r, rfl⟩⟩
      exact hq (cnt s - j) j (by omega)
    obtain ⟨r, hr, hr'⟩ := hsplit k (by omega)
    obtain ⟨r', rfl⟩ := hr' (by omega)
    have hdrop : (M ++ qtA toml s ++ N).drop (M.length + (qtK toml s k).length) = qst toml (s.drop (pos s k)) ++ (r' ++ N) := by
      rw [hr]
      simp only [List.append_assoc]
      rw [List.drop_append, List.drop_of_length_le (by omega), Nat.add_sub_cancel_left, List.drop_append, List.drop_of_length_le (Nat.le_refl _), Nat.sub_self, List.drop_zero, List.nil_append, List.nil_append]
    obtain ⟨b1, b2, b3⟩ := back_step toml (s.drop (pos s k)) (r' ++ N) (hv k (by omega))
    rw [← pcB_at] at b1
    have hlt : M.length + (qtK toml s k).length < (M ++ qtA toml s ++ N).length := by
      have h8 := congrArg List.length hdrop
      rw [List.length_drop] at h8
      have h9 : (qst toml (s.drop (pos s k)) ++ (r' ++ N)).length = (qst toml (s.drop (pos s k))).length + (r' ++ N).length := List.length_append
      omega
    obtain ⟨f', h3, h4⟩ := rd_step (E := oE 34) (P := pcB toml) (acc := s.take (pos s k)) h2 hlt (by rw [hdrop]; exact oE_no b2) (by rw [hdrop, b1]; exact b3)
    rw [hdrop, b1] at h3 h4
    refine ⟨f', ?_, ?_⟩
    · rw [h1, h3, qtK_succ, List.length_append, Nat.add_assoc]
      congr 1
      have hpk : pos s (k + 1) = pos s k + tkN (s.drop (pos s k)) := by
        have := hv k (by omega)
        simp only [pos, stp]; omega
      rw [hpk, List.take_add]
    · have h5 : (M ++ qtA toml s ++ N).length < M.length + (qtK toml s k).length + (qst toml (s.drop (pos s k))).length + f' := h4
      have e : (qtK toml s (k + 1)).length = (qtK toml s k).length + (qst toml (s.drop (pos s k))).length := by rw [qtK_succ, List.length_append]
      omega
theorem rd_whole (toml : Bool) (s M N : List UInt8) (hv : ∀ j < cnt s, tkN (s.drop (pos s j)) ≠ 0) :
    rdA (oE 34) (pcB toml) (M ++ qtA toml s ++ N) (M.length + 1) = (s, M.length + (qtA toml s).length, -1) := by
  obtain ⟨f, h1, h2⟩ := rd_back toml s M N hv (cnt s) (Nat.le_refl _)
  have hdrop : (M ++ qtA toml s ++ N).drop (M.length + (qtK toml s (cnt s)).length) = [34] ++ N := by
    unfold qtA
    simp only [List.append_assoc]
    rw [List.drop_append, List.drop_of_length_le (by omega), Nat.add_sub_cancel_left, List.drop_append, List.drop_of_length_le (Nat.le_refl _), Nat.sub_self, List.drop_zero, List.nil_append, List.nil_append]
  have hE : oE 34 ([34] ++ N) = ([], 1) := oE_yes rfl
  have hlt : M.length + (qtK toml s (cnt s)).length < (M ++ qtA toml s ++ N).length := by
    have h8 := congrArg List.length hdrop
    rw [List.length_drop] at h8
    have h9 : ([34] ++ N).length = 1 + N.length := by rw [List.length_append]; rfl
    omega
  rw [h1, rd_stop h2 hlt (by rw [hdrop, hE]; decide), hdrop, hE, (cnt_has s).1, List.take_length, List.append_nil]
  have : (qtA toml s).length = (qtK toml s (cnt s)).length + 1 := by unfold qtA; simp
  rw [this]; rfl
end Go.Proofs.YtdlideihlcjblaaGreatDoor
namespace Go.Proofs.YtdlideihlcjblaaGreatDoor

theorem kqtA_len (toml : Bool) (s : List UInt8) : (qtA toml s).length ≤ 6 * s.length + 2 := by
  have h1 := qtK_len toml s (cnt s)
  have h2 := cnt_le s
  unfold qtA; rw [List.length_append]
  have : ([34] : List UInt8).length = 1 := rfl
  omega
theorem kqtA_head (toml : Bool) (s M N : List UInt8) : bt (M ++ qtA toml s ++ N) M.length = 34 := by
  unfold qtA qtK bt
  simp
theorem km3_back (s M N : List UInt8) (hv : ∀ j < cnt s, tkN (s.drop (pos s j)) ≠ 0) (h0 : s = [] → bt N 0 ≠ 34) : m3 34 ((M ++ qtA true s ++ N).drop M.length) = false := by
  have hd : (M ++ qtA true s ++ N).drop M.length = qtA true s ++ N := by rw [List.append_assoc, List.drop_left]
  rw [hd]
  by_cases hs : s = []
  · subst hs
    have e : qtA true [] ++ N = 34 :: 34 :: N := rfl
    unfold m3
    rw [e, show bt (34 :: 34 :: N) 2 = bt N 0 by rw [bt_succ, bt_succ], decide_eq_false (h0 rfl)]; simp
  · have hc : 0 < cnt s := by
      have := below_cnt s 0 (by simp only [pos]; exact List.length_pos_iff.2 hs)
      exact this
    have e : ∃ r, qtA true s = 34 :: (qst true (s.drop (pos s 0)) ++ r) := by
      obtain ⟨d, hd⟩ : ∃ d, cnt s = d + 1 := ⟨cnt s - 1, by omega⟩
      unfold qtA qtK
      rw [hd, List.range_succ_eq_map, List.flatMap_cons]
      exact ⟨_, by rw [List.cons_append, List.append_assoc]⟩
    obtain ⟨r, hr⟩ := e
    have hb := (back_step true (s.drop (pos s 0)) (r ++ N) (hv 0 hc)).2.1
    unfold m3
    rw [hr, List.cons_append, List.append_assoc, bt_succ, decide_eq_false hb]; simp
theorem kunqT_back (s M N : List UInt8) (hv : ∀ j < cnt s, tkN (s.drop (pos s j)) ≠ 0) (h0 : s = [] → bt N 0 ≠ 34) : unqT (M ++ qtA true s ++ N) (M.length : Int) = (s, M.length + (qtA true s).length, -1) := by
  have hb := kqtA_head true s M N
  rw [unqT_is _ _ 34 hb (Or.inl rfl), km3_back s M N hv h0, ee_one, pp_oe]
  exact rd_whole true s M N hv
/-- a part as it is written -/
def wk (p : List UInt8) : List UInt8 := if brB p = true then p else qtA true p
def jt : List (List UInt8) → List UInt8
  | [] => []
  | p :: r => 32 :: 46 :: 32 :: (wk p ++ jt r)
def jn : List (List UInt8) → List UInt8
  | [] => []
  | p :: r => wk p ++ jt r
theorem jt_snoc : ∀ (r : List (List UInt8)) (q : List UInt8), jt (r ++ [q]) = jt r ++ (32 :: 46 :: 32 :: wk q)
  | [], q => by simp [jt]
  | p :: r, q => by rw [List.cons_append, jt, jt_snoc r q, jt]; simp
theorem jn_snoc (l : List (List UInt8)) (q : List UInt8) (h : l ≠ []) : jn (l ++ [q]) = jn l ++ [32, 46, 32] ++ wk q := by
  cases l with
  | nil => exact absurd rfl h
  | cons p r => rw [List.cons_append, jn, jt_snoc, jn]; simp
theorem wk_len (p : List UInt8) : (wk p).length ≤ 6 * p.length + 2 := by
  unfold wk; split
  · omega
  · exact kqtA_len true p
theorem wk_head (p : List UInt8) : ∃ c t, wk p = c :: t ∧ c.toNat ≠ 32 ∧ c.toNat ≠ 9 := by
  unfold wk
  by_cases h : brB p = true
  · rw [if_pos h]
    unfold brB at h
    cases p with
    | nil => simp at h
    | cons c t =>
      refine ⟨c, t, rfl, ?_⟩
      simp only [List.isEmpty_cons, Bool.not_false, Bool.true_and, List.all_cons, Bool.and_eq_true] at h
      have := h.1
      unfold brI at this; simp at this; omega
  · rw [if_neg h]
    unfold qtA qtK
    exact ⟨34, _, rfl, by decide, by decide⟩
theorem krun_all {p : UInt8 → Bool} {W N : List UInt8} (h : W.all p = true) (hN : ∀ c m, N = c :: m → p c = false) : run p (W ++ N) = W.length := by
  unfold run
  rw [List.takeWhile_append_of_pos (fun b hb => List.all_eq_true.1 h b hb)]
  cases N with
  | nil => simp
  | cons c m => rw [List.takeWhile_cons_of_neg (by rw [hN c m rfl]; decide)]; simp
def KV (s : List UInt8) : Prop := ∀ j < cnt s, tkN (s.drop (pos s j)) ≠ 0
theorem kp_back (p A N : List UInt8) (hv : KV p) : kpT (A ++ wk p ++ (32 :: N)) A.length = (p, A.length + (wk p).length, -1) := by
  have hd : (A ++ wk p ++ (32 :: N)).drop A.length = wk p ++ (32 :: N) := by rw [List.append_assoc, List.drop_left]
  unfold kpT
  by_cases h : brB p = true
  · have hw : wk p = p := by unfold wk; rw [if_pos h]
    rw [hw] at hd ⊢
    have h2 := h
    unfold brB at h2
    cases p with
    | nil => simp at h2
    | cons c t =>
      simp only [List.isEmpty_cons, Bool.not_false, Bool.true_and] at h2
      have hc : brI c = true := by rw [List.all_cons, Bool.and_eq_true] at h2; exact h2.1
      have hr := krun_all (N := 32 :: N) h2 (fun c m e => by cases e; decide)
      have m1 : m3 34 (c :: t ++ (32 :: N)) = false := by
        unfold m3; rw [List.cons_append, bt_cons]
        have : c.toNat ≠ 34 := by unfold brI at hc; simp at hc; omega
        simp [this]
      have m2 : m3 39 (c :: t ++ (32 :: N)) = false := by
        unfold m3; rw [List.cons_append, bt_cons]
        have : c.toNat ≠ 39 := by unfold brI at hc; simp at hc; omega
        simp [this]
      rw [hd, m1, m2, hr, if_neg (by decide), if_neg (by simp), List.take_left]
  · have hw : wk p = qtA true p := by unfold wk; rw [if_neg h]
    rw [hw] at hd ⊢
    have m1 := km3_back p A (32 :: N) hv (fun _ => by rw [bt_cons]; decide)
    have hq : ∃ t, qtA true p = 34 :: t := by unfold qtA qtK; exact ⟨_, rfl⟩
    obtain ⟨t, ht⟩ := hq
    have m2 : m3 39 ((A ++ qtA true p ++ (32 :: N)).drop A.length) = false := by
      rw [hd, ht, List.cons_append]; unfold m3; rw [bt_cons]; simp
    have hr : run brI ((A ++ qtA true p ++ (32 :: N)).drop A.length) = 0 := by
      rw [hd, ht, List.cons_append]; unfold run; rw [List.takeWhile_cons_of_neg (by decide)]; rfl
    rw [m1, m2, if_neg (by decide), hr, if_pos rfl]
    exact kunqT_back p A (32 :: N) hv (fun _ => by rw [bt_cons]; decide)
theorem kd_at (M N : List UInt8) (k : Nat) (h : k = M.length) : kdP (M ++ N) k = M.length + run bkB N := by
  subst h; unfold kdP; rw [List.drop_left]
theorem kbt_app (M N : List UInt8) (k : Nat) : bt (M ++ N) (M.length + k) = bt N k := by
  rw [← bt_drop, List.drop_left]
theorem ky_back : ∀ (r : List (List UInt8)) (p A : List UInt8) (f : Nat) (acc : List (List UInt8)), KV p → (∀ q ∈ r, KV q) →
    (A ++ wk p ++ (jt r ++ [32, 61, 32, 49])).length < A.length + f → kyT (A ++ wk p ++ (jt r ++ [32, 61, 32, 49])) f A.length acc = (acc ++ p :: r, (A ++ wk p ++ jt r).length, -1)
  | [], p, A, f, acc, hp, _, hf => by
    have k := kp_back p A [61, 32, 49] hp
    have e : jt [] ++ [32, 61, 32, 49] = 32 :: [61, 32, 49] := rfl
    rw [e] at hf ⊢
    have hd : kdP (A ++ wk p ++ (32 :: [61, 32, 49])) (A.length + (wk p).length) = (A ++ wk p).length + 1 := by
      rw [kd_at (A ++ wk p) _ _ (by simp)]; rfl
    have hb : bt (A ++ wk p ++ (32 :: [61, 32, 49])) ((A ++ wk p).length + 1) = 61 := by rw [kbt_app]; rfl
    rw [kyT_end hf (by simp) (by rw [k]; simp) (by rw [k]; simp only; rw [hd, hb]; decide), k]
    simp [jt]
  | q :: r, p, A, f, acc, hp, hr, hf => by
    have e : jt (q :: r) ++ [32, 61, 32, 49] = 32 :: (46 :: 32 :: (wk q ++ (jt r ++ [32, 61, 32, 49]))) := by rw [jt]; simp
    rw [e] at hf ⊢
    have k := kp_back p A (46 :: 32 :: (wk q ++ (jt r ++ [32, 61, 32, 49]))) hp
    generalize hT : A ++ wk p ++ (32 :: (46 :: 32 :: (wk q ++ (jt r ++ [32, 61, 32, 49])))) = T at *
    have hd : kdP T (A.length + (wk p).length) = (A ++ wk p).length + 1 := by
      rw [← hT, kd_at (A ++ wk p) _ _ (by simp)]; rfl
    have hb : bt T ((A ++ wk p).length + 1) = 46 := by rw [← hT, kbt_app]; rfl
    have hT2 : T = A ++ wk p ++ [32, 46, 32] ++ wk q ++ (jt r ++ [32, 61, 32, 49]) := by rw [← hT]; simp
    have hd2 : kdP T ((A ++ wk p).length + 1 + 1) = (A ++ wk p ++ [32, 46, 32]).length := by
      have e2 : T = (A ++ wk p ++ [32, 46]) ++ (32 :: (wk q ++ (jt r ++ [32, 61, 32, 49]))) := by rw [← hT]; simp
      rw [e2, kd_at (A ++ wk p ++ [32, 46]) _ _ (by simp; omega)]
      obtain ⟨c, t, ew, h1, h2⟩ := wk_head q
      have : run bkB (32 :: (wk q ++ (jt r ++ [32, 61, 32, 49]))) = 1 := by
        rw [ew, List.cons_append]
        unfold run
        rw [List.takeWhile_cons_of_pos (by decide), List.takeWhile_cons_of_neg (by unfold bkB; simp; omega)]; rfl
      rw [this]; simp; omega
    have hlt : (kpT T A.length).2.2 < 0 := by rw [k]; simp
    obtain ⟨f', g1, g2, g3, g4, g5⟩ := kyT_more (acc := acc) hf (by rw [← hT]; simp) hlt (by rw [k]; simp only; rw [hd, hb])
    rw [g1]
    rw [k] at g2 ⊢
    simp only at g2 ⊢
    rw [hd, hd2] at g2 ⊢
    have ih := ky_back r q (A ++ wk p ++ [32, 46, 32]) f' (acc ++ [p]) (hr q (List.mem_cons_self ..)) (fun x hx => hr x (List.mem_cons_of_mem _ hx)) (by rw [← hT2]; exact g2)
    rw [← hT2] at ih
    rw [ih, jt]
    simp
theorem kyA_back (p : List UInt8) (r : List (List UInt8)) (hp : KV p) (hr : ∀ q ∈ r, KV q) : kyA (jn (p :: r) ++ [32, 61, 32, 49]) 0 = (p :: r, (jn (p :: r)).length, -1) := by
  unfold kyA
  have e : plc (jn (p :: r) ++ [32, 61, 32, 49]) 0 = 0 := by
    have := plc_nat (jn (p :: r) ++ [32, 61, 32, 49]) 0 (Nat.zero_le _); exact this
  rw [e, if_neg (by decide)]
  have := ky_back r p [] ((jn (p :: r) ++ [32, 61, 32, 49]).length + 1) [] hp hr (by simp [jn])
  have e2 : jn (p :: r) ++ [32, 61, 32, 49] = [] ++ wk p ++ (jt r ++ [32, 61, 32, 49]) := by simp [jn]
  rw [e2] at this ⊢
  exact this
end Go.Proofs.YtdlideihlcjblaaGreatDoor
namespace Go.Proofs.YtdlideihlcjblaaGreatDoor
open Go.RowKit

/-- strings that are handed in -/
def InS (w : World) (ks : List ByteArray) (v : Value) : Prop := ∃ (a : Addr), SlOf v a ks.length ∧ ∀ i c, ks[i]? = some c → w.cell? (a.add i) = some (.string c) ∧ c.size ≤ maxLen
theorem InS.onto {w w' : World} {ks : List ByteArray} {v : Value} (h : InS w ks v) (hb : Below w.heap.size w w') : InS w' ks v := by
  obtain ⟨a, h1, h2⟩ := h
  exact ⟨a, h1, fun i c hc => ⟨keepCell hb (h2 i c hc).1, (h2 i c hc).2⟩⟩
end Go.Proofs.YtdlideihlcjblaaGreatDoor
namespace Go.Proofs.YtdlideihlcjblaaGreatDoor
open Go.RowKit Go.WideShapes

theorem strs_of {H : Type} {enc : TypeId × Value → H} {w : World} {base : Nat} {spare : Nat → Bool} {held : Bool} (fuel : Nat) (v : Value) (x : DataW H × List MemPlace) (h : DataW.trod enc Tryz.prog w base spare held fuel 34 [v] = some x) : ∃ ks : List ByteArray, InS w ks v := by
  rcases DataW.trod_slice Tryz.underlying34 h with ⟨hc, -⟩ | ⟨a, len, cap, elems, rest, m2, hm2, hc, -, -, hlc, hcm, hel, hget, -, -⟩
  · cases hc
    exact ⟨[], default, ⟨none, 0, rfl, Nat.le_refl _, Nat.zero_le _, fun h => absurd h (by simp)⟩, fun i t h => by simp at h⟩
  · cases hc
    have key : ∀ i, ∃ r : ByteArray, i < len → w.cell? (a.add i) = some (.string r) ∧ r.size ≤ maxLen := by
      intro i
      by_cases hi : i < len
      · obtain ⟨z, ez⟩ := some_at hel hi
        have hg := (hget i hi).trans ez
        rw [Tryz.cells9] at hg
        obtain ⟨cs', h1, h2⟩ := Option.bind_eq_some_iff.1 hg
        obtain ⟨u, hu0, -, hu⟩ := DataW.trod_string Tryz.underlying9 h2
        subst hu0
        refine ⟨u, fun _ => ⟨?_, hu⟩⟩
        unfold World.cells? at h1
        split at h1
        · simp only [show List.range 1 = [0] from rfl, List.mapM_cons, List.mapM_nil] at h1
          rw [Nat.mul_one] at h1
          rw [show (a.add i).add 0 = a.add i by simp [Addr.add]] at h1
          cases h0 : w.cell? (a.add i) <;> simp [h0] at h1
          rw [h1]
        · cases h1
      · exact ⟨⟨#[]⟩, fun h => absurd h hi⟩
    obtain ⟨F, hF⟩ := Classical.axiomOfChoice key
    refine ⟨(List.range len).map F, a, ⟨some a, cap, by simp, by simpa using hlc, hcm, fun _ => rfl⟩, fun i c h => ?_⟩
    rw [List.getElem?_map] at h
    by_cases hi : i < len
    · rw [List.getElem?_range hi] at h; simp at h; subst h; exact hF i hi
    · rw [List.getElem?_eq_none (by simp; omega)] at h; simp at h
set_option maxRecDepth 100000 in
theorem open_strs {H : Type} {enc : TypeId × Value → H} {w W : World} {base b : Nat} {r : Reach} {spare : Nat → Bool} {held : Bool} {v : Value} {d : DataW H} {ps : List MemPlace}
    (hv : Value.okWide Tryz.prog W r b 34 v) (h : DataW.Trod enc Tryz.prog w base spare held 34 v d ps) : ∃ ks : List ByteArray, InS w ks v := by
  obtain ⟨a, len, cap, rfl⟩ := okWide_slice Tryz.underlying34 hv
  obtain ⟨fuel, hf⟩ := h
  exact strs_of fuel _ _ (by simpa [Value.cells] using hf)
end Go.Proofs.YtdlideihlcjblaaGreatDoor
namespace Go.Proofs.YtdlideihlcjblaaGreatDoor
open Go.RowKit

set_option maxRecDepth 100000 in
set_option maxHeartbeats 4000000 in
theorem rpkey_any (s : ByteArray) (w : World) (hs : s.size ≤ 60) :
    Calls Tryz.prog 62 #[.string s] w fun e w' => e = .returned (.string (mkS (wk s.data.toList))) ∧ Below w.heap.size w w' := by
  have CB := hid (fun X => rbare_any s X (max_le (by omega)))
  have CQ := hid (fun X => rquote_any true s X (by omega))
  have HW : Hid (wk s.data.toList = if brB s.data.toList = true then s.data.toList else qtA true s.data.toList) := rfl
  generalize wk s.data.toList = W at *
  cases hb : brB s.data.toList with
  | true =>
    rw [hb] at CB
    rw [hb, if_pos rfl] at HW
    clear hb CQ
    go_enter Tryz.func62, Tryz.ntmps62
    go_wp2_with (go_at_call 46; go_must (refine (CB.out _).mono ?_; rintro e w1 ⟨rfl, hw⟩; obtain rfl := hw.symm))
    go_ret
    exact ⟨by rw [HW.out]; exact congrArg (fun x => Ending.returned (.string x)) (mkS_of s _ rfl), Below.refl _ _⟩
  | false =>
    rw [hb] at CB
    rw [hb, if_neg (by decide)] at HW
    rw [← HW.out] at CQ
    clear hb
    generalize mkS W = m at *
    go_enter Tryz.func62, Tryz.ntmps62
    go_wp2_with (first
      | (go_at_call 46; go_must (refine (CB.out _).mono ?_; rintro e w1 ⟨rfl, hw⟩; obtain rfl := hw.symm))
      | (go_at_call 93; go_must (refine (CQ.out _).mono ?_; rintro e w2 ⟨rfl, hb2⟩)))
    go_ret
    exact ⟨rfl, hb2⟩
set_option maxRecDepth 100000 in
set_option maxHeartbeats 4000000 in
theorem written_any (s : ByteArray) (w : World) (hs : s.size ≤ 60) :
    Calls Tryz.prog 26 #[.string s] w fun e w' => e = .returned (.string (mkS (wk s.data.toList))) ∧ Below w.heap.size w w' := by
  have CP := hid (fun X => rpkey_any s X hs)
  generalize mkS (wk s.data.toList) = m at *
  go_enter Tryz.func26, Tryz.ntmps26
  go_wp2_with (go_at_call 62; go_must (refine (CP.out _).mono ?_; rintro e w1 ⟨rfl, hb1⟩))
  go_ret
  exact ⟨rfl, hb1⟩
theorem kapp (a b : ByteArray) : (a ++ b).data.toList = a.data.toList ++ b.data.toList := by simp
theorem krow_any {w : World} {base : Nat} {v : Value} {l : List (List UInt8)} (h : w.ownsRow base 9 1 v l.length (strV l)) : ∃ o cap, v = .slice o l.length cap ∧ ∀ (j : Nat) p, l[j]? = some p → ∃ g, o = some ⟨g, 0, none⟩ ∧ w.cell? ⟨g, j, none⟩ = some (.string (mkS p)) := by
  rcases h with ⟨h0, ⟨rfl, h1⟩ | ⟨g, cap, cur, rfl, h2⟩⟩
  · refine ⟨none, 0, by rw [h1], fun j p hj => ?_⟩
    have := (List.getElem?_eq_some_iff.1 hj).1
    omega
  · have hh : w.ownsRow base 9 1 (.slice (some ⟨g, 0, none⟩) l.length cap) l.length (strV l) := ⟨h0, Or.inr ⟨g, cap, cur, rfl, h2⟩⟩
    refine ⟨_, cap, rfl, fun j p hj => ⟨g, rfl, ?_⟩⟩
    have hlt := (List.getElem?_eq_some_iff.1 hj).1
    rw [hh.cellAt j (by omega), strV, List.getElem?_map, hj]; rfl
/-- the parts as texts -/
def ptL (ks : List ByteArray) : List (List UInt8) := ks.map (·.data.toList)
theorem pt_take {ks : List ByteArray} {j : Nat} {c : ByteArray} (h : ks[j]? = some c) : (ptL ks).take (j + 1) = (ptL ks).take j ++ [c.data.toList] := by
  rw [List.take_add_one]
  unfold ptL; rw [List.getElem?_map, h]; rfl
theorem pt_key (ks : List ByteArray) (h0 : 0 < ks.length) (hv : ∀ q ∈ (ptL ks).take ks.length, KV q) (A : ByteArray) (hA : A = mkS (jn ((ptL ks).take ks.length))) : kyA (A ++ ⟨#[32, 61, 32, 49]⟩).data.toList 0 = (ptL ks, A.size, -1) := by
  have e : (ptL ks).take ks.length = ptL ks := List.take_of_length_le (by unfold ptL; simp)
  rw [e] at hv hA
  rw [kapp, hA, mkS_list, mkS_size]
  cases ks with
  | nil => simp at h0
  | cons c r => exact kyA_back _ _ (hv _ (List.mem_cons_self ..)) (fun q hq => hv q (List.mem_cons_of_mem _ hq))
set_option maxRecDepth 100000 in
set_option maxHeartbeats 8000000 in
theorem Tryz.tlexKeysBack_walk (ks : List ByteArray) (kv : Value) (w : World) (hg : GlobN w) (hks : InS w ks kv) :
    Calls Tryz.prog 9 #[kv] w fun e w' => e = .returned (.bool true) ∧ Below w.heap.size w w' := by
  have CA := hid (awake10 w hg)
  clear hg
  obtain ⟨a, ⟨o, cap, rfl, hc1, hc2, ho⟩, hcell⟩ := hks
  unfold maxLen at hc2
  go_enter Tryz.func9, Tryz.ntmps9
  go_wp2_with fail
  go_at_call 10
  refine CA.out.mono ?_
  rintro e w0 ⟨rfl, hb0⟩
  have HB0 := hid hb0
  clear hb0 CA
  by_cases h1 : ks.length < 1
  · go_wp2_with fail
    go_ret
    exact ⟨rfl, HB0.out⟩
  by_cases h8 : 8 < ks.length
  · go_wp2_with fail
    go_ret
    exact ⟨rfl, HB0.out⟩
  obtain rfl := ho (by omega)
  go_wp2_with fail
  go_loopw [3, 4] (fun sv iv wr => ∃ (j : Nat) (A : ByteArray), j ≤ ks.length ∧ iv = .int .i64 j ∧ sv = .string A ∧ A.size ≤ 400 * j ∧ Hid (A = mkS (jn ((ptL ks).take j))) ∧ Hid (∀ q ∈ (ptL ks).take j, KV q) ∧ Hid (Below w.heap.size w wr)) (fun _ iv _ => ks.length - (intOf iv).toNat)
  case atStart => exact ⟨0, _, Nat.zero_le _, rfl, rfl, by decide, rfl, fun q hq => by simp at hq, HB0.out⟩
  case round =>
    obtain ⟨j, A, hj, rfl, rfl, hA, HA, HV, HB⟩ := hrel
    by_cases hlt : j < ks.length
    · obtain ⟨c, hc⟩ : ∃ c, ks[j]? = some c := ⟨ks[j], List.getElem?_eq_getElem hlt⟩
      have hcs := (hcell j c hc).2
      have d0 := keepCell HB.out (hcell j c hc).1
      have CV := hid (fun X => rvalid_any c X hcs)
      unfold maxLen at hcs
      have HT := hid (pt_take hc)
      have HCE := hid hcell
      clear hc hcell
      by_cases h60 : 60 < c.size
      · go_wp2_with fail
        go_ret
        exact ⟨rfl, HB.out⟩
      go_wp2_with fail
      go_at_call 25
      refine (CV.out _).mono ?_
      rintro e w1 ⟨rfl, hb1⟩
      have HB1 := hid (vonto HB.out hb1)
      replace d0 := keepCell hb1 d0
      clear hb1 CV HB
      by_cases hval : pos c.data.toList (vlk c.data.toList) = c.data.toList.length
      · rw [rv_yes _ hval]
        have HKV := hid (show KV c.data.toList from vld_of _ hval)
        have CW := hid (fun X => written_any c X (by omega))
        have HWL := wk_len c.data.toList
        rw [size_list] at HWL
        have hms : (mkS (wk c.data.toList)).size ≤ 362 := by rw [mkS_size]; omega
        have HV2 := hid (show ∀ q ∈ (ptL ks).take (j + 1), KV q by
          rw [HT.out]; intro q hq
          rcases List.mem_append.1 hq with h | h
          · exact HV.out q h
          · simp at h; rw [h]; exact HKV.out)
        have HJ0 := hid (show j = 0 → A ++ mkS (wk c.data.toList) = mkS (jn ((ptL ks).take (j + 1))) by
          intro h; rw [HT.out, HA.out, h]; simp only [List.take_zero, List.nil_append, jn, jt, List.append_nil]
          exact mkS_of _ _ (by simp only [kapp, mkS_list, List.nil_append]))
        have HJ1 := hid (show 0 < j → A ++ ⟨#[32, 46, 32]⟩ ++ mkS (wk c.data.toList) = mkS (jn ((ptL ks).take (j + 1))) by
          intro h; rw [HT.out, jn_snoc _ _ (by intro e; have := congrArg List.length e; rw [List.length_take, List.length_nil] at this; unfold ptL at this; simp only [List.length_map] at this; omega), HA.out]
          exact mkS_of _ _ (by simp only [kapp, mkS_list]))
        clear hval HWL HKV HT
        generalize mkS (wk c.data.toList) = m at *
        clear HA HV
        go_wp2_with fail
        · go_at_call 26
          refine (CW.out _).mono ?_
          rintro e w2 ⟨rfl, hb2⟩
          have HB2 := hid (vonto HB1.out hb2)
          clear hb2 CW HB1
          go_wp2_with fail
          go_round
          case rel => exact ⟨j + 1, A ++ (⟨#[32, 46, 32]⟩ : ByteArray) ++ m, by omega, val_int (by omega), rfl, by rw [ByteArray.size_append, ByteArray.size_append]; have : (⟨#[32, 46, 32]⟩ : ByteArray).size = 3 := rfl; omega, HJ1.out (by omega), HV2.out, HB2.out⟩
          case measure => simp [intOf]; omega
        · go_at_call 26
          refine (CW.out _).mono ?_
          rintro e w2 ⟨rfl, hb2⟩
          have HB2 := hid (vonto HB1.out hb2)
          clear hb2 CW HB1
          go_wp2_with fail
          go_round
          case rel => exact ⟨j + 1, A ++ m, by omega, val_int (by omega), rfl, by rw [ByteArray.size_append]; omega, HJ0.out (by omega), HV2.out, HB2.out⟩
          case measure => simp [intOf]; omega
      · rw [rv_no _ hval]
        clear hval
        generalize pos c.data.toList (vlk c.data.toList) = pp at *
        go_wp2_with fail
        go_ret
        exact ⟨rfl, HB1.out⟩
    · obtain rfl : j = ks.length := by omega
      have HK := hid (pt_key ks (by omega) HV.out A HA.out)
      have hAs : A.size ≤ 3200 := by omega
      have CK := hid (fun X => tkey_any (A ++ ⟨#[32, 61, 32, 49]⟩) 0 X (by rw [ByteArray.size_append]; have : (⟨#[32, 61, 32, 49]⟩ : ByteArray).size = 4 := rfl; omega))
      rw [HK.out] at CK
      have HPL := hid (show (ptL ks).length = ks.length by unfold ptL; simp)
      have HPG := hid (show ∀ (i : Nat) c, ks[i]? = some c → (ptL ks)[i]? = some c.data.toList by intro i c h; unfold ptL; rw [List.getElem?_map, h]; rfl)
      have HCE := hid hcell
      clear HK HA HV hA hcell hlt
      generalize ptL ks = PL at *
      go_wp2_with fail
      go_at_call 14
      refine (CK.out _).mono ?_
      rintro e w1 ⟨v, rfl, hown, hb1⟩
      obtain ⟨o1, cap1, rfl, hcl⟩ := krow_any hown
      have HB1 := hid (vonto HB.out hb1)
      have HCL := hid hcl
      rw [HPL.out]
      clear hown hb1 CK HB hcl
      simp only
      go_wp2_with fail
      go_loopw [8] (fun iv wr => ∃ i : Nat, i ≤ ks.length ∧ iv = .int .i64 i ∧ Hid (Below w1.heap.size w1 wr)) (fun iv _ => ks.length - (intOf iv).toNat)
      case atStart => exact ⟨0, Nat.zero_le _, rfl, Below.refl _ _⟩
      case round =>
        obtain ⟨i, hi, rfl, HBi⟩ := hrel
        by_cases hil : i < ks.length
        · obtain ⟨c, hc⟩ : ∃ c, ks[i]? = some c := ⟨ks[i], List.getElem?_eq_getElem hil⟩
          obtain ⟨g, rfl, e1⟩ := HCL.out i _ (HPG.out i c hc)
          have e2 := keepCell (vonto HB1.out HBi.out) (HCE.out i c hc).1
          replace e1 := keepCell HBi.out e1
          rw [← mkS_of c _ rfl] at e1
          clear hc
          go_wp2_with fail
          go_quiet (fail)
          go_wp2_with fail
          go_round
          case rel => exact ⟨i + 1, hil, val_int (by omega), eonto HBi.out (tdrew_below _ _)⟩
          case measure => simp [intOf]; omega
        · go_wp2_with fail
          go_ret
          exact ⟨rfl, vonto HB1.out HBi.out⟩
end Go.Proofs.YtdlideihlcjblaaGreatDoor
