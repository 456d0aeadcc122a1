/- Plain mathematics: a value's text is letters; read whole, cut off, and with more behind it. -/
import Derived.Test.YtkhjahpkbjafaaaGreatDoorPMathVal
import Derived.Test.YtkhjahpkbjafaaaGreatDoorPShelf2
import Derived.Test.YtkhjahpkbjafaaaGreatDoorPEscTun
namespace Go.Proofs.YtkhjahpkbjafaaaGreatDoor
open Go.RowKit

set_option maxRecDepth 100000 in
theorem qbB_lt : ∀ m < 128, ∀ b ∈ qbB m, b.toNat < 128 := by decide
theorem qst_vl (l : List UInt8) (h : tkN l ≠ 0) : Vl (qst false l) := by
  unfold qst
  rw [if_neg h]
  split
  · exact vl_one h
  · rename_i hc
    exact vl_ascii (qbB_lt _ (tk_small h (fun h1 => hc (Or.inl h1))))
theorem qtK_vl (s : List UInt8) (hv : ∀ j < cnt s, tkN (s.drop (pos s j)) ≠ 0) : ∀ k ≤ cnt s, Vl (qtK false s k)
  | 0, _ => vl_ascii (by simp [qtK])
  | k + 1, hk => by
    rw [qtK_succ]
    exact (qtK_vl s hv k (by omega)).app (qst_vl _ (hv k (by omega)))
theorem qtA_vl {s : List UInt8} (h : Vl s) : Vl (qtA false s) := by
  unfold qtA
  exact (qtK_vl s h.vld _ (Nat.le_refl _)).app (vl_ascii (by simp))
theorem num_lt {b : UInt8} (h : numC b = true) : b.toNat < 128 := by
  unfold numC numS at h
  simp only [Bool.or_eq_true, decide_eq_true_eq] at h
  omega
theorem tk_vl {t : Tk} {R : List UInt8} (h : t.ok R) : Vl t.tx := by
  cases t with
  | bl b =>
    refine vl_ascii (fun x hx => ?_)
    have := h x hx
    unfold blB at this
    have := of_decide_eq_true this
    omega
  | sg c =>
    refine vl_ascii (fun x hx => ?_)
    have h1 : sgnB c = true := h
    unfold sgnB at h1
    have := of_decide_eq_true h1
    rw [List.mem_singleton.1 hx]; omega
  | st s => exact qtA_vl h.1
  | nu s =>
    have hN := h.1
    unfold numB at hN
    rw [Bool.and_eq_true, Bool.and_eq_true] at hN
    exact vl_ascii (fun x hx => num_lt ((num_bytes hN.1.1).1 x hx))
  | li s =>
    refine vl_ascii (fun x hx => ?_)
    have := (lit_head h.1).2 x hx
    unfold lowC at this
    have := of_decide_eq_true this
    omega
theorem okR_vl {R : List UInt8} : ∀ (ts : List Tk), okR R ts → Vl (txs ts)
  | [], _ => by rw [show txs [] = [] from rfl]; exact Vl.nil
  | t :: r, h => by rw [txs_cons]; exact (tk_vl h.1).app (okR_vl r h.2)
theorem val_beg {v : VT} (hp : plainT v = true) (hw : wfT v) {ws : List Wd} (h : ws.map shp = shV v) : ∃ x r, ws = x :: r ∧ begB x = true := by
  cases v with
  | mk k n s L K V =>
    rw [shV] at h
    split at h
    · obtain ⟨x, b, rfl, hx, -⟩ := map_cons' h
      exact ⟨x, b, rfl, beg_sg hx (Or.inr rfl)⟩
    · split at h
      · obtain ⟨x, b, rfl, hx, -⟩ := map_cons' h
        exact ⟨x, b, rfl, beg_sg hx (Or.inl rfl)⟩
      · obtain ⟨x, b, rfl, hx, -⟩ := map_cons' h
        rw [plainT, Bool.and_eq_true, Bool.and_eq_true] at hp
        exact ⟨x, b, rfl, (sp_one hp.1.1 hw (by assumption) (by assumption) x hx).2.2.1⟩
/-- a value's text is read as that value (a stamp as a string) -/
theorem val_rds (i : Option Nat) (v : VT) (hp : plainT v = true) (hw : wfT v) (d a : Nat) (hd : d + hgT v ≤ 33) : Rds d (wdsN a (tkV i v)) (bkT v) (szT v) := by
  have hs : (wdsN a (tkV i v)).map shp = shV v := by rw [wdsN_sh, sh_val]
  exact ⟨val_beg hp hw hs, fun n f r hn hf => jr_sp (szT v) v (Nat.le_refl _) hp hw _ r d n f hs hd hn hf⟩
theorem val_reads (i : Option Nat) (v : VT) (hp : plainT v = true) (hw : wfT v) (hh : hgT v ≤ 32) (hz : szT v ≤ 4096) (hl : (txs (tkV i v)).length ≤ 65536) : ∃ q, jrA (txs (tkV i v)) = .ok (bkT v) (szT v) q := by
  have h0 := val_ok i v hp hw [] edr_nil
  exact ⟨_, jrA_rds (cut_tokN ((okT_R _).2 h0) hl (okR_vl _ h0)) (val_rds i v hp hw 1 0 (by omega)) rfl hz⟩
/-- with blanks behind it it is the same -/
theorem val_blank (i : Option Nat) (v : VT) (hp : plainT v = true) (hw : wfT v) (hh : hgT v ≤ 32) (hz : szT v ≤ 4096) (b : List UInt8) (hb : ∀ x ∈ b, blB x = true) (hl : (txs (tkV i v) ++ b).length ≤ 65536) : ∃ q, jrA (txs (tkV i v) ++ b) = .ok (bkT v) (szT v) q := by
  have hE : EdR b := by
    intro x hx
    have hm : x ∈ b := List.mem_of_mem_head? hx
    have := hb x hm
    unfold blB at this
    have h2 := of_decide_eq_true this
    unfold numC numS lowC
    simp only [Bool.or_eq_false_iff, decide_eq_false_iff_not]
    omega
  have h0 : okR [] (tkV i v ++ [.bl b]) := by
    rw [okR_app]
    refine ⟨?_, hb, trivial⟩
    have e : txs [Tk.bl b] ++ [] = b := by simp [txs, Tk.tx]
    rw [e]
    exact val_ok i v hp hw b hE
  have e : txs (tkV i v ++ [.bl b]) = txs (tkV i v) ++ b := by rw [txs_app]; simp [txs, Tk.tx]
  have hc := cut_tokN ((okT_R _).2 h0) (by rw [e]; exact hl) (okR_vl _ h0)
  rw [e, wdsN_app, show wdsN (0 + (txs (tkV i v)).length) [Tk.bl b] = [] from rfl, List.append_nil] at hc
  exact ⟨_, jrA_rds hc (val_rds i v hp hw 1 0 (by omega)) rfl hz⟩
/-- what it takes to be read -/
theorem ok_wds {T : List UInt8} {t : VT} {m : Nat} {q : List Wd} (h : jrA T = .ok t m q) : ∃ ws f, Wds T 0 ws ∧ EndW ws ∧ (∀ x ∈ ws, x.kd ≤ 4) ∧ 2 * ws.length + 1 ≤ f ∧ jrV f 1 0 ws = .ok t m q ∧ ∃ y r, q = y :: r ∧ y.kd = 0 := by
  unfold jrA at h
  split at h
  · cases h
  · rename_i he
    have he : (cutA T).2.1 = 0 := Classical.not_not.1 he
    have hg := cut_good he
    have hl : T.length ≤ 65536 := by
      apply Classical.byContradiction
      intro hc
      unfold cutA at he
      rw [if_pos (by omega)] at he
      cases he
    have hv : rvI T < 0 := by
      apply Classical.byContradiction
      intro hc
      unfold cutA at he
      rw [if_neg (by omega), if_pos (by omega)] at he
      cases he
    have hw : Wds T 0 (cutA T).1 := by
      have hx := cut_of_lx hl hv
      obtain ⟨ws, hws, hW⟩ := lx_wds (T.length + 1) 0 [] (cutA T).1 (cutA T).2.2 (Nat.zero_le _) (by rw [← hx, ← he])
      rw [List.nil_append] at hws
      rw [hws]; exact hW
    split at h
    · cases h
    · rename_i t' m' q' hj
      split at h
      · cases h
      · split at h
        · rename_i y r hy
          injection h with e1 e2 e3
          subst e1 e2 e3
          refine ⟨_, _, hw, hg.1, ?_, by omega, hj, y, r, rfl, hy⟩
          exact fun x hx => (cut_fine he x hx).kd
        · cases h
theorem isM_bal {c : UInt8} {q : List Wd} (h : isM c q = true) : bal q = (if c = 91 ∨ c = 123 then 1 else if c = 93 ∨ c = 125 then -1 else 0) + bal q.tail := by
  cases q with
  | nil => simp [isM] at h
  | cons x r =>
    simp only [isM, decide_eq_true_eq] at h
    rw [bal, h.1, h.2, List.tail_cons, if_pos rfl]
    simp
theorem kd_tail {q : List Wd} (h : ∀ x ∈ q, x.kd ≤ 4) : ∀ x ∈ q.tail, x.kd ≤ 4 := fun x hx => h x (List.mem_of_mem_tail hx)
theorem bal_leaf {x : Wd} {r : List Wd} (h : ¬ x.kd = 1) : bal (x :: r) = bal r := by rw [bal, if_neg h, Int.zero_add]
/-- what is read is even -/
theorem jr_bal : ∀ f : Nat, (∀ d n ws t m q, (∀ x ∈ ws, x.kd ≤ 4) → jrV f d n ws = .ok t m q → bal ws = bal q) ∧
    (∀ d n acc ws t m q, (∀ x ∈ ws, x.kd ≤ 4) → jrL f d n acc ws = .ok t m q → bal ws = bal q - 1) ∧
    (∀ d n acc ws t m q, (∀ x ∈ ws, x.kd ≤ 4) → jrP f d n acc ws = .ok t m q → bal ws = bal q - 1)
  | 0 => ⟨fun d n ws t m q _ h => (by rw [jrV] at h; cases h), fun d n acc ws t m q _ h => (by rw [jrL] at h; cases h), fun d n acc ws t m q _ h => (by rw [jrP] at h; cases h)⟩
  | f + 1 => by
    obtain ⟨ihV, ihL, ihP⟩ := jr_bal f
    obtain ⟨suV, suL, suP⟩ := jr_suf f
    refine ⟨fun d n ws t m q hw h => ?_, fun d n acc ws t m q hw h => ?_, fun d n acc ws t m q hw h => ?_⟩
    · cases ws with
      | nil => rw [jrV] at h; cases h
      | cons x r =>
        have hr : ∀ y ∈ r, y.kd ≤ 4 := fun y hy => hw y (List.mem_cons_of_mem _ hy)
        have hx4 := hw x (List.mem_cons_self ..)
        rw [jrV] at h
        split at h
        · cases h
        · rename_i h0
          split at h
          · cases h
          · split at h
            · injection h with e1 e2 e3; subst e3; exact bal_leaf (by omega)
            · split at h
              · injection h with e1 e2 e3; subst e3; exact bal_leaf (by omega)
              · split at h
                · injection h with e1 e2 e3; subst e3; exact bal_leaf (by omega)
                · have hk : x.kd = 1 := by omega
                  split at h
                  · rename_i ht
                    have hb : bal (x :: r) = 1 + bal r := by rw [bal, hk, ht]; simp
                    split at h
                    · rename_i hm
                      injection h with e1 e2 e3; subst e3
                      have := isM_bal hm
                      simp at this
                      omega
                    · have := ihL _ _ _ _ _ _ _ hr h
                      omega
                  · rename_i ht
                    have ht2 : x.tx = [123] := Classical.byContradiction fun hc => h0 (Or.inr ⟨hk, hc, ht⟩)
                    have hb : bal (x :: r) = 1 + bal r := by rw [bal, hk, ht2]; simp
                    split at h
                    · rename_i hm
                      injection h with e1 e2 e3; subst e3
                      have := isM_bal hm
                      simp at this
                      omega
                    · have := ihP _ _ _ _ _ _ _ hr h
                      omega
    · rw [jrL] at h
      cases hv : jrV f (d + 1) n ws with
      | bad e a => rw [hv] at h; cases h
      | ok t' m' q' =>
        rw [hv] at h
        simp only at h
        have h2 := ihV _ _ _ _ _ _ hw hv
        have hq : ∀ y ∈ q', y.kd ≤ 4 := fun y hy => hw y ((suV _ _ _ _ _ _ hv).subset hy)
        split at h
        · rename_i hm
          have h3 := ihL _ _ _ _ _ _ _ (kd_tail hq) h
          have := isM_bal hm
          simp at this
          omega
        · split at h
          · rename_i hm
            injection h with e1 e2 e3; subst e3
            have := isM_bal hm
            simp at this
            omega
          · cases h
    · cases ws with
      | nil => rw [jrP] at h; cases h
      | cons x r =>
        have hr : ∀ y ∈ r, y.kd ≤ 4 := fun y hy => hw y (List.mem_cons_of_mem _ hy)
        rw [jrP] at h
        split at h
        · cases h
        · rename_i h0
          split at h
          · cases h
          · split at h
            · cases h
            · rename_i h58
              have h58' : isM 58 r = true := Classical.not_not.1 h58
              have b58 := isM_bal h58'
              simp at b58
              have hx : bal (x :: r) = bal r := bal_leaf (by omega)
              cases hv : jrV f (d + 1) n r.tail with
              | bad e a => rw [hv] at h; cases h
              | ok t' m' q' =>
                rw [hv] at h
                simp only at h
                have h2 := ihV _ _ _ _ _ _ (kd_tail hr) hv
                have hq : ∀ y ∈ q', y.kd ≤ 4 := fun y hy => kd_tail hr y ((suV _ _ _ _ _ _ hv).subset hy)
                split at h
                · rename_i hm
                  have h3 := ihP _ _ _ _ _ _ _ (kd_tail hq) h
                  have := isM_bal hm
                  simp at this
                  omega
                · split at h
                  · rename_i hm
                    injection h with e1 e2 e3; subst e3
                    have := isM_bal hm
                    simp at this
                    omega
                  · cases h
/-- the same of shapes -/
def balS : List (Nat × List UInt8) → Int
  | [] => 0
  | x :: r => (if x.1 = 1 then (if x.2 = [91] ∨ x.2 = [123] then 1 else if x.2 = [93] ∨ x.2 = [125] then -1 else 0) else 0) + balS r
theorem bal_sh : ∀ ws : List Wd, bal ws = balS (ws.map shp)
  | [] => rfl
  | x :: r => by rw [bal, List.map_cons, balS, bal_sh r]; rfl
theorem balS_app : ∀ a b, balS (a ++ b) = balS a + balS b
  | [], b => by simp [balS]
  | x :: a, b => by rw [List.cons_append, balS, balS, balS_app a b, Int.add_assoc]
/-- even at its end, and never below nought ahead of it -/
def Evn (A : List (Nat × List UInt8)) : Prop := balS A = 0 ∧ ∀ P, P <+: A → 0 ≤ balS P
theorem pre_app {α : Type} {P A B : List α} (h : P <+: A ++ B) : P <+: A ∨ ∃ Q, P = A ++ Q ∧ Q <+: B := by
  obtain ⟨R, hR⟩ := h
  rcases List.append_eq_append_iff.1 hR with ⟨C, h1, h2⟩ | ⟨C, h1, h2⟩
  · left; exact ⟨C, h1.symm⟩
  · right; exact ⟨C, h1, ⟨R, h2.symm⟩⟩
theorem evn_nil : Evn [] := ⟨rfl, fun P h => by rw [List.prefix_nil.1 h]; decide⟩
theorem Evn.app {A B : List (Nat × List UInt8)} (h : Evn A) (g : Evn B) : Evn (A ++ B) := by
  refine ⟨by rw [balS_app, h.1, g.1]; rfl, fun P hP => ?_⟩
  rcases pre_app hP with h1 | ⟨Q, rfl, h1⟩
  · exact h.2 P h1
  · rw [balS_app, h.1]
    have := g.2 Q h1
    omega
theorem evn_one {p : Nat × List UInt8} (h : balS [p] = 0) : Evn [p] := by
  refine ⟨h, fun P hP => ?_⟩
  rcases P with _ | ⟨x, _ | ⟨y, r⟩⟩
  · decide
  · obtain ⟨R, hR⟩ := hP
    simp at hR
    rw [hR.1, h]; decide
  · have := hP.length_le
    simp at this
theorem shS_bal (k n : Int) (s : ByteArray) : balS [shS k n s] = 0 := by
  unfold shS
  (repeat' split) <;> simp [balS]
theorem Evn.wrap {A : List (Nat × List UInt8)} {o c : UInt8} (h : Evn A) (ho : balS [(1, [o])] = 1) (hc : balS [(1, [c])] = -1) : Evn ((1, [o]) :: (A ++ [(1, [c])])) ∧ ∀ P, P <+: (1, [o]) :: (A ++ [(1, [c])]) → P ≠ [] → P ≠ (1, [o]) :: (A ++ [(1, [c])]) → 1 ≤ balS P := by
  have key : ∀ P, P <+: (1, [o]) :: (A ++ [(1, [c])]) → P ≠ [] → P ≠ (1, [o]) :: (A ++ [(1, [c])]) → 1 ≤ balS P := by
    intro P hP h0 h1
    cases P with
    | nil => exact absurd rfl h0
    | cons x Q =>
      obtain ⟨R, hR⟩ := hP
      rw [List.cons_append, List.cons.injEq] at hR
      obtain ⟨rfl, hR⟩ := hR
      rw [show (1, [o]) :: Q = [(1, [o])] ++ Q from rfl, balS_app, ho]
      rcases pre_app ⟨R, hR⟩ with h2 | ⟨S, rfl, h2⟩
      · have := h.2 Q h2
        omega
      · rcases S with _ | ⟨y, _ | ⟨z, r⟩⟩
        · rw [List.append_nil, h.1]; decide
        · obtain ⟨R2, hR2⟩ := h2
          simp at hR2
          rw [hR2.1] at h1
          exact absurd rfl h1
        · have := h2.length_le
          simp at this
  refine ⟨⟨?_, fun P hP => ?_⟩, key⟩
  · rw [show (1, [o]) :: (A ++ [(1, [c])]) = [(1, [o])] ++ (A ++ [(1, [c])]) from rfl, balS_app, balS_app, ho, hc, h.1]; decide
  · by_cases h0 : P = []
    · rw [h0]; decide
    · by_cases h1 : P = (1, [o]) :: (A ++ [(1, [c])])
      · rw [h1, show (1, [o]) :: (A ++ [(1, [c])]) = [(1, [o])] ++ (A ++ [(1, [c])]) from rfl, balS_app, balS_app, ho, hc, h.1]; decide
      · have := key P hP h0 h1
        omega
mutual
theorem evn_val : ∀ v : VT, Evn (shV v)
  | .mk k n s L K V => by
    rw [shV]
    split
    · exact ((evn_list L).wrap (by decide) (by decide)).1
    · split
      · exact ((evn_map V K).wrap (by decide) (by decide)).1
      · exact evn_one (shS_bal k n s)
theorem evn_list : ∀ L : List VT, Evn (shL L)
  | [] => by rw [shL]; exact evn_nil
  | t :: r => by rw [shL]; exact (evn_val t).app (evn_listc r)
theorem evn_listc : ∀ L : List VT, Evn (shLc L)
  | [] => by rw [shLc]; exact evn_nil
  | t :: r => by rw [shLc]; exact Evn.app (A := [(1, [44])]) (evn_one (by decide)) ((evn_val t).app (evn_listc r))
theorem evn_map : ∀ (V : List VT) (K : List ByteArray), Evn (shM V K)
  | [], K => by rw [shM]; exact evn_nil
  | t :: r, K => by rw [shM]; exact Evn.app (A := [_]) (evn_one (by simp [balS])) (Evn.app (A := [(1, [58])]) (evn_one (by decide)) ((evn_val t).app (evn_mapc r K.tail)))
theorem evn_mapc : ∀ (V : List VT) (K : List ByteArray), Evn (shMc V K)
  | [], K => by rw [shMc]; exact evn_nil
  | t :: r, K => by rw [shMc]; exact Evn.app (A := [(1, [44])]) (evn_one (by decide)) (Evn.app (A := [_]) (evn_one (by simp [balS])) (Evn.app (A := [(1, [58])]) (evn_one (by decide)) ((evn_val t).app (evn_mapc r K.tail))))
end
/-- a list's or a map's beginnings are open -/
theorem nest_open (v : VT) (hk : v.kd = 5 ∨ v.kd = 6) : ∀ P, P <+: shV v → P ≠ [] → P ≠ shV v → 1 ≤ balS P := by
  cases v with
  | mk k n s L K V =>
    have hk' : k = 5 ∨ k = 6 := hk
    rw [shV]
    rcases hk' with rfl | rfl
    · rw [if_pos rfl]; exact ((evn_list L).wrap (by decide) (by decide)).2
    · rw [if_neg (by decide), if_pos rfl]; exact ((evn_map V K).wrap (by decide) (by decide)).2
/-- it ends in a sign, and begins with one -/
theorem nest_ends (i : Option Nat) (v : VT) (hk : v.kd = 5 ∨ v.kd = 6) : ∃ o c q, tkV i v = .sg o :: (q ++ [.sg c]) := by
  cases v with
  | mk k n s L K V =>
    have hk' : k = 5 ∨ k = 6 := hk
    rw [tkV]
    rcases hk' with rfl | rfl
    · rw [if_pos rfl, ← List.append_assoc]; exact ⟨_, _, _, rfl⟩
    · rw [if_neg (by decide), if_pos rfl, ← List.append_assoc]; exact ⟨_, _, _, rfl⟩
theorem shT_nil_of {a : List Tk} {t : Tk} {b q : List Tk} {o c : UInt8} (h : Tk.sg o :: (q ++ [Tk.sg c]) = a ++ t :: b) : shT (t :: b) ≠ [] := by
  intro h0
  have h1 : (Tk.sg o :: q) ++ [Tk.sg c] = a ++ t :: b := h
  rcases List.eq_nil_or_concat (t :: b) with h2 | ⟨y, z, h2⟩
  · cases h2
  · rw [List.concat_eq_append] at h2
    rw [h2, ← List.append_assoc] at h1
    have h3 := (List.append_inj' h1 rfl).2
    injection h3 with h3
    rw [h2, ← h3, shT_app] at h0
    simp [shT] at h0
/-- cut off anywhere it is no JSON -/
theorem val_cut (i : Option Nat) (v : VT) (hp : plainT v = true) (hw : wfT v) (hk : v.kd = 5 ∨ v.kd = 6) (n : Nat) (hn : n < (txs (tkV i v)).length) (t : VT) (m : Nat) (q : List Wd) : jrA ((txs (tkV i v)).take n) ≠ .ok t m q := by
  intro hj
  obtain ⟨ws, f, hW, hE, h4, -, hV, y, r, rfl, hy⟩ := ok_wds hj
  obtain ⟨ts1, tk, ts2, mm, he, hm, ht⟩ := take_split _ n hn
  have hok := val_ok i v hp hw [] edr_nil
  rw [he, okR_app] at hok
  obtain ⟨k1, k2, -⟩ := hok
  have hok1 : okR (tk.tx.take mm) ts1 := by
    refine okR_pre ?_ ts1 k1
    rw [txs_cons, List.append_nil]
    exact (List.take_prefix _ _).trans (List.prefix_append _ _)
  rw [ht] at hW
  obtain ⟨ws', hws, hW'⟩ := tok_split ts1 [] (tk.tx.take mm) ws hok1 (by simpa using hW)
  rw [List.nil_append, List.length_nil, Nat.zero_add] at hW'
  rw [List.length_nil] at hws
  obtain ⟨hb0, hb1⟩ := cut_tail tk (txs ts1) mm ws' hm ⟨_, k2⟩ hW'
  have hbal := (jr_bal f).1 _ _ _ _ _ _ h4 hV
  have hq0 : bal (y :: r) = 0 := by
    obtain ⟨hEq, -⟩ := (jr_ends f).1 _ _ _ _ _ _ hE hV
    obtain ⟨qq, e, hqe, -, hne⟩ := hEq
    cases qq with
    | nil =>
      rw [List.nil_append] at hqe
      rw [hqe, bal, bal]
      have : e.kd = 0 := by injection hqe with h1 _; rw [← h1]; exact hy
      rw [if_neg (by omega)]; rfl
    | cons z zz =>
      rw [List.cons_append] at hqe
      injection hqe with h1 _
      exact absurd (h1 ▸ hy) (hne z (List.mem_cons_self ..))
  rw [hws, bal_app, hb0, hq0, Int.add_zero, bal_sh, wdsN_sh] at hbal
  obtain ⟨o, c, qq, hoc⟩ := nest_ends i v hk
  have hsh : shV v = shT ts1 ++ shT (tk :: ts2) := by rw [← sh_val i v, he, shT_app]
  have hne : shT (tk :: ts2) ≠ [] := shT_nil_of (hoc.symm.trans he)
  by_cases h0 : shT ts1 = []
  · -- nothing ahead: the very first sign is missing
    have hts : ts1 = [] := by
      cases ts1 with
      | nil => rfl
      | cons a l =>
        rw [hoc, List.cons_append] at he
        injection he with h1 _
        rw [← h1] at h0
        simp [shT] at h0
    subst hts
    rw [hoc, List.nil_append] at he
    injection he with h1 _
    rw [← h1] at hm
    have hm0 : mm = 0 := by simp [Tk.tx] at hm; exact hm
    obtain ⟨z, hz, hz0⟩ := hb1 hm0
    rw [hws, hz, show wdsN 0 [] = [] from rfl, List.nil_append] at hV
    cases f with
    | zero => rw [jrV] at hV; cases hV
    | succ f => rw [jrV, if_pos (Or.inl hz0)] at hV; cases hV
  · have := nest_open v hk (shT ts1) ⟨_, hsh.symm⟩ h0 (fun e => hne (by
      have h9 := hsh
      rw [← e] at h9
      exact List.self_eq_append_right.1 h9))
    omega
/-- with more than blanks behind it it is none -/
theorem val_more (i : Option Nat) (v : VT) (hp : plainT v = true) (hw : wfT v) (hk : v.kd = 5 ∨ v.kd = 6) (hh : hgT v ≤ 32) (hz : szT v ≤ 4096) (b : List UInt8) (hb : ¬ ∀ x ∈ b, blB x = true) (t : VT) (m : Nat) (q : List Wd) : jrA (txs (tkV i v) ++ b) ≠ .ok t m q := by
  intro hj
  obtain ⟨ws, f, hW, hE, h4, hf, hV, y, r, rfl, hy⟩ := ok_wds hj
  obtain ⟨ws', hws, hW'⟩ := tok_split (tkV i v) [] b ws (nest_ok i v hp hw hk b) (by simpa using hW)
  rw [List.nil_append, List.length_nil, Nat.zero_add] at hW'
  rw [List.length_nil] at hws
  have h1 := (val_rds i v hp hw 1 0 (by omega)).2 0 f ws' (by omega) (by rw [hws, List.length_append] at hf; omega)
  rw [← hws, hV] at h1
  injection h1 with e1 e2 e3
  cases hW' with
  | stop _ g1 g2 =>
    refine hb (fun x hx => ?_)
    obtain ⟨j, hj', rfl⟩ := List.mem_iff_getElem.1 hx
    have := g2 ((txs (tkV i v)).length + j) (by rw [List.length_append]; omega) (by omega)
    rw [List.getElem_append_right (by omega)] at this
    simpa using this
  | word _ j g1 g2 g3 g4 g5 ws2 g6 =>
    injection e3 with e4 _
    rw [e4] at hy
    exact (lw_good8 _ _ g5).1 hy
/-- a fault has an error -/
theorem jr_er : ∀ f : Nat, (∀ d n ws e a, jrV f d n ws = .bad e a → e ≠ 0) ∧ (∀ d n acc ws e a, jrL f d n acc ws = .bad e a → e ≠ 0) ∧ (∀ d n acc ws e a, jrP f d n acc ws = .bad e a → e ≠ 0)
  | 0 => ⟨fun d n ws e a h => (by rw [jrV] at h; injection h with h1; rw [← h1]; decide), fun d n acc ws e a h => (by rw [jrL] at h; injection h with h1; rw [← h1]; decide), fun d n acc ws e a h => (by rw [jrP] at h; injection h with h1; rw [← h1]; decide)⟩
  | f + 1 => by
    obtain ⟨ihV, ihL, ihP⟩ := jr_er f
    refine ⟨fun d n ws e a h => ?_, fun d n acc ws e a h => ?_, fun d n acc ws e a h => ?_⟩
    · cases ws with
      | nil => rw [jrV] at h; injection h with h1; rw [← h1]; decide
      | cons x r =>
        rw [jrV] at h
        split at h
        · injection h with h1; rw [← h1]; decide
        · split at h
          · injection h with h1; rw [← h1]; decide
          · split at h
            · cases h
            · split at h
              · cases h
              · split at h
                · cases h
                · split at h
                  · split at h
                    · cases h
                    · exact ihL _ _ _ _ _ _ h
                  · split at h
                    · cases h
                    · exact ihP _ _ _ _ _ _ h
    · rw [jrL] at h
      cases hv : jrV f (d + 1) n ws with
      | bad e2 a2 => rw [hv] at h; injection h with h1; rw [← h1]; exact ihV _ _ _ _ _ hv
      | ok t' m' q' =>
        rw [hv] at h
        simp only at h
        split at h
        · exact ihL _ _ _ _ _ _ h
        · split at h
          · cases h
          · injection h with h1; rw [← h1]; decide
    · cases ws with
      | nil => rw [jrP] at h; injection h with h1; rw [← h1]; decide
      | cons x r =>
        rw [jrP] at h
        split at h
        · injection h with h1; rw [← h1]; decide
        · split at h
          · injection h with h1; rw [← h1]; decide
          · split at h
            · injection h with h1; rw [← h1]; decide
            · cases hv : jrV f (d + 1) n r.tail with
              | bad e2 a2 => rw [hv] at h; injection h with h1; rw [← h1]; exact ihV _ _ _ _ _ hv
              | ok t' m' q' =>
                rw [hv] at h
                simp only at h
                split at h
                · exact ihP _ _ _ _ _ _ h
                · split at h
                  · cases h
                  · injection h with h1; rw [← h1]; decide
theorem jrA_er {T : List UInt8} {e a : Nat} (h : jrA T = .bad e a) : e ≠ 0 := by
  unfold jrA at h
  split at h
  · rename_i h0; injection h with h1; rw [← h1]; exact h0
  · split at h
    · rename_i hv
      injection h with h1; rw [← h1]; exact (jr_er _).1 _ _ _ _ _ hv
    · split at h
      · injection h with h1; rw [← h1]; decide
      · split at h
        · cases h
        · injection h with h1; rw [← h1]; decide
theorem rd_err {T : List UInt8} (h : ∀ t m q, jrA T ≠ .ok t m q) : decide (rdErr (jrA T) = 0) = false := by
  cases hj : jrA T with
  | ok t m q => exact absurd hj (h t m q)
  | bad e a => exact decide_eq_false (jrA_er hj)
end Go.Proofs.YtkhjahpkbjafaaaGreatDoor
