/- Plain mathematics: a number's text is one word of JSON, and one value. -/
import Derived.Test.YtkhjahpkbjafaaaGreatDoorUEscRQ2
import Derived.Test.YtkhjahpkbjafaaaGreatDoorUMathRead
import Derived.Test.YtkhjahpkbjafaaaGreatDoorUMathEscB
import Derived.Test.YtkhjahpkbjafaaaGreatDoorUVBase
import Derived.Lib.Strings
/- Plain mathematics: a text made of words and blanks, cut into just these words. -/
/- The document's own reckoning of trees, walked: Get. -/
namespace Go.Proofs.YtkhjahpkbjafaaaGreatDoor
open Go.RowKit

theorem isD_S {b : UInt8} (h : isD b = true) : numS b = true := by
  unfold isD at h
  unfold numS
  simp only [decide_eq_true_eq, Bool.and_eq_true] at h ⊢
  omega
theorem getD_head {l : List UInt8} {n : Nat} (h : (l.getD 0 0).toNat = n) (hn : n ≠ 0) : ∃ b r, l = b :: r ∧ b.toNat = n := by
  cases l with
  | nil => exact absurd h.symm (by simpa using hn)
  | cons b r => exact ⟨b, r, rfl, by simpa using h⟩
theorem runN_all {l : List UInt8} (h : runN l = l.length) : ∀ b ∈ l, isD b = true := by
  unfold runN at h
  have he : l.takeWhile isD = l := (List.takeWhile_prefix isD).eq_of_length h
  intro b hb
  rw [← he] at hb
  exact List.all_eq_true.1 List.all_takeWhile b hb
theorem numS_C {b : UInt8} (h : numS b = true) : numC b = true := num_sc h
theorem num_at {b : UInt8} (h : b.toNat = 43 ∨ b.toNat = 45 ∨ b.toNat = 46 ∨ b.toNat = 69 ∨ b.toNat = 101) : numC b = true := by
  unfold numC numS
  rw [Bool.or_eq_true]
  simp only [decide_eq_true_eq]
  omega
/-- a number's text: its bytes, and its first -/
theorem num_bytes {l : List UInt8} (h : pOk l = true) : (∀ b ∈ l, numC b = true) ∧ ∃ s0 S', l = s0 :: S' ∧ numS s0 = true := by
  unfold pOk at h
  rw [Bool.and_eq_true, Bool.and_eq_true] at h
  obtain ⟨⟨hW, hF⟩, hE⟩ := h
  have hS : ∀ b ∈ pS l, numC b = true := by
    unfold pEok at hE
    rw [Bool.or_eq_true, decide_eq_true_eq] at hE
    rcases hE with hE | hE
    · rw [hE]; intro b hb; simp at hb
    · rw [Bool.and_eq_true, Bool.and_eq_true, decide_eq_true_eq] at hE
      obtain ⟨⟨h1, -⟩, h3⟩ := hE
      unfold pE at h1
      rw [Bool.or_eq_true, decide_eq_true_eq, decide_eq_true_eq] at h1
      have hd := runN_all h3
      obtain ⟨e, r, hs, he⟩ : ∃ e r, pS l = e :: r ∧ (e.toNat = 101 ∨ e.toNat = 69) := by
        rcases h1 with h1 | h1
        · obtain ⟨e, r, k1, k2⟩ := getD_head h1 (by decide); exact ⟨e, r, k1, Or.inl k2⟩
        · obtain ⟨e, r, k1, k2⟩ := getD_head h1 (by decide); exact ⟨e, r, k1, Or.inr k2⟩
      have hp : pP l = r := by unfold pP; rw [hs]; rfl
      rw [hp] at hd
      rw [hs]
      intro b hb
      rcases List.mem_cons.1 hb with rfl | hb
      · exact num_at (by omega)
      · unfold pD at hd
        split at hd
        · rename_i hsg
          unfold pSg at hsg
          rw [Bool.or_eq_true, decide_eq_true_eq, decide_eq_true_eq] at hsg
          obtain ⟨g, r2, k1, k2⟩ : ∃ g r2, r = g :: r2 ∧ (g.toNat = 43 ∨ g.toNat = 45) := by
            rcases hsg with h1 | h1
            · obtain ⟨e, r, k1, k2⟩ := getD_head h1 (by decide); exact ⟨e, r, k1, Or.inl k2⟩
            · obtain ⟨e, r, k1, k2⟩ := getD_head h1 (by decide); exact ⟨e, r, k1, Or.inr k2⟩
          subst k1
          rcases List.mem_cons.1 hb with rfl | hb
          · exact num_at (by omega)
          · exact numS_C (isD_S (hd b hb))
        · exact numS_C (isD_S (hd b hb))
  have hR : ∀ b ∈ pR l, numC b = true := by
    by_cases hdot : pDot l = true
    · have hh := hdot
      unfold pDot at hh
      rw [decide_eq_true_eq] at hh
      obtain ⟨g, r, k1, k2⟩ := getD_head hh (by decide)
      rw [k1]
      intro b hb
      rcases List.mem_cons.1 hb with rfl | hb
      · exact num_at (by omega)
      · rw [← List.takeWhile_append_dropWhile (p := isD) (l := r)] at hb
        rcases List.mem_append.1 hb with hb | hb
        · exact numS_C (isD_S (List.all_eq_true.1 List.all_takeWhile b hb))
        · refine hS b ?_
          unfold pS
          rw [if_pos hdot, k1]; exact hb
    · intro b hb
      refine hS b ?_
      unfold pS
      rw [if_neg hdot]; exact hb
  have hU : ∀ b ∈ pU l, numC b = true := by
    intro b hb
    rw [← List.takeWhile_append_dropWhile (p := isD) (l := pU l)] at hb
    rcases List.mem_append.1 hb with hb | hb
    · exact numS_C (isD_S (List.all_eq_true.1 List.all_takeWhile b hb))
    · exact hR b hb
  have hWn : pW l ≠ [] := by
    unfold pWok at hW
    rw [Bool.and_eq_true] at hW
    simpa using hW.1
  by_cases hn : pNeg l = true
  · have hh := hn
    unfold pNeg at hh
    rw [decide_eq_true_eq] at hh
    obtain ⟨g, r, k1, k2⟩ := getD_head hh (by decide)
    have hur : pU l = r := by unfold pU; rw [if_pos hn, k1]; rfl
    refine ⟨?_, g, r, k1, ?_⟩
    · rw [k1]
      intro b hb
      rcases List.mem_cons.1 hb with rfl | hb
      · exact num_at (by omega)
      · exact hU b (by rw [hur]; exact hb)
    · unfold numS; exact decide_eq_true (by omega)
  · have hul : pU l = l := by unfold pU; rw [if_neg hn]
    refine ⟨fun b hb => hU b (by rw [hul]; exact hb), ?_⟩
    unfold pW at hWn
    rw [hul] at hWn
    cases l with
    | nil => exact absurd rfl hWn
    | cons a r =>
      refine ⟨a, r, rfl, ?_⟩
      rw [List.takeWhile_cons] at hWn
      split at hWn
      · rename_i ha; exact isD_S ha
      · exact absurd rfl hWn
theorem run_self {p : UInt8 → Bool} {l : List UInt8} (h : ∀ x ∈ l, p x = true) : run p l = l.length := by
  unfold run
  induction l with
  | nil => rfl
  | cons a r ih => rw [List.takeWhile_cons, if_pos (h a (List.mem_cons_self ..)), List.length_cons, List.length_cons, ih (fun x hx => h x (List.mem_cons_of_mem _ hx))]
end Go.Proofs.YtkhjahpkbjafaaaGreatDoor
namespace Go.Proofs.YtkhjahpkbjafaaaGreatDoor
open Go.RowKit

/-- blanks, or a word: a sign, a string, a number, letters -/
inductive Tk where
  | bl (b : List UInt8)
  | sg (c : UInt8)
  | st (s : List UInt8)
  | nu (s : List UInt8)
  | li (s : List UInt8)
def Tk.tx : Tk → List UInt8
  | .bl b => b
  | .sg c => [c]
  | .st s => qtA false s
  | .nu s => s
  | .li s => s
def Tk.wd (i : Nat) : Tk → List Wd
  | .bl _ => []
  | .sg c => [⟨1, [c], i⟩]
  | .st s => [⟨2, s, i⟩]
  | .nu s => [⟨3, s, i⟩]
  | .li s => [⟨4, s, i⟩]
def txs (ts : List Tk) : List UInt8 := ts.flatMap Tk.tx
def wdsT : Nat → List Tk → List Wd
  | i, [] => [⟨0, [], i⟩]
  | i, t :: r => t.wd i ++ wdsT (i + t.tx.length) r
/-- each as it may stand, with nothing behind it that would make it longer -/
def okT : List Tk → Prop
  | [] => True
  | .bl b :: r => (∀ x ∈ b, blB x = true) ∧ okT r
  | .sg c :: r => sgnB c = true ∧ okT r
  | .st s :: r => Vl s ∧ s.length ≤ 4096 ∧ okT r
  | .nu s :: r => numB s = true ∧ (∀ x, (txs r).head? = some x → numC x = false) ∧ okT r
  | .li s :: r => litB s = true ∧ (∀ x, (txs r).head? = some x → lowC x = false) ∧ okT r
theorem txs_cons (t : Tk) (r : List Tk) : txs (t :: r) = t.tx ++ txs r := by unfold txs; rw [List.flatMap_cons]
theorem txs_app (a b : List Tk) : txs (a ++ b) = txs a ++ txs b := by unfold txs; rw [List.flatMap_append]
theorem run_stop {p : UInt8 → Bool} {l m : List UInt8} (h : ∀ x ∈ l, p x = true) (hm : ∀ x, m.head? = some x → p x = false) : run p (l ++ m) = l.length := by
  cases m with
  | nil => rw [List.append_nil]; exact run_self h
  | cons b m => exact run_app h (hm b rfl)
theorem get_mid (M : List UInt8) (b : UInt8) (r : List UInt8) : (M ++ b :: r)[M.length]? = some b := by
  rw [List.getElem?_append_right (Nat.le_refl _)]; simp
theorem drop_mid (M R : List UInt8) : (M ++ R).drop M.length = R := by simp
/-- blanks are passed over -/
theorem wds_bl : ∀ (b M R : List UInt8) (ws : List Wd), (∀ x ∈ b, blB x = true) → Wds (M ++ (b ++ R)) (M.length + b.length) ws → Wds (M ++ (b ++ R)) M.length ws
  | [], M, R, ws, _, h => by simpa using h
  | a :: b, M, R, ws, hb, h => by
    have e : M ++ ((a :: b) ++ R) = (M ++ [a]) ++ (b ++ R) := by simp
    have h1 := wds_bl b (M ++ [a]) R ws (fun x hx => hb x (List.mem_cons_of_mem _ hx)) (by rw [← e, List.length_append, List.length_singleton, Nat.add_assoc, Nat.add_comm 1]; exact h)
    rw [← e] at h1
    have hlt : M.length < (M ++ ((a :: b) ++ R)).length := by simp
    refine Wds.blank hlt ?_ (by simpa using h1)
    have := get_mid M a (b ++ R)
    rw [show M ++ a :: (b ++ R) = M ++ ((a :: b) ++ R) from rfl, List.getElem?_eq_getElem hlt] at this
    injection this with this
    rw [this]
    exact hb a (List.mem_cons_self ..)
theorem wds_one {T : List UInt8} {i : Nat} {b : UInt8} {kd nx : Nat} {tx : List UInt8} {ws : List Wd} (hb : T[i]? = some b) (hn : blB b = false) (hl : lw T i = ⟨kd, tx, nx, 0, 0⟩) (r : Wds T nx ws) : Wds T i (⟨kd, tx, i⟩ :: ws) := by
  obtain ⟨hlt, he⟩ := List.getElem?_eq_some_iff.1 hb
  have := Wds.word (T := T) i i (Nat.le_refl _) hlt (fun k _ h1 h2 => by omega) (by rw [he]; exact hn) (by rw [hl]) ws (by rw [hl]; exact r)
  rw [hl] at this
  exact this
theorem lit_head {s : List UInt8} (h : litB s = true) : (∃ b r, s = b :: r ∧ blB b = false ∧ sgnB b = false ∧ b.toNat ≠ 34 ∧ numS b = false) ∧ (∀ x ∈ s, lowC x = true) := by
  unfold litB at h
  rw [decide_eq_true_eq] at h
  rcases h with rfl | rfl | rfl
  · exact ⟨⟨_, _, rfl, by decide, by decide, by decide, by decide⟩, by decide⟩
  · exact ⟨⟨_, _, rfl, by decide, by decide, by decide, by decide⟩, by decide⟩
  · exact ⟨⟨_, _, rfl, by decide, by decide, by decide, by decide⟩, by decide⟩
theorem tok_wds : ∀ (ts : List Tk) (M : List UInt8), okT ts → Wds (M ++ txs ts) M.length (wdsT M.length ts)
  | [], M, _ => by
    have e : M ++ txs [] = M := by simp [txs]
    rw [e]
    exact .stop M.length (Nat.le_refl _) (fun k h hk => by omega)
  | .bl b :: r, M, h => by
    obtain ⟨h1, h2⟩ := h
    have ih := tok_wds r (M ++ b) h2
    rw [txs_cons]
    refine wds_bl b M (txs r) _ h1 ?_
    rw [List.append_assoc, List.length_append] at ih
    exact ih
  | .sg c :: r, M, h => by
    obtain ⟨h1, h2⟩ := h
    have ih := tok_wds r (M ++ [c]) h2
    rw [txs_cons]
    have hb := get_mid M c (txs r)
    have hbl : blB c = false := by
      unfold sgnB at h1; have := of_decide_eq_true h1
      unfold blB; exact decide_eq_false (by omega)
    have e : M ++ [c] ++ txs r = M ++ c :: txs r := by simp
    rw [e, List.length_append] at ih
    exact wds_one hb hbl (lw_sg hb hbl h1) ih
  | .st s :: r, M, h => by
    obtain ⟨h1, h3, h2⟩ := h
    have ih := tok_wds r (M ++ qtA false s) h2
    rw [txs_cons]
    obtain ⟨q, hq⟩ : ∃ q, qtA false s = 34 :: q := ⟨_, rfl⟩
    have hb : (M ++ (qtA false s ++ txs r))[M.length]? = some 34 := by rw [hq]; exact get_mid M 34 _
    have hrd := rd_whole false s M (txs r) h1.vld
    rw [List.append_assoc] at hrd
    have hu : unqJ (M ++ (qtA false s ++ txs r)) (M.length : Nat) = (s, M.length + (qtA false s).length, -1) := by
      unfold unqJ
      rw [if_pos ⟨by omega, by rw [Int.toNat_natCast]; exact bt_some hb⟩, Int.toNat_natCast]
      exact hrd
    have hl : lw (M ++ (qtA false s ++ txs r)) M.length = ⟨2, s, M.length + (qtA false s).length, 0, 0⟩ := by
      rw [lw_qt hb (by decide) (by decide) (by decide)]
      unfold lwS
      rw [hu, if_neg (by simp), if_neg (by simp only; omega)]
    rw [List.append_assoc, List.length_append] at ih
    exact wds_one hb (by decide) hl ih
  | .nu s :: r, M, h => by
    obtain ⟨h1, h3, h2⟩ := h
    have ih := tok_wds r (M ++ s) h2
    rw [txs_cons]
    have hN := h1
    unfold numB at hN
    rw [Bool.and_eq_true, Bool.and_eq_true, decide_eq_true_eq] at hN
    obtain ⟨⟨hp, hw⟩, hlen⟩ := hN
    obtain ⟨hall, s0, S', hS, h0⟩ := num_bytes hp
    have hb : (M ++ (s ++ txs r))[M.length]? = some s0 := by rw [hS]; exact get_mid M s0 _
    have hbl : blB s0 = false := by
      unfold numS at h0; have := of_decide_eq_true h0
      unfold blB; exact decide_eq_false (by omega)
    have hsg : sgnB s0 = false := by
      unfold numS at h0; have := of_decide_eq_true h0
      unfold sgnB; exact decide_eq_false (by omega)
    have hq : s0.toNat ≠ 34 := by unfold numS at h0; have := of_decide_eq_true h0; omega
    have hr : run numC ((M ++ (s ++ txs r)).drop M.length) = s.length := by rw [drop_mid]; exact run_stop hall h3
    have hP : ((M ++ (s ++ txs r)).drop M.length).take s.length = s := by rw [drop_mid]; exact List.take_left
    have hl : lw (M ++ (s ++ txs r)) M.length = ⟨3, s, M.length + s.length, 0, 0⟩ := by
      rw [lw_nm hb hbl hsg hq h0]
      unfold lwN
      rw [hr, hP, if_neg (by omega), if_neg (by rw [hp]; decide), if_neg (by rw [hw]; decide)]
    rw [List.append_assoc, List.length_append] at ih
    exact wds_one hb hbl hl ih
  | .li s :: r, M, h => by
    obtain ⟨h1, h3, h2⟩ := h
    have ih := tok_wds r (M ++ s) h2
    rw [txs_cons]
    obtain ⟨⟨s0, S', hS, hbl, hsg, hq, h0⟩, hall⟩ := lit_head h1
    have hb : (M ++ (s ++ txs r))[M.length]? = some s0 := by rw [hS]; exact get_mid M s0 _
    have hr : run lowC ((M ++ (s ++ txs r)).drop M.length) = s.length := by rw [drop_mid]; exact run_stop hall h3
    have hP : ((M ++ (s ++ txs r)).drop M.length).take s.length = s := by rw [drop_mid]; exact List.take_left
    have hl : lw (M ++ (s ++ txs r)) M.length = ⟨4, s, M.length + s.length, 0, 0⟩ := by
      rw [lw_lt hb hbl hsg hq h0]
      unfold lwL
      rw [hr, hP, if_pos h1]
    rw [List.append_assoc, List.length_append] at ih
    exact wds_one hb hbl hl ih
end Go.Proofs.YtkhjahpkbjafaaaGreatDoor
namespace Go.Proofs.YtkhjahpkbjafaaaGreatDoor
open Go.RowKit

end Go.Proofs.YtkhjahpkbjafaaaGreatDoor
