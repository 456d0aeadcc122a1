/- Plain mathematics: the bytes of a value's text: none below 32 in one line; without blanks and lines both texts are one. -/
import Derived.Test.YtkhjahpkbjafaaaGreatDoorQJpI
namespace Go.Proofs.YtkhjahpkbjafaaaGreatDoor
open Go.RowKit

theorem tk_high {l : List UInt8} (h : 1 < tkN l) : ∀ b ∈ l.take (tkN l), 128 ≤ b.toNat := by
  cases l with
  | nil => simp [tkN] at h
  | cons a t =>
    simp only [tkN] at h ⊢
    split at h
    · rename_i hok
      rw [if_pos hok]
      unfold tkOk at hok
      rw [Bool.and_eq_true, Bool.and_eq_true] at hok
      have hc := hok.1.2
      obtain ⟨m, hm⟩ : ∃ m, begN a.toNat = m + 1 := ⟨begN a.toNat - 1, by omega⟩
      have ha : 128 ≤ a.toNat := by
        apply Classical.byContradiction
        intro hn
        unfold begN at h
        rw [if_pos (by omega)] at h
        omega
      rw [hm, List.take_succ_cons]
      intro b hb
      rcases List.mem_cons.1 hb with rfl | hb
      · exact ha
      · rw [hm, Nat.add_sub_cancel] at hc
        exact (cont_bd (List.all_eq_true.1 hc b hb)).1
    · omega
set_option maxRecDepth 100000 in
theorem qbB_ge : ∀ m < 128, ∀ b ∈ qbB m, 32 ≤ b.toNat := by decide
theorem qst_ge (l : List UInt8) (h : tkN l ≠ 0) : ∀ b ∈ qst false l, 32 ≤ b.toNat := by
  unfold qst
  rw [if_neg h]
  by_cases h1 : 1 < tkN l
  · rw [if_pos (Or.inl h1)]
    intro b hb
    have := tk_high h1 b hb
    omega
  · split
    · rename_i hc
      rcases hc with hc | hc
      · exact absurd hc h1
      · have ht : tkN l = 1 := by omega
        have hl : 0 < l.length := by have := tkN_le l; omega
        rw [ht, head_take hl, hc.1]
        decide
    · exact qbB_ge _ (tk_small h h1)
theorem qtA_ge {s : List UInt8} (h : Vl s) : ∀ b ∈ qtA false s, 32 ≤ b.toNat := by
  intro b hb
  unfold qtA qtK at hb
  rcases List.mem_append.1 hb with hb | hb
  · rcases List.mem_cons.1 hb with rfl | hb
    · decide
    · obtain ⟨j, hj, hb⟩ := List.mem_flatMap.1 hb
      exact qst_ge _ (h.vld j (List.mem_range.1 hj)) b hb
  · rw [List.mem_singleton.1 hb]; decide
theorem tk_ge {t : Tk} {R : List UInt8} (h : t.ok R) (hb : ∀ b, t ≠ .bl b) : ∀ x ∈ t.tx, 32 ≤ x.toNat := by
  cases t with
  | bl b => exact absurd rfl (hb b)
  | sg c =>
    intro x hx
    have h1 : sgnB c = true := h
    unfold sgnB at h1
    have := of_decide_eq_true h1
    rw [List.mem_singleton.1 hx]; omega
  | st s => exact qtA_ge h.1
  | nu s =>
    intro x hx
    have hN := h.1
    unfold numB at hN
    rw [Bool.and_eq_true, Bool.and_eq_true] at hN
    have := (num_bytes hN.1.1).1 x hx
    unfold numC numS at this
    simp only [Bool.or_eq_true, decide_eq_true_eq] at this
    omega
  | li s =>
    intro x hx
    have := (lit_head h.1).2 x hx
    unfold lowC at this
    have := of_decide_eq_true this
    omega
def NoBl (ts : List Tk) : Prop := ∀ t ∈ ts, ∀ b, t ≠ .bl b
theorem NoBl.app {a b : List Tk} (h : NoBl a) (g : NoBl b) : NoBl (a ++ b) := fun t ht => (List.mem_append.1 ht).elim (h t) (g t)
theorem NoBl.cons {t : Tk} {r : List Tk} (h : ∀ b, t ≠ .bl b) (g : NoBl r) : NoBl (t :: r) := fun x hx => (List.mem_cons.1 hx).elim (fun e => e ▸ h) (g x)
theorem nb_nil : NoBl [] := fun t ht => by simp at ht
theorem tkS_nb (k n : Int) (s : ByteArray) : ∀ b, tkS k n s ≠ .bl b := fun b e => by
  unfold tkS at e
  (repeat' split at e) <;> cases e
mutual
theorem nb_val : ∀ v : VT, NoBl (tkV none v)
  | .mk k n s L K V => by
    rw [tkV]
    split
    · exact (nb_nil.cons (t := .sg 91) (by simp)).app ((nb_list L).app (by split <;> exact nb_nil.cons (by simp)))
    · split
      · exact (nb_nil.cons (t := .sg 123) (by simp)).app ((nb_map V K).app (by split <;> exact nb_nil.cons (by simp)))
      · exact nb_nil.cons (tkS_nb k n s)
theorem nb_list : ∀ L : List VT, NoBl (tkL (upN none) L)
  | [] => by rw [tkL]; exact nb_nil
  | t :: r => by rw [tkL]; exact nb_nil.app ((nb_val t).app (nb_listc r))
theorem nb_listc : ∀ L : List VT, NoBl (tkLc (upN none) L)
  | [] => by rw [tkLc]; exact nb_nil
  | t :: r => by rw [tkLc]; exact ((nb_nil.app ((nb_val t).app (nb_listc r)))).cons (by simp)
theorem nb_map : ∀ (V : List VT) (K : List ByteArray), NoBl (tkM (upN none) V K)
  | [], K => by rw [tkM]; exact nb_nil
  | t :: r, K => by rw [tkM]; exact nb_nil.app (((nb_nil.cons (t := .sg 58) (by simp)).app ((nb_val t).app (nb_mapc r K.tail))).cons (by simp))
theorem nb_mapc : ∀ (V : List VT) (K : List ByteArray), NoBl (tkMc (upN none) V K)
  | [], K => by rw [tkMc]; exact nb_nil
  | t :: r, K => by rw [tkMc]; exact (nb_nil.app (((nb_nil.cons (t := .sg 58) (by simp)).app ((nb_val t).app (nb_mapc r K.tail))).cons (by simp))).cons (by simp)
end
theorem txs_ge {R : List UInt8} : ∀ (ts : List Tk), okR R ts → NoBl ts → ∀ x ∈ txs ts, 32 ≤ x.toNat
  | [], _, _, x, hx => by simp [txs] at hx
  | t :: r, h, g, x, hx => by
    rw [txs_cons] at hx
    rcases List.mem_append.1 hx with hx | hx
    · exact tk_ge h.1 (g t (List.mem_cons_self ..)) x hx
    · exact txs_ge r h.2 (fun a ha => g a (List.mem_cons_of_mem _ ha)) x hx
theorem val_ge (v : VT) (hp : plainT v = true) (hw : wfT v) : ∀ x ∈ txs (tkV none v), 32 ≤ x.toNat := txs_ge _ (val_ok none v hp hw [] edr_nil) (nb_val v)
/-- what is no blank and no line's end -/
def kpB (x : UInt8) : Bool := !decide (x.toNat = 32) && !decide (x.toNat = 10)
def kp (l : List UInt8) : List UInt8 := l.filter kpB
theorem kp_app (a b : List UInt8) : kp (a ++ b) = kp a ++ kp b := List.filter_append ..
theorem kp_ln (i : Option Nat) : kp (txs (lnT i)) = [] := by
  cases i with
  | none => rfl
  | some k =>
    have e : txs (lnT (some k)) = 10 :: List.replicate (2 * k) 32 := by simp [lnT, txs, Tk.tx]
    rw [e]
    refine List.filter_eq_nil_iff.2 (fun x hx => ?_)
    rcases List.mem_cons.1 hx with rfl | hx
    · decide
    · rw [List.eq_of_mem_replicate hx]; decide
theorem kp_cln (i : Option Nat) : kp (txs (clnT i)) = [58] := by cases i <;> rfl
theorem kp_end (i : Option Nat) (b : Bool) (c : UInt8) : kp (txs ((if b = true then [] else lnT i) ++ [Tk.sg c])) = kp [c] := by
  rw [txs_app, kp_app]
  cases b
  · simp only [Bool.false_eq_true, if_false, kp_ln]; rfl
  · rfl
mutual
/-- both texts are alike without them -/
theorem kp_val : ∀ (v : VT) (i j : Option Nat), kp (txs (tkV i v)) = kp (txs (tkV j v))
  | .mk k n s L K V, i, j => by
    rw [tkV, tkV]
    split
    · rw [txs_cons, txs_cons, kp_app, kp_app, txs_app (tkL (upN i) L), txs_app (tkL (upN j) L), kp_app, kp_app, kp_list L (upN i) (upN j), kp_end, kp_end]
    · split
      · rw [txs_cons, txs_cons, kp_app, kp_app, txs_app (tkM (upN i) V K), txs_app (tkM (upN j) V K), kp_app, kp_app, kp_map V K (upN i) (upN j), kp_end, kp_end]
      · rfl
theorem kp_list : ∀ (L : List VT) (i j : Option Nat), kp (txs (tkL i L)) = kp (txs (tkL j L))
  | [], i, j => by rw [tkL, tkL]
  | t :: r, i, j => by rw [tkL, tkL, txs_app, txs_app, txs_app, txs_app, kp_app, kp_app, kp_app, kp_app, kp_ln, kp_ln, kp_val t i j, kp_listc r i j]
theorem kp_listc : ∀ (L : List VT) (i j : Option Nat), kp (txs (tkLc i L)) = kp (txs (tkLc j L))
  | [], i, j => by rw [tkLc, tkLc]
  | t :: r, i, j => by rw [tkLc, tkLc, txs_cons, txs_cons, txs_app, txs_app, txs_app, txs_app, kp_app, kp_app, kp_app, kp_app, kp_app, kp_app, kp_ln, kp_ln, kp_val t i j, kp_listc r i j]
theorem kp_map : ∀ (V : List VT) (K : List ByteArray) (i j : Option Nat), kp (txs (tkM i V K)) = kp (txs (tkM j V K))
  | [], K, i, j => by rw [tkM, tkM]
  | t :: r, K, i, j => by
    rw [tkM, tkM]
    simp only [txs_app, txs_cons, kp_app, kp_ln, kp_cln]
    rw [kp_val t i j, kp_mapc r K.tail i j]
theorem kp_mapc : ∀ (V : List VT) (K : List ByteArray) (i j : Option Nat), kp (txs (tkMc i V K)) = kp (txs (tkMc j V K))
  | [], K, i, j => by rw [tkMc, tkMc]
  | t :: r, K, i, j => by
    rw [tkMc, tkMc]
    simp only [txs_app, txs_cons, kp_app, kp_ln, kp_cln]
    rw [kp_val t i j, kp_mapc r K.tail i j]
end
theorem lines_same (v : VT) (hp : plainT v = true) (hw : wfT v) (h : ∀ x ∈ txs (tkV none v), x.toNat ≠ 32) : kp (txs (tkV (some 0) v)) = txs (tkV none v) := by
  rw [kp_val v (some 0) none]
  refine List.filter_eq_self.2 (fun x hx => ?_)
  have h1 := h x hx
  have h2 := val_ge v hp hw x hx
  unfold kpB
  rw [decide_eq_false h1, decide_eq_false (by omega)]
  rfl
end Go.Proofs.YtkhjahpkbjafaaaGreatDoor
