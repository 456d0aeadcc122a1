/- Plain mathematics: a value's text, as tokens, in one line or in many. -/
import Derived.Test.YtkhjahpkbjafaaaGreatDoorTMathTokR
namespace Go.Proofs.YtkhjahpkbjafaaaGreatDoor
open Go.RowKit

/-- a new line, so many in; nothing in a text of one line -/
def lnT : Option Nat → List Tk
  | none => []
  | some k => [.bl (10 :: List.replicate (2 * k) 32)]
def clnT : Option Nat → List Tk
  | none => [.sg 58]
  | some _ => [.sg 58, .bl [32]]
def upN (i : Option Nat) : Option Nat := i.map (· + 1)
/-- a value without parts -/
def tkS (k n : Int) (s : ByteArray) : Tk :=
  if k = 1 then .li (if n = 1 then [116, 114, 117, 101] else [102, 97, 108, 115, 101]) else if k = 2 then .nu (txt n) else if k = 3 then .nu s.data.toList else if k = 4 ∨ k = 7 then .st s.data.toList else .li [110, 117, 108, 108]
mutual
def tkV (i : Option Nat) : VT → List Tk
  | .mk k n s L K V => if k = 5 then .sg 91 :: (tkL (upN i) L ++ ((if L.isEmpty = true then [] else lnT i) ++ [.sg 93])) else if k = 6 then .sg 123 :: (tkM (upN i) V K ++ ((if V.isEmpty = true then [] else lnT i) ++ [.sg 125])) else [tkS k n s]
def tkL (i : Option Nat) : List VT → List Tk
  | [] => []
  | t :: r => lnT i ++ (tkV i t ++ tkLc i r)
def tkLc (i : Option Nat) : List VT → List Tk
  | [] => []
  | t :: r => .sg 44 :: (lnT i ++ (tkV i t ++ tkLc i r))
def tkM (i : Option Nat) : List VT → List ByteArray → List Tk
  | [], _ => []
  | t :: r, K => lnT i ++ (.st (K.headD ⟨#[]⟩).data.toList :: (clnT i ++ (tkV i t ++ tkMc i r K.tail)))
def tkMc (i : Option Nat) : List VT → List ByteArray → List Tk
  | [], _ => []
  | t :: r, K => .sg 44 :: (lnT i ++ (.st (K.headD ⟨#[]⟩).data.toList :: (clnT i ++ (tkV i t ++ tkMc i r K.tail))))
end
/-- the shapes of tokens -/
def shT : List Tk → List (Nat × List UInt8)
  | [] => []
  | .bl _ :: r => shT r
  | .sg c :: r => (1, [c]) :: shT r
  | .st s :: r => (2, s) :: shT r
  | .nu s :: r => (3, s) :: shT r
  | .li s :: r => (4, s) :: shT r
theorem shT_app : ∀ (a b : List Tk), shT (a ++ b) = shT a ++ shT b
  | [], b => rfl
  | t :: r, b => by
    have ih := shT_app r b
    cases t <;> simp [shT, ih]
theorem shT_ln (i : Option Nat) : shT (lnT i) = [] := by cases i <;> rfl
theorem shT_cln (i : Option Nat) : shT (clnT i) = [(1, [58])] := by cases i <;> rfl
theorem shT_one (k n : Int) (s : ByteArray) : shT [tkS k n s] = [shS k n s] := by
  unfold tkS shS
  (repeat' split) <;> rfl
mutual
theorem sh_val (i : Option Nat) : ∀ v : VT, shT (tkV i v) = shV v
  | .mk k n s L K V => by
    rw [tkV, shV]
    split
    · rw [shT, shT_app, shT_app, sh_list (upN i) L]
      split
      · rfl
      · rw [shT_ln]; rfl
    · split
      · rw [shT, shT_app, shT_app, sh_map (upN i) V K]
        split
        · rfl
        · rw [shT_ln]; rfl
      · exact shT_one k n s
theorem sh_list (i : Option Nat) : ∀ L : List VT, shT (tkL i L) = shL L
  | [] => rfl
  | t :: r => by rw [tkL, shL, shT_app, shT_app, shT_ln, sh_val i t, sh_listc i r]; rfl
theorem sh_listc (i : Option Nat) : ∀ L : List VT, shT (tkLc i L) = shLc L
  | [] => rfl
  | t :: r => by rw [tkLc, shLc, shT, shT_app, shT_app, shT_ln, sh_val i t, sh_listc i r]; rfl
theorem sh_map (i : Option Nat) : ∀ (V : List VT) (K : List ByteArray), shT (tkM i V K) = shM V K
  | [], _ => rfl
  | t :: r, K => by rw [tkM, shM, shT_app, shT, shT_app, shT_app, shT_ln, shT_cln, sh_val i t, sh_mapc i r K.tail]; rfl
theorem sh_mapc (i : Option Nat) : ∀ (V : List VT) (K : List ByteArray), shT (tkMc i V K) = shMc V K
  | [], _ => rfl
  | t :: r, K => by rw [tkMc, shMc, shT, shT_app, shT, shT_app, shT_app, shT_ln, shT_cln, sh_val i t, sh_mapc i r K.tail]; rfl
end
/-- a text that may be -/
theorem te_vl {s : ByteArray} (h : teI s = 0) : Vl s.data.toList ∧ s.data.toList.length ≤ 4096 := by
  have h1 := te_ok s
  rw [h, decide_eq_true rfl] at h1
  unfold strOkB at h1
  rw [Bool.and_eq_true, decide_eq_true_eq, decide_eq_true_eq] at h1
  exact ⟨vl_rv.2 h1.2, by rw [size_list]; exact h1.1⟩
/-- what may stand behind a value -/
def EdR (R : List UInt8) : Prop := ∀ x, R.head? = some x → numC x = false ∧ lowC x = false
theorem edr_nil : EdR [] := fun x h => by simp at h
theorem edr_cons {a : UInt8} {R : List UInt8} (h : numC a = false ∧ lowC a = false) : EdR (a :: R) := fun x hx => by
  simp at hx; subst hx; exact h
theorem ln_ok (i : Option Nat) (R : List UInt8) : okR R (lnT i) := by
  cases i with
  | none => trivial
  | some k =>
    refine ⟨fun x hx => ?_, trivial⟩
    rcases List.mem_cons.1 hx with rfl | hx
    · decide
    · rw [List.eq_of_mem_replicate hx]; decide
theorem sg_ok {c : UInt8} {R : List UInt8} (h : sgnB c = true) : (Tk.sg c).ok R := h
theorem cln_ok (i : Option Nat) (R : List UInt8) : okR R (clnT i) := by
  cases i with
  | none => exact ⟨sg_ok (by decide), trivial⟩
  | some k => exact ⟨sg_ok (by decide), fun x hx => by rw [List.mem_singleton.1 hx]; decide, trivial⟩
theorem stamp_vl {s : ByteArray} (h : stampB s = true) : Vl s.data.toList ∧ s.data.toList.length ≤ 4096 := by
  unfold stampB at h
  rw [Bool.and_eq_true, Bool.and_eq_true, decide_eq_true_eq, decide_eq_true_eq, List.all_eq_true] at h
  obtain ⟨⟨-, h2⟩, h3⟩ := h
  refine ⟨vl_ascii (fun b hb => ?_), by rw [size_list]; omega⟩
  have := h3 b hb
  simp only [Bool.and_eq_true, decide_eq_true_eq] at this
  omega
theorem one_ok {k n : Int} {s : ByteArray} {L : List VT} {K : List ByteArray} {V : List VT} (hn : nodeB (.mk k n s L K V) = true) (hw : -9223372036854775808 ≤ n ∧ n < 9223372036854775808) (h5 : ¬ k = 5) (h6 : ¬ k = 6) {R : List UInt8} (hR : EdR R) : (tkS k n s).ok R := by
  unfold nodeB nodeC at hn
  simp only [VT.kd, VT.nm, VT.st, VT.ls, VT.ks, VT.vs] at hn
  unfold tkS
  by_cases h1 : k = 1
  · rw [if_pos h1]
    refine ⟨?_, fun x hx => (hR x hx).2⟩
    split <;> decide
  rw [if_neg h1]
  by_cases h2 : k = 2
  · rw [if_pos h2]
    exact ⟨(text_bare n hw).1, fun x hx => (hR x hx).1⟩
  rw [if_neg h2]
  by_cases h3 : k = 3
  · rw [if_pos h3]
    subst h3
    simp at hn
    exact ⟨hn.1.1.2.1, fun x hx => (hR x hx).1⟩
  rw [if_neg h3]
  by_cases h4 : k = 4
  · rw [if_pos (Or.inl h4)]
    subst h4
    simp at hn
    exact te_vl hn.1.1.2
  by_cases h7 : k = 7
  · rw [if_pos (Or.inr h7)]
    subst h7
    simp at hn
    exact stamp_vl hn.1.1.2
  rw [if_neg (by omega)]
  exact ⟨by decide, fun x hx => (hR x hx).2⟩
theorem txs_sg (c : UInt8) (r : List Tk) : txs (.sg c :: r) = c :: txs r := rfl
theorem edr_lc (i : Option Nat) (L : List VT) {R : List UInt8} (hR : EdR R) : EdR (txs (tkLc i L) ++ R) := by
  cases L with
  | nil => rw [tkLc]; exact hR
  | cons t r => rw [tkLc, txs_sg]; exact edr_cons (by decide)
theorem edr_mc (i : Option Nat) (V : List VT) (K : List ByteArray) {R : List UInt8} (hR : EdR R) : EdR (txs (tkMc i V K) ++ R) := by
  cases V with
  | nil => rw [tkMc]; exact hR
  | cons t r => rw [tkMc, txs_sg]; exact edr_cons (by decide)
theorem edr_end (i : Option Nat) (b : Bool) {c : UInt8} (hc : numC c = false ∧ lowC c = false) (R : List UInt8) : EdR (txs ((if b = true then [] else lnT i) ++ [Tk.sg c]) ++ R) := by
  cases b with
  | true => exact edr_cons hc
  | false =>
    cases i with
    | none => exact edr_cons hc
    | some k => exact edr_cons (by decide)
theorem end_ok (i : Option Nat) (b : Bool) {c : UInt8} (hc : sgnB c = true) (R : List UInt8) : okR R ((if b = true then [] else lnT i) ++ [Tk.sg c]) := by
  rw [okR_app]
  refine ⟨?_, hc, trivial⟩
  cases b with
  | true => trivial
  | false => exact ln_ok i _
theorem keys_te {K : List ByteArray} (h : keysB K = true) : ∀ c ∈ K, teI c = 0 := by
  intro c hc
  obtain ⟨i, hi⟩ := List.getElem?_of_mem hc
  have h1 := keys_at h i c hi
  rw [te_ok, decide_eq_true_eq] at h1
  exact h1
mutual
theorem val_ok (i : Option Nat) : ∀ v : VT, plainT v = true → wfT v → ∀ R, EdR R → okR R (tkV i v)
  | .mk k n s L K V, hp, hw, R, hR => by
    rw [plainT, Bool.and_eq_true, Bool.and_eq_true] at hp
    obtain ⟨⟨hn, hpL⟩, hpV⟩ := hp
    rw [wfT] at hw
    obtain ⟨hw1, hKV, hwL, hwV⟩ := hw
    rw [tkV]
    split
    · refine ⟨sg_ok (by decide), ?_⟩
      rw [okR_app]
      exact ⟨list_ok (upN i) L hpL hwL _ (edr_end i _ (by decide) R), end_ok i _ (by decide) R⟩
    · split
      · rename_i h6
        refine ⟨sg_ok (by decide), ?_⟩
        rw [okR_app]
        subst h6
        unfold nodeB nodeC at hn
        simp [VT.kd, VT.nm, VT.st, VT.ls, VT.ks] at hn
        exact ⟨map_ok (upN i) V K hpV hwV hKV (keys_te hn.2) _ (edr_end i _ (by decide) R), end_ok i _ (by decide) R⟩
      · exact ⟨one_ok hn hw1 (by assumption) (by assumption) (by simpa [txs] using hR), trivial⟩
theorem list_ok (i : Option Nat) : ∀ L : List VT, plainL L = true → wfL L → ∀ R, EdR R → okR R (tkL i L)
  | [], _, _, R, _ => by rw [tkL]; trivial
  | t :: r, hp, hw, R, hR => by
    rw [plainL, Bool.and_eq_true] at hp
    rw [wfL] at hw
    rw [tkL, okR_app, okR_app]
    exact ⟨ln_ok i _, val_ok i t hp.1 hw.1 _ (edr_lc i r hR), listc_ok i r hp.2 hw.2 R hR⟩
theorem listc_ok (i : Option Nat) : ∀ L : List VT, plainL L = true → wfL L → ∀ R, EdR R → okR R (tkLc i L)
  | [], _, _, R, _ => by rw [tkLc]; trivial
  | t :: r, hp, hw, R, hR => by
    rw [plainL, Bool.and_eq_true] at hp
    rw [wfL] at hw
    rw [tkLc]
    refine ⟨sg_ok (by decide), ?_⟩
    rw [okR_app, okR_app]
    exact ⟨ln_ok i _, val_ok i t hp.1 hw.1 _ (edr_lc i r hR), listc_ok i r hp.2 hw.2 R hR⟩
theorem map_ok (i : Option Nat) : ∀ (V : List VT) (K : List ByteArray), plainL V = true → wfL V → K.length = V.length → (∀ c ∈ K, teI c = 0) → ∀ R, EdR R → okR R (tkM i V K)
  | [], K, _, _, _, _, R, _ => by rw [tkM]; trivial
  | t :: r, [], _, _, hl, _, _, _ => by simp at hl
  | t :: r, c :: K, hp, hw, hl, hk, R, hR => by
    rw [plainL, Bool.and_eq_true] at hp
    rw [wfL] at hw
    rw [tkM, okR_app]
    refine ⟨ln_ok i _, te_vl (hk c (List.mem_cons_self ..)), ?_⟩
    rw [okR_app, okR_app]
    exact ⟨cln_ok i _, val_ok i t hp.1 hw.1 _ (edr_mc i r _ hR), mapc_ok i r K hp.2 hw.2 (by simpa using hl) (fun c hc => hk c (List.mem_cons_of_mem _ hc)) R hR⟩
theorem mapc_ok (i : Option Nat) : ∀ (V : List VT) (K : List ByteArray), plainL V = true → wfL V → K.length = V.length → (∀ c ∈ K, teI c = 0) → ∀ R, EdR R → okR R (tkMc i V K)
  | [], K, _, _, _, _, R, _ => by rw [tkMc]; trivial
  | t :: r, [], _, _, hl, _, _, _ => by simp at hl
  | t :: r, c :: K, hp, hw, hl, hk, R, hR => by
    rw [plainL, Bool.and_eq_true] at hp
    rw [wfL] at hw
    rw [tkMc]
    refine ⟨sg_ok (by decide), ?_⟩
    rw [okR_app]
    refine ⟨ln_ok i _, te_vl (hk c (List.mem_cons_self ..)), ?_⟩
    rw [okR_app, okR_app]
    exact ⟨cln_ok i _, val_ok i t hp.1 hw.1 _ (edr_mc i r _ hR), mapc_ok i r K hp.2 hw.2 (by simpa using hl) (fun c hc => hk c (List.mem_cons_of_mem _ hc)) R hR⟩
end
end Go.Proofs.YtkhjahpkbjafaaaGreatDoor
