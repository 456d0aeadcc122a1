/- Plain mathematics: words that are read as a value at some depth, whatever stands behind them. -/
import Derived.Test.YtkhjahpkbjafaaaGreatDoorURefVal7
import Derived.Test.YtkhjahpkbjafaaaGreatDoorUMathSpell
import Derived.Test.YtkhjahpkbjafaaaGreatDoorUMathEscB
/- Plain mathematics: lists and maps in one another, and a row of noughts, as texts that are read. -/
/- What is cut off is wrong at its end or ahead of it: plain mathematics. -/
/- Plain mathematics: tokens with any text behind them: just these words are cut off it. -/
/- Plain mathematics: a value's text, as tokens, in one line or in many. -/
namespace Go.Proofs.YtkhjahpkbjafaaaGreatDoor
open Go.RowKit

theorem beg_isM {x : Wd} {r : List Wd} {c : UInt8} (h : begB x = true) (h1 : c ≠ 123) (h2 : c ≠ 91) : isM c (x :: r) = false := by
  refine isM_no (fun ⟨h3, h4⟩ => beg_yes h (Or.inr ⟨h3, ?_, ?_⟩))
  · rw [h4]; intro e; injection e with e; exact h1 e
  · rw [h4]; intro e; injection e with e; exact h2 e
/-- these words, so deep, are this tree of so many nodes, whatever stands behind them -/
def Rds (d : Nat) (ws : List Wd) (t : VT) (k : Nat) : Prop :=
  (∃ x r, ws = x :: r ∧ begB x = true) ∧ ∀ (n f : Nat) (r : List Wd), n + k ≤ 4096 → 2 * ws.length + 1 ≤ f → jrV f d n (ws ++ r) = .ok t (n + k) r
theorem Rds.not {d : Nat} {ws : List Wd} {t : VT} {k : Nat} (h : Rds d ws t k) {c : UInt8} (h1 : c ≠ 123) (h2 : c ≠ 91) (r : List Wd) : isM c (ws ++ r) = false := by
  obtain ⟨⟨x, q, rfl, hx⟩, -⟩ := h
  exact beg_isM hx h1 h2
/-- words of pairs, with commas between them -/
inductive RdM (d : Nat) : List Wd → List (ByteArray × VT) → Nat → Prop
  | one {xk xc : Wd} {wv : List Wd} {t : VT} {k : Nat} (h1 : xk.kd = 2) (h2 : shp xc = (1, [58])) (h3 : Rds (d + 1) wv t k) : RdM d (xk :: xc :: wv) [(mkS xk.tx, t)] k
  | more {xk xc xm : Wd} {wv ws : List Wd} {t : VT} {k m : Nat} {P : List (ByteArray × VT)} (h1 : xk.kd = 2) (h2 : shp xc = (1, [58])) (h3 : Rds (d + 1) wv t k) (h4 : shp xm = (1, [44])) (r : RdM d ws P m) : RdM d (xk :: xc :: (wv ++ xm :: ws)) ((mkS xk.tx, t) :: P) (k + m)
/-- pairs put in, one behind the other -/
def insA (acc P : List (ByteArray × VT)) : List (ByteArray × VT) := P.foldl (fun a p => insP p.1 p.2 false a) acc
theorem RdM.head {d : Nat} {ws : List Wd} {P : List (ByteArray × VT)} {m : Nat} (h : RdM d ws P m) : ∃ x r, ws = x :: r ∧ x.kd = 2 := by
  cases h with
  | one h1 _ _ => exact ⟨_, _, rfl, h1⟩
  | more h1 _ _ _ _ => exact ⟨_, _, rfl, h1⟩
/-- words one deep too deep: whatever begins here -/
def Bds (d : Nat) (ws : List Wd) : Prop := (∃ x r, ws = x :: r ∧ begB x = true) ∧ ∀ (n f : Nat) (r : List Wd), n + ws.length < 4096 → 2 * ws.length + 1 ≤ f → ∃ a, jrV f d n (ws ++ r) = .bad 2 a
/-- a row of noughts in a list -/
inductive RdZ : List Wd → Nat → Prop
  | one {x : Wd} (h : shp x = (3, [48])) : RdZ [x] 1
  | more {x xm : Wd} {ws : List Wd} {m : Nat} (h : shp x = (3, [48])) (h4 : shp xm = (1, [44])) (r : RdZ ws m) : RdZ (x :: xm :: ws) (m + 1)
theorem RdZ.head {ws : List Wd} {m : Nat} (h : RdZ ws m) : ∃ x r, ws = x :: r ∧ x.kd = 3 ∧ 1 ≤ m := by
  cases h with
  | one h => unfold shp at h; injection h with h1; exact ⟨_, _, rfl, h1, by omega⟩
  | more h _ _ => unfold shp at h; injection h with h1; exact ⟨_, _, rfl, h1, by omega⟩
end Go.Proofs.YtkhjahpkbjafaaaGreatDoor
namespace Go.Proofs.YtkhjahpkbjafaaaGreatDoor
open Go.RowKit

/-- the words of tokens, without the end -/
def wdsN : Nat → List Tk → List Wd
  | _, [] => []
  | i, t :: r => t.wd i ++ wdsN (i + t.tx.length) r
theorem wdsT_N : ∀ (ts : List Tk) (i : Nat), wdsT i ts = wdsN i ts ++ [⟨0, [], i + (txs ts).length⟩]
  | [], i => by simp [wdsT, wdsN, txs]
  | t :: r, i => by rw [wdsT, wdsN, wdsT_N r, txs_cons, List.length_append, List.append_assoc, Nat.add_assoc]
def opT : Bool → List Tk
  | true => [.sg 123, .st [107], .sg 58]
  | false => [.sg 91]
def clT : Bool → List Tk
  | true => [.sg 125]
  | false => [.sg 93]
/-- so many lists, or maps, around a one -/
def nst (kind : Bool) : Nat → List Tk
  | 0 => [.nu [49]]
  | n + 1 => opT kind ++ (nst kind n ++ clT kind)
def nestT (kind : Bool) : Nat → VT
  | 0 => leafT 2 1 ⟨#[]⟩
  | n + 1 => if kind then mapT [(⟨#[107]⟩, nestT kind n)] else listT [nestT kind n]
theorem Bds.app {d : Nat} {ws : List Wd} (h : Bds d ws) (q : List Wd) : Bds d (ws ++ q) := by
  obtain ⟨⟨x, r, rfl, hx⟩, hr⟩ := h
  refine ⟨⟨x, r ++ q, rfl, hx⟩, fun n f s hn hf => ?_⟩
  rw [List.length_append] at hn hf
  rw [List.append_assoc]
  exact hr n f (q ++ s) (by omega) (by omega)
def opB (kind : Bool) : List UInt8 := if kind then [123, 34, 107, 34, 58] else [91]
def clB (kind : Bool) : List UInt8 := if kind then [125] else [93]
/-- a text so many times -/
def rep (l : List UInt8) : Nat → List UInt8
  | 0 => []
  | n + 1 => rep l n ++ l
/-- a row of noughts -/
def rowT : Nat → List Tk
  | 0 => [.nu [48]]
  | m + 1 => .nu [48] :: .sg 44 :: rowT m
end Go.Proofs.YtkhjahpkbjafaaaGreatDoor
namespace Go.Proofs.YtkhjahpkbjafaaaGreatDoor
open Go.RowKit

/-- what a longer text cannot take back -/
def Keeps (P : List UInt8 → List UInt8 × Nat) : Prop := ∀ l m, 0 < (P l).2 → P (l ++ m) = P l
end Go.Proofs.YtkhjahpkbjafaaaGreatDoor
namespace Go.Proofs.YtkhjahpkbjafaaaGreatDoor
open Go.RowKit

/-- a token as it may stand, with this text behind it -/
def Tk.ok (R : List UInt8) : Tk → Prop
  | .bl b => ∀ x ∈ b, blB x = true
  | .sg c => sgnB c = true
  | .st s => Vl s ∧ s.length ≤ 4096
  | .nu s => numB s = true ∧ ∀ x, R.head? = some x → numC x = false
  | .li s => litB s = true ∧ ∀ x, R.head? = some x → lowC x = false
def okR (R : List UInt8) : List Tk → Prop
  | [] => True
  | t :: r => t.ok (txs r ++ R) ∧ okR R r
theorem okR_app {R : List UInt8} : ∀ (a b : List Tk), okR R (a ++ b) ↔ okR (txs b ++ R) a ∧ okR R b
  | [], b => by simp [okR]
  | t :: r, b => by rw [List.cons_append, okR, okR, okR_app r b, txs_app, List.append_assoc, and_assoc]
theorem okT_R : ∀ (ts : List Tk), okT ts ↔ okR [] ts
  | [] => Iff.rfl
  | t :: r => by
    have ih := okT_R r
    cases t with
    | bl b => rw [okT, okR, List.append_nil, ih]; rfl
    | sg c => rw [okT, okR, List.append_nil, ih]; rfl
    | st s => rw [okT, okR, List.append_nil, ih]; exact and_assoc.symm
    | nu s => rw [okT, okR, List.append_nil, ih]; exact and_assoc.symm
    | li s => rw [okT, okR, List.append_nil, ih]; exact and_assoc.symm
/-- what a token that is no blank is cut to -/
theorem tok_lw (t : Tk) (M R : List UInt8) (h : t.ok R) (hb : ∀ b, t ≠ .bl b) : ∃ (b : UInt8) (kd : Nat) (tx : List UInt8), (M ++ (t.tx ++ R))[M.length]? = some b ∧ blB b = false ∧ lw (M ++ (t.tx ++ R)) M.length = ⟨kd, tx, M.length + t.tx.length, 0, 0⟩ ∧ t.wd M.length = [⟨kd, tx, M.length⟩] := by
  cases t with
  | bl b => exact absurd rfl (hb b)
  | sg c =>
    have h1 : sgnB c = true := h
    have hb := get_mid M c R
    have hbl : blB c = false := by
      unfold sgnB at h1; have := of_decide_eq_true h1
      unfold blB; exact decide_eq_false (by omega)
    exact ⟨c, 1, [c], hb, hbl, lw_sg hb hbl h1, rfl⟩
  | st s =>
    obtain ⟨h1, h3⟩ := h
    obtain ⟨q, hq⟩ : ∃ q, qtA false s = 34 :: q := ⟨_, rfl⟩
    have hb : (M ++ (qtA false s ++ R))[M.length]? = some 34 := by rw [hq]; exact get_mid M 34 _
    have hrd := rd_whole false s M R h1.vld
    rw [List.append_assoc] at hrd
    have hu : unqJ (M ++ (qtA false s ++ R)) (M.length : Nat) = (s, M.length + (qtA false s).length, -1) := by
      unfold unqJ
      rw [if_pos ⟨by omega, by rw [Int.toNat_natCast]; exact bt_some hb⟩, Int.toNat_natCast]
      exact hrd
    have hl : lw (M ++ (qtA false s ++ R)) M.length = ⟨2, s, M.length + (qtA false s).length, 0, 0⟩ := by
      rw [lw_qt hb (by decide) (by decide) (by decide)]
      unfold lwS
      rw [hu, if_neg (by simp), if_neg (by simp only; omega)]
    exact ⟨34, 2, s, hb, by decide, hl, rfl⟩
  | nu s =>
    obtain ⟨h1, h3⟩ := h
    have hN := h1
    unfold numB at hN
    rw [Bool.and_eq_true, Bool.and_eq_true, decide_eq_true_eq] at hN
    obtain ⟨⟨hp, hw⟩, hlen⟩ := hN
    obtain ⟨hall, s0, S', hS, h0⟩ := num_bytes hp
    have hb : (M ++ (s ++ R))[M.length]? = some s0 := by rw [hS]; exact get_mid M s0 _
    have hbl : blB s0 = false := by
      unfold numS at h0; have := of_decide_eq_true h0
      unfold blB; exact decide_eq_false (by omega)
    have hsg : sgnB s0 = false := by
      unfold numS at h0; have := of_decide_eq_true h0
      unfold sgnB; exact decide_eq_false (by omega)
    have hq : s0.toNat ≠ 34 := by unfold numS at h0; have := of_decide_eq_true h0; omega
    have hr : run numC ((M ++ (s ++ R)).drop M.length) = s.length := by rw [drop_mid]; exact run_stop hall h3
    have hP : ((M ++ (s ++ R)).drop M.length).take s.length = s := by rw [drop_mid]; exact List.take_left
    have hl : lw (M ++ (s ++ R)) M.length = ⟨3, s, M.length + s.length, 0, 0⟩ := by
      rw [lw_nm hb hbl hsg hq h0]
      unfold lwN
      rw [hr, hP, if_neg (by omega), if_neg (by rw [hp]; decide), if_neg (by rw [hw]; decide)]
    exact ⟨s0, 3, s, hb, hbl, hl, rfl⟩
  | li s =>
    obtain ⟨h1, h3⟩ := h
    obtain ⟨⟨s0, S', hS, hbl, hsg, hq, h0⟩, hall⟩ := lit_head h1
    have hb : (M ++ (s ++ R))[M.length]? = some s0 := by rw [hS]; exact get_mid M s0 _
    have hr : run lowC ((M ++ (s ++ R)).drop M.length) = s.length := by rw [drop_mid]; exact run_stop hall h3
    have hP : ((M ++ (s ++ R)).drop M.length).take s.length = s := by rw [drop_mid]; exact List.take_left
    have hl : lw (M ++ (s ++ R)) M.length = ⟨4, s, M.length + s.length, 0, 0⟩ := by
      rw [lw_lt hb hbl hsg hq h0]
      unfold lwL
      rw [hr, hP, if_pos h1]
    exact ⟨s0, 4, s, hb, hbl, hl, rfl⟩
/-- signs that open, less those that shut -/
def bal : List Wd → Int
  | [] => 0
  | x :: r => (if x.kd = 1 then (if x.tx = [91] ∨ x.tx = [123] then 1 else if x.tx = [93] ∨ x.tx = [125] then -1 else 0) else 0) + bal r
end Go.Proofs.YtkhjahpkbjafaaaGreatDoor
namespace Go.Proofs.YtkhjahpkbjafaaaGreatDoor
open Go.RowKit

/-- a new line, so many in; nothing in a text of one line -/
def lnT : Option Nat → List Tk
  | none => []
  | some k => [.bl (10 :: List.replicate (2 * k) 32)]
def clnT : Option Nat → List Tk
  | none => [.sg 58]
  | some _ => [.sg 58, .bl [32]]
def upN (i : Option Nat) : Option Nat := i.map (· + 1)
/-- a value without parts -/
def tkS (k n : Int) (s : ByteArray) : Tk :=
  if k = 1 then .li (if n = 1 then [116, 114, 117, 101] else [102, 97, 108, 115, 101]) else if k = 2 then .nu (txt n) else if k = 3 then .nu s.data.toList else if k = 4 ∨ k = 7 then .st s.data.toList else .li [110, 117, 108, 108]
mutual
def tkV (i : Option Nat) : VT → List Tk
  | .mk k n s L K V => if k = 5 then .sg 91 :: (tkL (upN i) L ++ ((if L.isEmpty = true then [] else lnT i) ++ [.sg 93])) else if k = 6 then .sg 123 :: (tkM (upN i) V K ++ ((if V.isEmpty = true then [] else lnT i) ++ [.sg 125])) else [tkS k n s]
def tkL (i : Option Nat) : List VT → List Tk
  | [] => []
  | t :: r => lnT i ++ (tkV i t ++ tkLc i r)
def tkLc (i : Option Nat) : List VT → List Tk
  | [] => []
  | t :: r => .sg 44 :: (lnT i ++ (tkV i t ++ tkLc i r))
def tkM (i : Option Nat) : List VT → List ByteArray → List Tk
  | [], _ => []
  | t :: r, K => lnT i ++ (.st (K.headD ⟨#[]⟩).data.toList :: (clnT i ++ (tkV i t ++ tkMc i r K.tail)))
def tkMc (i : Option Nat) : List VT → List ByteArray → List Tk
  | [], _ => []
  | t :: r, K => .sg 44 :: (lnT i ++ (.st (K.headD ⟨#[]⟩).data.toList :: (clnT i ++ (tkV i t ++ tkMc i r K.tail))))
end
/-- the shapes of tokens -/
def shT : List Tk → List (Nat × List UInt8)
  | [] => []
  | .bl _ :: r => shT r
  | .sg c :: r => (1, [c]) :: shT r
  | .st s :: r => (2, s) :: shT r
  | .nu s :: r => (3, s) :: shT r
  | .li s :: r => (4, s) :: shT r
theorem wdsN_sh : ∀ (ts : List Tk) (i : Nat), (wdsN i ts).map shp = shT ts
  | [], i => rfl
  | t :: r, i => by
    rw [wdsN, List.map_append, wdsN_sh r]
    cases t <;> rfl
theorem shT_app : ∀ (a b : List Tk), shT (a ++ b) = shT a ++ shT b
  | [], b => rfl
  | t :: r, b => by
    have ih := shT_app r b
    cases t <;> simp [shT, ih]
theorem shT_ln (i : Option Nat) : shT (lnT i) = [] := by cases i <;> rfl
theorem shT_cln (i : Option Nat) : shT (clnT i) = [(1, [58])] := by cases i <;> rfl
theorem shT_one (k n : Int) (s : ByteArray) : shT [tkS k n s] = [shS k n s] := by
  unfold tkS shS
  (repeat' split) <;> rfl
mutual
theorem sh_val (i : Option Nat) : ∀ v : VT, shT (tkV i v) = shV v
  | .mk k n s L K V => by
    rw [tkV, shV]
    split
    · rw [shT, shT_app, shT_app, sh_list (upN i) L]
      split
      · rfl
      · rw [shT_ln]; rfl
    · split
      · rw [shT, shT_app, shT_app, sh_map (upN i) V K]
        split
        · rfl
        · rw [shT_ln]; rfl
      · exact shT_one k n s
theorem sh_list (i : Option Nat) : ∀ L : List VT, shT (tkL i L) = shL L
  | [] => rfl
  | t :: r => by rw [tkL, shL, shT_app, shT_app, shT_ln, sh_val i t, sh_listc i r]; rfl
theorem sh_listc (i : Option Nat) : ∀ L : List VT, shT (tkLc i L) = shLc L
  | [] => rfl
  | t :: r => by rw [tkLc, shLc, shT, shT_app, shT_app, shT_ln, sh_val i t, sh_listc i r]; rfl
theorem sh_map (i : Option Nat) : ∀ (V : List VT) (K : List ByteArray), shT (tkM i V K) = shM V K
  | [], _ => rfl
  | t :: r, K => by rw [tkM, shM, shT_app, shT, shT_app, shT_app, shT_ln, shT_cln, sh_val i t, sh_mapc i r K.tail]; rfl
theorem sh_mapc (i : Option Nat) : ∀ (V : List VT) (K : List ByteArray), shT (tkMc i V K) = shMc V K
  | [], _ => rfl
  | t :: r, K => by rw [tkMc, shMc, shT, shT_app, shT, shT_app, shT_app, shT_ln, shT_cln, sh_val i t, sh_mapc i r K.tail]; rfl
end
/-- a text that may be -/
theorem te_vl {s : ByteArray} (h : teI s = 0) : Vl s.data.toList ∧ s.data.toList.length ≤ 4096 := by
  have h1 := te_ok s
  rw [h, decide_eq_true rfl] at h1
  unfold strOkB at h1
  rw [Bool.and_eq_true, decide_eq_true_eq, decide_eq_true_eq] at h1
  exact ⟨vl_rv.2 h1.2, by rw [size_list]; exact h1.1⟩
/-- what may stand behind a value -/
def EdR (R : List UInt8) : Prop := ∀ x, R.head? = some x → numC x = false ∧ lowC x = false
theorem edr_nil : EdR [] := fun x h => by simp at h
theorem edr_cons {a : UInt8} {R : List UInt8} (h : numC a = false ∧ lowC a = false) : EdR (a :: R) := fun x hx => by
  simp at hx; subst hx; exact h
theorem ln_ok (i : Option Nat) (R : List UInt8) : okR R (lnT i) := by
  cases i with
  | none => trivial
  | some k =>
    refine ⟨fun x hx => ?_, trivial⟩
    rcases List.mem_cons.1 hx with rfl | hx
    · decide
    · rw [List.eq_of_mem_replicate hx]; decide
theorem sg_ok {c : UInt8} {R : List UInt8} (h : sgnB c = true) : (Tk.sg c).ok R := h
theorem cln_ok (i : Option Nat) (R : List UInt8) : okR R (clnT i) := by
  cases i with
  | none => exact ⟨sg_ok (by decide), trivial⟩
  | some k => exact ⟨sg_ok (by decide), fun x hx => by rw [List.mem_singleton.1 hx]; decide, trivial⟩
theorem stamp_vl {s : ByteArray} (h : stampB s = true) : Vl s.data.toList ∧ s.data.toList.length ≤ 4096 := by
  unfold stampB at h
  rw [Bool.and_eq_true, Bool.and_eq_true, decide_eq_true_eq, decide_eq_true_eq, List.all_eq_true] at h
  obtain ⟨⟨-, h2⟩, h3⟩ := h
  refine ⟨vl_ascii (fun b hb => ?_), by rw [size_list]; omega⟩
  have := h3 b hb
  simp only [Bool.and_eq_true, decide_eq_true_eq] at this
  omega
theorem one_ok {k n : Int} {s : ByteArray} {L : List VT} {K : List ByteArray} {V : List VT} (hn : nodeB (.mk k n s L K V) = true) (hw : -9223372036854775808 ≤ n ∧ n < 9223372036854775808) (h5 : ¬ k = 5) (h6 : ¬ k = 6) {R : List UInt8} (hR : EdR R) : (tkS k n s).ok R := by
  unfold nodeB nodeC at hn
  simp only [VT.kd, VT.nm, VT.st, VT.ls, VT.ks, VT.vs] at hn
  unfold tkS
  by_cases h1 : k = 1
  · rw [if_pos h1]
    refine ⟨?_, fun x hx => (hR x hx).2⟩
    split <;> decide
  rw [if_neg h1]
  by_cases h2 : k = 2
  · rw [if_pos h2]
    exact ⟨(text_bare n hw).1, fun x hx => (hR x hx).1⟩
  rw [if_neg h2]
  by_cases h3 : k = 3
  · rw [if_pos h3]
    subst h3
    simp at hn
    exact ⟨hn.1.1.2.1, fun x hx => (hR x hx).1⟩
  rw [if_neg h3]
  by_cases h4 : k = 4
  · rw [if_pos (Or.inl h4)]
    subst h4
    simp at hn
    exact te_vl hn.1.1.2
  by_cases h7 : k = 7
  · rw [if_pos (Or.inr h7)]
    subst h7
    simp at hn
    exact stamp_vl hn.1.1.2
  rw [if_neg (by omega)]
  exact ⟨by decide, fun x hx => (hR x hx).2⟩
theorem txs_sg (c : UInt8) (r : List Tk) : txs (.sg c :: r) = c :: txs r := rfl
theorem edr_lc (i : Option Nat) (L : List VT) {R : List UInt8} (hR : EdR R) : EdR (txs (tkLc i L) ++ R) := by
  cases L with
  | nil => rw [tkLc]; exact hR
  | cons t r => rw [tkLc, txs_sg]; exact edr_cons (by decide)
theorem edr_mc (i : Option Nat) (V : List VT) (K : List ByteArray) {R : List UInt8} (hR : EdR R) : EdR (txs (tkMc i V K) ++ R) := by
  cases V with
  | nil => rw [tkMc]; exact hR
  | cons t r => rw [tkMc, txs_sg]; exact edr_cons (by decide)
theorem edr_end (i : Option Nat) (b : Bool) {c : UInt8} (hc : numC c = false ∧ lowC c = false) (R : List UInt8) : EdR (txs ((if b = true then [] else lnT i) ++ [Tk.sg c]) ++ R) := by
  cases b with
  | true => exact edr_cons hc
  | false =>
    cases i with
    | none => exact edr_cons hc
    | some k => exact edr_cons (by decide)
theorem end_ok (i : Option Nat) (b : Bool) {c : UInt8} (hc : sgnB c = true) (R : List UInt8) : okR R ((if b = true then [] else lnT i) ++ [Tk.sg c]) := by
  rw [okR_app]
  refine ⟨?_, hc, trivial⟩
  cases b with
  | true => trivial
  | false => exact ln_ok i _
theorem keys_te {K : List ByteArray} (h : keysB K = true) : ∀ c ∈ K, teI c = 0 := by
  intro c hc
  obtain ⟨i, hi⟩ := List.getElem?_of_mem hc
  have h1 := keys_at h i c hi
  rw [te_ok, decide_eq_true_eq] at h1
  exact h1
mutual
theorem val_ok (i : Option Nat) : ∀ v : VT, plainT v = true → wfT v → ∀ R, EdR R → okR R (tkV i v)
  | .mk k n s L K V, hp, hw, R, hR => by
    rw [plainT, Bool.and_eq_true, Bool.and_eq_true] at hp
    obtain ⟨⟨hn, hpL⟩, hpV⟩ := hp
    rw [wfT] at hw
    obtain ⟨hw1, hKV, hwL, hwV⟩ := hw
    rw [tkV]
    split
    · refine ⟨sg_ok (by decide), ?_⟩
      rw [okR_app]
      exact ⟨list_ok (upN i) L hpL hwL _ (edr_end i _ (by decide) R), end_ok i _ (by decide) R⟩
    · split
      · rename_i h6
        refine ⟨sg_ok (by decide), ?_⟩
        rw [okR_app]
        subst h6
        unfold nodeB nodeC at hn
        simp [VT.kd, VT.nm, VT.st, VT.ls, VT.ks] at hn
        exact ⟨map_ok (upN i) V K hpV hwV hKV (keys_te hn.2) _ (edr_end i _ (by decide) R), end_ok i _ (by decide) R⟩
      · exact ⟨one_ok hn hw1 (by assumption) (by assumption) (by simpa [txs] using hR), trivial⟩
theorem list_ok (i : Option Nat) : ∀ L : List VT, plainL L = true → wfL L → ∀ R, EdR R → okR R (tkL i L)
  | [], _, _, R, _ => by rw [tkL]; trivial
  | t :: r, hp, hw, R, hR => by
    rw [plainL, Bool.and_eq_true] at hp
    rw [wfL] at hw
    rw [tkL, okR_app, okR_app]
    exact ⟨ln_ok i _, val_ok i t hp.1 hw.1 _ (edr_lc i r hR), listc_ok i r hp.2 hw.2 R hR⟩
theorem listc_ok (i : Option Nat) : ∀ L : List VT, plainL L = true → wfL L → ∀ R, EdR R → okR R (tkLc i L)
  | [], _, _, R, _ => by rw [tkLc]; trivial
  | t :: r, hp, hw, R, hR => by
    rw [plainL, Bool.and_eq_true] at hp
    rw [wfL] at hw
    rw [tkLc]
    refine ⟨sg_ok (by decide), ?_⟩
    rw [okR_app, okR_app]
    exact ⟨ln_ok i _, val_ok i t hp.1 hw.1 _ (edr_lc i r hR), listc_ok i r hp.2 hw.2 R hR⟩
theorem map_ok (i : Option Nat) : ∀ (V : List VT) (K : List ByteArray), plainL V = true → wfL V → K.length = V.length → (∀ c ∈ K, teI c = 0) → ∀ R, EdR R → okR R (tkM i V K)
  | [], K, _, _, _, _, R, _ => by rw [tkM]; trivial
  | t :: r, [], _, _, hl, _, _, _ => by simp at hl
  | t :: r, c :: K, hp, hw, hl, hk, R, hR => by
    rw [plainL, Bool.and_eq_true] at hp
    rw [wfL] at hw
    rw [tkM, okR_app]
    refine ⟨ln_ok i _, te_vl (hk c (List.mem_cons_self ..)), ?_⟩
    rw [okR_app, okR_app]
    exact ⟨cln_ok i _, val_ok i t hp.1 hw.1 _ (edr_mc i r _ hR), mapc_ok i r K hp.2 hw.2 (by simpa using hl) (fun c hc => hk c (List.mem_cons_of_mem _ hc)) R hR⟩
theorem mapc_ok (i : Option Nat) : ∀ (V : List VT) (K : List ByteArray), plainL V = true → wfL V → K.length = V.length → (∀ c ∈ K, teI c = 0) → ∀ R, EdR R → okR R (tkMc i V K)
  | [], K, _, _, _, _, R, _ => by rw [tkMc]; trivial
  | t :: r, [], _, _, hl, _, _, _ => by simp at hl
  | t :: r, c :: K, hp, hw, hl, hk, R, hR => by
    rw [plainL, Bool.and_eq_true] at hp
    rw [wfL] at hw
    rw [tkMc]
    refine ⟨sg_ok (by decide), ?_⟩
    rw [okR_app]
    refine ⟨ln_ok i _, te_vl (hk c (List.mem_cons_self ..)), ?_⟩
    rw [okR_app, okR_app]
    exact ⟨cln_ok i _, val_ok i t hp.1 hw.1 _ (edr_mc i r _ hR), mapc_ok i r K hp.2 hw.2 (by simpa using hl) (fun c hc => hk c (List.mem_cons_of_mem _ hc)) R hR⟩
end
end Go.Proofs.YtkhjahpkbjafaaaGreatDoor
