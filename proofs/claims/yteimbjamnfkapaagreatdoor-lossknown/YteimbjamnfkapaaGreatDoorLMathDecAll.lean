/- The mathematics of numbers as texts. -/
import Derived.Test.YteimbjamnfkapaaGreatDoorLVBase
import Derived.Lib.Strings
import Derived.Lib.TrimByte
import Derived.Lib.ParseIntB
import Derived.Lib.ItoaNum
namespace Go.Proofs.YteimbjamnfkapaaGreatDoor
open Go.RowKit
def isD (b : UInt8) : Bool := decide (48 ≤ b.toNat) && decide (b.toNat ≤ 57)
theorem isD_bd {b : UInt8} (h : isD b = true) : 48 ≤ b.toNat ∧ b.toNat ≤ 57 := by
 unfold isD at h; simpa [Bool.and_eq_true] using h
def runN (l : List UInt8) : Nat := (l.takeWhile isD).length
theorem runN_le (l : List UInt8) : runN l ≤ l.length := (List.takeWhile_prefix isD).length_le
theorem runN_take (l : List UInt8) : l.take (runN l) = l.takeWhile isD := by
 have := List.takeWhile_prefix isD (l := l)
 exact (List.prefix_iff_eq_take.1 this).symm
theorem runN_drop (l : List UInt8) : l.drop (runN l) = l.dropWhile isD := by
 have h := List.takeWhile_append_dropWhile (p := isD) (l := l)
 have e := congrArg (List.drop (runN l)) h
 rw [← e]; exact List.drop_left
theorem runN_lt (l : List UInt8) : ∀ k,k < runN l → isD (l.getD k 0) = true := by
 induction l with
 | nil => intro k h; simp [runN] at h
 | cons b l ih =>
  intro k h
  unfold runN at h ih
  rw [List.takeWhile_cons] at h
  by_cases hb : isD b = true
  ·rw [if_pos hb,List.length_cons] at h
   rcases k with _ | k
   ·simpa using hb
   ·rw [List.getD_cons_succ]; exact ih k (by omega)
  ·rw [if_neg hb] at h; simp at h
theorem runN_at (l : List UInt8) (h : runN l < l.length) : isD (l.getD (runN l) 0) = false := by
 induction l with
 | nil => simp at h
 | cons b l ih =>
  unfold runN at h ih ⊢
  rw [List.takeWhile_cons] at h ⊢
  by_cases hb : isD b = true
  ·rw [if_pos hb,List.length_cons] at h ⊢
   rw [List.getD_cons_succ]; exact ih (by simpa using h)
  ·rw [if_neg hb]; simpa using hb
def pval (l : List UInt8) : Nat := l.foldl (fun v b => if isD b then 10 * v + (b.toNat - 48) else v) 0
theorem pval_snoc (l : List UInt8) (b : UInt8) : pval (l ++ [b]) = if isD b then 10 * pval l + (b.toNat - 48) else pval l := by simp [pval]
theorem pval_take (l : List UInt8) (k : Nat) (h : k < l.length) : pval (l.take (k + 1)) = if isD (l.getD k 0) then 10 * pval (l.take k) + ((l.getD k 0).toNat - 48) else pval (l.take k) := by
 have e : l.getD k 0 = l[k] := by simp [List.getD,h]
 rw [e,List.take_succ_eq_append_getElem h,pval_snoc]
theorem pval_mono (l : List UInt8) (k : Nat) : ∀ n,pval (l.take k) ≤ pval (l.take (k + n))
 | 0 => Nat.le_refl _
 | n + 1 => by
  have ih := pval_mono l k n
  by_cases h : k + n < l.length
  ·rw [← Nat.add_assoc,pval_take l (k + n) h]; split <;> omega
  ·rw [List.take_of_length_le (l := l) (i := k + (n + 1)) (by omega)]
   rwa [List.take_of_length_le (l := l) (i := k + n) (by omega)] at ih
theorem pval_le (l : List UInt8) (k : Nat) : pval (l.take k) ≤ pval l := by
 have := pval_mono l k l.length
 rwa [List.take_of_length_le (l := l) (i := k + l.length) (by omega)] at this
def pwOk (l : List UInt8) : Bool := decide (pval l ≤ 100000)
def pwV (l : List UInt8) : Int := if pwOk l then (if l.getD 0 0 = 45 then -(pval l : Int) else pval l) else 0
theorem pwV_bd (l : List UInt8) : -100000 ≤ pwV l ∧ pwV l ≤ 100000 := by
 unfold pwV
 by_cases h : pwOk l = true
 ·have : pval l ≤ 100000 := by simpa [pwOk] using h
  rw [if_pos h]; split <;> omega
 ·rw [if_neg h]; omega
def sgI (n : Bool) (d : List UInt8) : Int := if d = [] then 0 else if n then -1 else 1
def pNeg (l : List UInt8) : Bool := decide ((l.getD 0 0).toNat = 45)
def pU (l : List UInt8) : List UInt8 := if pNeg l then l.drop 1 else l
def pW (l : List UInt8) : List UInt8 := (pU l).takeWhile isD
def pR (l : List UInt8) : List UInt8 := (pU l).dropWhile isD
def pWok (l : List UInt8) : Bool := !decide (pW l = []) && !(decide (1 < (pW l).length) && decide (((pW l).getD 0 0).toNat = 48))
def pDot (l : List UInt8) : Bool := decide (((pR l).getD 0 0).toNat = 46)
def pF (l : List UInt8) : List UInt8 := if pDot l then ((pR l).drop 1).takeWhile isD else []
def pS (l : List UInt8) : List UInt8 := if pDot l then ((pR l).drop 1).dropWhile isD else pR l
def pFok (l : List UInt8) : Bool := !(pDot l && decide (pF l = []))
def pP (l : List UInt8) : List UInt8 := (pS l).drop 1
def pE (l : List UInt8) : Bool := decide (((pS l).getD 0 0).toNat = 101) || decide (((pS l).getD 0 0).toNat = 69)
def pSg (p : List UInt8) : Bool := decide ((p.getD 0 0).toNat = 43) || decide ((p.getD 0 0).toNat = 45)
def pD (p : List UInt8) : List UInt8 := if pSg p then p.drop 1 else p
def pEok (l : List UInt8) : Bool := decide (pS l = []) || (pE l && !decide (pD (pP l) = []) && decide (runN (pD (pP l)) = (pD (pP l)).length))
def pOk (l : List UInt8) : Bool := pWok l && pFok l && pEok l
def partsV (l : List UInt8) : Value :=
 if pOk l then .tuple #[.bool (pNeg l),.string (mkS (pW l)),.string (mkS (pF l)),.string (mkS (pP l)),.bool true]
 else .tuple #[.bool false,.string ⟨#[]⟩,.string ⟨#[]⟩,.string ⟨#[]⟩,.bool false]
def numB (l : List UInt8) : Bool := pOk l && pwOk (pP l) && decide (l.length ≤ 400)
def is0 (b : UInt8) : Bool := decide (b.toNat = 48)
def lz (l : List UInt8) : Nat := (l.takeWhile is0).length
def lst (l : List UInt8) : List UInt8 := l.dropWhile is0
def rst (l : List UInt8) : List UInt8 := (l.reverse.dropWhile is0).reverse
theorem lz_cons (b : UInt8) (l : List UInt8) (h : b.toNat = 48) : lz (b :: l) = lz l + 1 ∧ lst (b :: l) = lst l := by
 have : is0 b = true := by simp [is0,h]
 simp [lz,lst,this]
theorem lz_stop (b : UInt8) (l : List UInt8) (h : ¬ b.toNat = 48) : lz (b :: l) = 0 ∧ lst (b :: l) = b :: l := by
 have : is0 b = false := by simp [is0,h]
 simp [lz,lst,this]
def scD (l : List UInt8) : List UInt8 := rst (lst (pW l ++ pF l))
def scT (l : List UInt8) : Int := if scD l = [] then 0 else ((pW l).length : Int) - 1 + pwV (pP l) - lz (pW l ++ pF l)
def scN (l : List UInt8) : Bool := if scD l = [] then false else pNeg l
def wholeB (l : List UInt8) : Bool := numB l && (decide (scD l = []) || decide (((scD l).length : Int) - 1 ≤ scT l))
def natD (n : Nat) : List UInt8 := if n < 10 then [UInt8.ofNat (48 + n)] else natD (n / 10) ++ [UInt8.ofNat (48 + n % 10)]
def txt (n : Int) : List UInt8 := if n < 0 then 45 :: natD (-n).toNat else natD n.toNat
theorem pU_le (l : List UInt8) : (pU l).length ≤ l.length := by unfold pU; split <;> simp
theorem pWR (l : List UInt8) : pW l ++ pR l = pU l := List.takeWhile_append_dropWhile
theorem parts_len (l : List UInt8) : (pW l).length + (pF l).length + (pP l).length ≤ l.length := by
 have h1 := congrArg List.length (pWR l)
 have h2 := pU_le l
 rw [List.length_append] at h1
 unfold pP pS pF
 cases hd : pDot l with
 | false => simp; omega
 | true =>
  have h3 := congrArg List.length (List.takeWhile_append_dropWhile (p := isD) (l := (pR l).drop 1))
  rw [List.length_append,List.length_drop] at h3
  simp at h3 ⊢; omega
def ltB (d e : List UInt8) : Bool := Op.bytesLess d e
def lessB (d : List UInt8) (n : Int) (e : List UInt8) (m : Int) : Bool := decide (n < m) || (decide (n = m) && ltB d e)
def tcmp (p : Bool) (d : List UInt8) (n : Int) (q : Bool) (e : List UInt8) (m : Int) : Int :=
 if d = e ∧ p = q ∧ n = m then 0
 else if sgI p d = sgI q e then (if lessB d n e m = decide (0 < sgI p d) then -1 else 1)
 else if sgI p d < sgI q e then -1 else 1
def cmpI (a b : List UInt8) : Int :=
 if numB a && numB b then tcmp (scN a) (scD a) (scT a) (scN b) (scD b) (scT b)
 else if numB a = numB b then 0 else if numB b then -1 else 1
def canA (l : List UInt8) : List UInt8 := (scD l).take 1 ++ (if 1 < (scD l).length then 46 :: (scD l).drop 1 else [])
def canB (l : List UInt8) : List UInt8 := if scN l then 45 :: canA l else canA l
def canC (l : List UInt8) : List UInt8 := if scT l = 0 then canB l else canB l ++ (101 :: txt (scT l))
def canV (l : List UInt8) : List UInt8 := if numB l then (if scD l = [] then [48] else canC l) else []
def intB (l : List UInt8) : Bool := numB l && !decide (l = [45,48]) && decide (pF l = []) && decide (pP l = []) && (if pNeg l then decide (pval (pW l) ≤ 9223372036854775808) else decide (pval (pW l) < 9223372036854775808))
def intV (l : List UInt8) : Int := if intB l then (if pNeg l then -(pval (pW l) : Int) else (pval (pW l) : Int)) else 0
theorem ltB_nil (d : List UInt8) : ltB d [] = false := by cases d <;> rfl
theorem ltB_irr : ∀ d : List UInt8,ltB d d = false
 | [] => rfl
 | a :: d => by
  have := ltB_irr d
  unfold ltB at this ⊢
  simp [Op.bytesLess,this]
theorem ltB_cons (a b : UInt8) (d e : List UInt8) : ltB (a :: d) (b :: e) = (decide (a < b) || (a == b && ltB d e)) := rfl
theorem ltB_trans : ∀ d e f : List UInt8,ltB d e = true → ltB e f = true → ltB d f = true
 | _,[],_,h,_ => by rw [ltB_nil] at h; cases h
 | _,_ :: _,[],_,h => by rw [ltB_nil] at h; cases h
 | [],_ :: _,_ :: _,_,_ => rfl
 | a :: d,b :: e,c :: f,h,g => by
  rw [ltB_cons] at h g ⊢
  simp only [Bool.or_eq_true,decide_eq_true_eq,Bool.and_eq_true,beq_iff_eq] at h g ⊢
  rcases h with h | ⟨rfl,h⟩
  ·rcases g with g | ⟨rfl,g⟩
   ·left; have h1 : a.toNat < b.toNat := h; have h2 : b.toNat < c.toNat := g; show a.toNat < c.toNat; omega
   ·left; exact h
  ·rcases g with g | ⟨rfl,g⟩
   ·left; exact g
   ·right; exact ⟨rfl,ltB_trans d e f h g⟩
def Tri (p : Bool) (d : List UInt8) (n : Int) : Prop := d = [] → p = false ∧ n = 0
theorem natD_lo (n : Nat) (h : n < 10) : natD n = [UInt8.ofNat (48 + n)] := by rw [natD,if_pos h]
theorem natD_hi (n : Nat) (h : ¬ n < 10) : natD n = natD (n / 10) ++ [UInt8.ofNat (48 + n % 10)] := by rw [natD,if_neg h]
theorem isD_of_all {l : List UInt8} (h : l.all isD = true) {b : UInt8} (hb : b ∈ l) : isD b = true := List.all_eq_true.1 h b hb
theorem tw_all (x : List UInt8) : (x.takeWhile isD).all isD = true := List.all_takeWhile
theorem lst_first (l : List UInt8) : lst l = [] ∨ ∃ a t,lst l = a :: t ∧ ¬ a.toNat = 48 := by
 induction l with
 | nil => exact Or.inl rfl
 | cons b l ih =>
  by_cases h : b.toNat = 48
  ·rw [(lz_cons b l h).2]; exact ih
  ·rw [(lz_stop b l h).2]; exact Or.inr ⟨b,l,rfl,h⟩
theorem rst_cons (a : UInt8) (t : List UInt8) (h : ¬ a.toNat = 48) : rst (a :: t) = a :: rst t := by
 have h0 : is0 a = false := by simp [is0,h]
 have e : ∀ x : List UInt8,(x ++ [a]).dropWhile is0 = x.dropWhile is0 ++ [a] := by
  intro x
  induction x with
  | nil => simp [h0]
  | cons b x ih =>
   by_cases hb : is0 b = true
   ·rw [List.cons_append,List.dropWhile_cons,if_pos hb,List.dropWhile_cons,if_pos hb]; exact ih
   ·rw [List.cons_append,List.dropWhile_cons,if_neg hb,List.dropWhile_cons,if_neg hb]; rfl
 unfold rst; rw [List.reverse_cons,e]; simp
def dotD (d : List UInt8) : List UInt8 := d.take 1 ++ (if 1 < d.length then 46 :: d.drop 1 else [])
theorem num_ne (l : List UInt8) (h : numB l = true) : ¬ l = [] := by
 intro e; rw [e] at h; exact absurd h (by decide)
theorem tw_app (W R : List UInt8) (hW : W.all isD = true) (hR : R = [] ∨ isD (R.getD 0 0) = false) : (W ++ R).takeWhile isD = W ∧ (W ++ R).dropWhile isD = R := by
 induction W with
 | nil =>
  rcases R with _ | ⟨r,R⟩
  ·exact ⟨rfl,rfl⟩
  ·have : isD r = false := by rcases hR with h | h; cases h; simpa using h
   simp [this]
 | cons a W ih =>
  simp only [List.all_cons,Bool.and_eq_true] at hW
  have := ih hW.2
  simp [hW.1,this.1,this.2]
theorem run_all (x : List UInt8) (h : x.all isD = true) : runN x = x.length := by
 have := (tw_app x [] h (Or.inl rfl)).1
 rw [List.append_nil] at this
 unfold runN; rw [this]
def Tail (E : List UInt8) : Prop := E = [] ∨ ∃ c P,E = c :: P ∧ (c.toNat = 101 ∨ c.toNat = 69) ∧ ¬ pD P = [] ∧ runN (pD P) = (pD P).length
def mag (n : Int) : Nat := n.natAbs
theorem txt_form (n : Int) : txt n = (if decide (n < 0) then [45] else []) ++ natD (mag n) := by
 unfold txt mag
 by_cases h : n < 0
 ·rw [if_pos h]; simp only [h,decide_true,if_true]; rw [show (-n).toNat = n.natAbs by omega]; rfl
 ·rw [if_neg h]; simp only [h,decide_false]; rw [show n.toNat = n.natAbs by omega]; rfl
theorem natD_short : ∀ (k n : Nat),n < 10 ^ (k + 1) → (natD n).length ≤ k + 1
 | 0,n,h => by rw [natD_lo n (by omega)]; simp
 | k + 1,n,h => by
  by_cases hn : n < 10
  ·rw [natD_lo n hn]; simp
  ·rw [natD_hi n hn,List.length_append]
   have := natD_short k (n / 10) (by rw [Nat.pow_succ] at h; omega)
   simp; omega
theorem mag_short (n : Int) (h : -9223372036854775808 ≤ n ∧ n < 9223372036854775808) : (natD (mag n)).length ≤ 19 := natD_short 18 _ (by unfold mag; omega)
theorem txt_short (n : Int) (h : -9223372036854775808 ≤ n ∧ n < 9223372036854775808) : (txt n).length ≤ 20 := by
 have := mag_short n h; rw [txt_form,List.length_append]; split <;> simp <;> omega
theorem pval_from (l : List UInt8) (h : l.all isD = true) : ∀ v : Nat,l.foldl (fun v b => if isD b then 10 * v + (b.toNat - 48) else v) v = v * 10 ^ l.length + pval l := by
 induction l with
 | nil => intro v; simp [pval]
 | cons a l ih =>
  intro v
  simp only [List.all_cons,Bool.and_eq_true] at h
  have e1 := ih h.2 (10 * v + (a.toNat - 48))
  have e2 : pval (a :: l) = (10 * 0 + (a.toNat - 48)) * 10 ^ l.length + pval l := by
   conv => lhs; unfold pval; rw [List.foldl_cons,if_pos h.1]
   exact ih h.2 _
  rw [List.foldl_cons,if_pos h.1,e1,e2,List.length_cons,Nat.pow_succ]
  have g1 : (10 * v + (a.toNat - 48)) * 10 ^ l.length = 10 * (v * 10 ^ l.length) + (a.toNat - 48) * 10 ^ l.length := by rw [Nat.add_mul,Nat.mul_assoc]
  have g2 : v * (10 ^ l.length * 10) = 10 * (v * 10 ^ l.length) := by rw [← Nat.mul_assoc,Nat.mul_comm]
  have g3 : (10 * 0 + (a.toNat - 48)) * 10 ^ l.length = (a.toNat - 48) * 10 ^ l.length := by rw [Nat.mul_zero,Nat.zero_add]
  rw [g1,g2,g3]; omega
theorem pval_cons (a : UInt8) (l : List UInt8) (h : (a :: l).all isD = true) : pval (a :: l) = (a.toNat - 48) * 10 ^ l.length + pval l := by
 simp only [List.all_cons,Bool.and_eq_true] at h
 have := pval_from l h.2 (10 * 0 + (a.toNat - 48))
 unfold pval at this ⊢
 rw [List.foldl_cons,if_pos h.1,this,show 10 * 0 + (a.toNat - 48) = a.toNat - 48 by omega]
def ordI (a b : Int) : Int := if a < b then -1 else if a > b then 1 else 0
theorem hp_one (l : List UInt8) (c : UInt8) (hc : ¬ c.toNat = 0) : Lib.hasPrefix l [c] = decide ((l.getD 0 0).toNat = c.toNat) := by
 unfold Lib.hasPrefix
 cases l with
 | nil =>
  have : ¬ (0 : Nat) = c.toNat := fun h => hc h.symm
  simp [List.isPrefixOf,this]
 | cons b l =>
  by_cases h : c = b
  ·subst h; simp [List.isPrefixOf]
  ·have : ¬ b.toNat = c.toNat := fun e => h (UInt8.toNat_inj.1 e.symm)
   simp [List.isPrefixOf,h,this]
theorem tp_one (l : List UInt8) (c : UInt8) (hc : ¬ c.toNat = 0) : Lib.trimPrefix l [c] = if decide ((l.getD 0 0).toNat = c.toNat) then l.drop 1 else l := by
 unfold Lib.trimPrefix; rw [hp_one l c hc]; rfl
theorem cut_neg (l : List UInt8) : Lib.hasPrefix l [45] = pNeg l ∧ Lib.trimPrefix l [45] = pU l := ⟨hp_one l 45 (by decide),tp_one l 45 (by decide)⟩
theorem cut_dot (l : List UInt8) : Lib.hasPrefix (pR l) [46] = pDot l ∧ Lib.trimPrefix (pR l) [46] = if pDot l then (pR l).drop 1 else pR l := ⟨hp_one _ 46 (by decide),tp_one _ 46 (by decide)⟩
theorem cut_sign (p : List UInt8) : (Lib.hasPrefix p [45] = true → Lib.trimPrefix p [45] = pD p) ∧ (Lib.hasPrefix p [45] = false → Lib.trimPrefix (Lib.trimPrefix p [45]) [43] = pD p) := by
 rw [hp_one p 45 (by decide),tp_one p 45 (by decide)]
 have e45 : (45 : UInt8).toNat = 45 := rfl
 have e43 : (43 : UInt8).toNat = 43 := rfl
 rw [e45]
 unfold pD pSg
 constructor
 ·intro h
  rw [if_pos h]
  have : (p.getD 0 0).toNat = 45 := of_decide_eq_true h
  rw [this]; rfl
 ·intro h
  rw [if_neg (by rw [h]; decide),tp_one p 43 (by decide),e43]
  rw [h,Bool.or_false]
def rpE (t : List UInt8) : Bool := decide ((t.getD 0 0).toNat = 101) || decide ((t.getD 0 0).toNat = 69)
def rpB (t : List UInt8) : Bool := decide (t = []) || (rpE t && !decide (pD (t.drop 1) = []) && decide (runN (pD (t.drop 1)) = (pD (t.drop 1)).length) && pwOk (t.drop 1))
def rpV (t : List UInt8) : Int := if rpB t then pwV (t.drop 1) else 0
theorem rpV_bd (t : List UInt8) : -100000 ≤ rpV t ∧ rpV t ≤ 100000 := by
 unfold rpV; split
 ·exact pwV_bd _
 ·omega
theorem rp_of (l : List UInt8) : rpB (pS l) = (pEok l && pwOk (pP l)) := by
 unfold rpB pEok
 by_cases h : pS l = []
 ·have : pP l = [] := by unfold pP; rw [h]; rfl
  rw [decide_eq_true h,Bool.true_or,Bool.true_or,this]; rfl
 ·rw [decide_eq_false h,Bool.false_or,Bool.false_or]; rfl
theorem num_split (l : List UInt8) : numB l = (decide (l.length ≤ 400) && pWok l && pFok l && rpB (pS l)) := by
 rw [rp_of]; unfold numB pOk
 cases decide (l.length ≤ 400) <;> cases pWok l <;> cases pFok l <;> cases pEok l <;> cases pwOk (pP l) <;> rfl
theorem pval_sign (p : List UInt8) : pval (pD p) = pval p := by
 unfold pD
 by_cases h : pSg p = true
 ·rw [if_pos h]
  cases p with
  | nil => rfl
  | cons b p =>
   have hb : isD b = false := by
    unfold pSg at h; simp only [List.getD_cons_zero,Bool.or_eq_true,decide_eq_true_eq] at h
    unfold isD; rcases h with h | h <;> rw [h] <;> rfl
   show pval p = pval (b :: p)
   unfold pval; rw [List.foldl_cons,hb]; rfl
 ·rw [if_neg h]
theorem rp_no (t : List UInt8) (h0 : ¬ t = []) (h : rpE t = false ∨ pD (t.drop 1) = [] ∨ ¬ runN (pD (t.drop 1)) = (pD (t.drop 1)).length ∨ ¬ pval (pD (t.drop 1)) ≤ 100000) : rpB t = false ∧ rpV t = 0 := by
 have e : rpB t = false := by
  unfold rpB; rw [decide_eq_false h0,Bool.false_or]
  rcases h with h | h | h | h
  ·rw [h]; rfl
  ·rw [h]; simp
  ·rw [decide_eq_false h]; simp
  ·rw [pval_sign] at h; have : pwOk (t.drop 1) = false := by unfold pwOk; exact decide_eq_false h
   rw [this]; simp
 exact ⟨e,by unfold rpV; rw [e]; rfl⟩
theorem rp_yes (t : List UInt8) (h1 : rpE t = true) (h2 : ¬ pD (t.drop 1) = []) (h3 : runN (pD (t.drop 1)) = (pD (t.drop 1)).length) (h4 : pval (pD (t.drop 1)) ≤ 100000) :
  rpB t = true ∧ rpV t = if Lib.hasPrefix (t.drop 1) [45] then -(pval (pD (t.drop 1)) : Int) else pval (pD (t.drop 1)) := by
 have ok : pwOk (t.drop 1) = true := by unfold pwOk; rw [pval_sign] at h4; exact decide_eq_true h4
 have e : rpB t = true := by
  unfold rpB; rw [h1,decide_eq_false h2,decide_eq_true h3,ok]; simp
 refine ⟨e,?_⟩
 unfold rpV; rw [if_pos e]; unfold pwV; rw [if_pos ok,hp_one _ 45 (by decide),pval_sign]
 have e45 : (45 : UInt8).toNat = 45 := rfl
 rw [e45]
 by_cases hb : (t.drop 1).getD 0 0 = 45
 ·rw [if_pos hb,hb]; rfl
 ·have : ¬ ((t.drop 1).getD 0 0).toNat = 45 := fun e => hb (UInt8.toNat_inj.1 (by rw [e]; rfl))
  rw [if_neg hb,decide_eq_false this]; rfl
theorem rp_nil : rpB [] = true ∧ rpV [] = 0 := by decide
theorem is0_eq : is0 = (· == (48 : UInt8)) := by
 funext b
 unfold is0
 by_cases h : b = 48
 ·subst h; rfl
 ·have : ¬ b.toNat = 48 := fun e => h (UInt8.toNat_inj.1 (by rw [e]; rfl))
  rw [decide_eq_false this]; exact (beq_eq_false_iff_ne.2 h).symm
theorem trim_l (l : List UInt8) : Lib.trimLeftB l 48 = lst l := by unfold Lib.trimLeftB lst; rw [is0_eq]
theorem trim_r (l : List UInt8) : Lib.trimRightB l 48 = rst l := by unfold Lib.trimRightB rst; rw [is0_eq]
theorem lz_len (l : List UInt8) : (lst l).length + lz l = l.length := by
 have := congrArg List.length (List.takeWhile_append_dropWhile (p := is0) (l := l))
 rw [List.length_append] at this; unfold lst lz; omega
theorem rst_lst (x : List UInt8) : rst (lst x) = [] ↔ lst x = [] := by
 rcases lst_first x with h | ⟨a,t,h,h0⟩
 ·rw [h]; exact ⟨fun _ => rfl,fun _ => rfl⟩
 ·rw [h,rst_cons a t h0]; exact ⟨fun e => (by cases e),fun e => (by cases e)⟩
def nmvD (l : List UInt8) : Value := .agg #[.int .i64 (sgI (scN l) (scD l)),.string (mkS (scD l)),.int .i64 (scT l)]
def noV : Value := .agg #[.int .i64 0,.string ⟨#[]⟩,.int .i64 0]
def rdS (l : List UInt8) : Int := if numB l then sgI (scN l) (scD l) else 0
def rdD (l : List UInt8) : List UInt8 := if numB l then scD l else []
def rdT (l : List UInt8) : Int := if numB l then scT l else 0
theorem sc_zero (l : List UInt8) (h : lst (pW l ++ pF l) = []) : scD l = [] ∧ scT l = 0 ∧ sgI (scN l) (scD l) = 0 := by
 have e : scD l = [] := (rst_lst _).2 h
 exact ⟨e,by unfold scT; rw [if_pos e],by unfold sgI; rw [if_pos e]⟩
theorem sc_some (l : List UInt8) (h : ¬ lst (pW l ++ pF l) = []) : scD l = rst (lst (pW l ++ pF l)) ∧ scT l = ((pW l).length : Int) - 1 + pwV (pP l) - lz (pW l ++ pF l) ∧ sgI (scN l) (scD l) = if pNeg l then -1 else 1 := by
 have e : ¬ scD l = [] := fun k => h ((rst_lst _).1 k)
 exact ⟨rfl,by unfold scT; rw [if_neg e],by unfold sgI scN; rw [if_neg e,if_neg e]⟩
theorem dec_nat (u : Nat) : Lib.decDigits u = natD u := by
 induction u using Nat.strongRecOn with
 | _ u ih =>
  rw [Lib.decDigits,natD]
  by_cases h : u < 10
  ·rw [dif_pos h,if_pos h]
  ·rw [dif_neg h,if_neg h,ih (u / 10) (by omega)]
theorem itoa_txt (n : Int) : Lib.itoa n = txt n := by
 unfold Lib.itoa txt
 by_cases h : n < 0
 ·rw [if_pos h,if_pos h,dec_nat,show n.natAbs = (-n).toNat by omega]
 ·rw [if_neg h,if_neg h,dec_nat]
theorem pum (D R : List UInt8) (hD : D.all isD = true) : ∀ acc : Nat,Lib.parseUintM 18446744073709551615 acc (D ++ R) = if acc * 10 ^ D.length + pval D ≤ 18446744073709551615 ∨ D = [] then Lib.parseUintM 18446744073709551615 (acc * 10 ^ D.length + pval D) R else .range := by
 induction D with
 | nil => intro acc; rw [if_pos (Or.inr rfl)]; simp [pval]
 | cons a D ih =>
  intro acc
  have hD' : D.all isD = true := by rw [List.all_cons,Bool.and_eq_true] at hD; exact hD.2
  have ha : isD a = true := by rw [List.all_cons,Bool.and_eq_true] at hD; exact hD.1
  have hb := isD_bd ha
  have hc := pval_cons a D hD
  have hk : 1 ≤ 10 ^ D.length := Nat.one_le_pow _ _ (by decide)
  have e : acc * 10 ^ (a :: D).length + pval (a :: D) = (acc * 10 + (a.toNat - 48)) * 10 ^ D.length + pval D := by
   rw [hc,List.length_cons,Nat.pow_succ,Nat.add_mul,Nat.mul_assoc acc 10,Nat.mul_comm 10]; omega
  rw [e,List.cons_append,Lib.parseUintM,if_pos hb]
  have hge : acc * 10 + (a.toNat - 48) ≤ (acc * 10 + (a.toNat - 48)) * 10 ^ D.length := Nat.le_mul_of_pos_right _ hk
  by_cases h1 : 1844674407370955162 ≤ acc
  ·rw [if_pos h1,if_neg (by intro h; rcases h with h | h; omega; cases h)]
  ·rw [if_neg h1]
   by_cases h2 : 18446744073709551615 < acc * 10 + (a.toNat - 48)
   ·rw [if_pos h2,if_neg (by intro h; rcases h with h | h; omega; cases h)]
   ·rw [if_neg h2,ih hD']
    by_cases h3 : (acc * 10 + (a.toNat - 48)) * 10 ^ D.length + pval D ≤ 18446744073709551615
    ·rw [if_pos (Or.inl h3),if_pos (Or.inl h3)]
    ·by_cases h4 : D = []
     ·subst h4
      exfalso; apply h3
      simp [pval]; omega
     ·rw [if_neg (by intro h; exact h.elim h3 h4),if_neg (by intro h; rcases h with h | h; exact h3 h; cases h)]
theorem pub (D R : List UInt8) (hD : D.all isD = true) (h0 : ¬ D = []) : Lib.parseUintB 64 (D ++ R) = if pval D ≤ 18446744073709551615 then Lib.parseUintM 18446744073709551615 (pval D) R else .range := by
 unfold Lib.parseUintB
 rw [if_neg (by intro h; exact h0 (List.append_eq_nil_iff.1 h).1),show 2 ^ 64 - 1 = 18446744073709551615 by decide,pum D R hD 0]
 simp [h0]
theorem pum_no (R : List UInt8) (h0 : ¬ R = []) (hR : isD (R.getD 0 0) = false) (acc u : Nat) : ¬ Lib.parseUintM 18446744073709551615 acc R = .ok u := by
 cases R with
 | nil => exact absurd rfl h0
 | cons c R =>
  have : ¬ (48 ≤ c.toNat ∧ c.toNat ≤ 57) := by
   intro h; have e : isD c = true := by unfold isD; rw [decide_eq_true h.1,decide_eq_true h.2]; rfl
   rw [List.getD_cons_zero,e] at hR; cases hR
  rw [Lib.parseUintM,if_neg this]; intro e; cases e
theorem pib (l : List UInt8) (hW : ¬ pW l = []) :
  (∀ u,Lib.parseUintB 64 (pW l ++ pR l) = .ok u → Lib.parseIntB 64 l = if ¬ pNeg l = true ∧ 9223372036854775808 ≤ u then .range else if pNeg l = true ∧ 9223372036854775808 < u then .range else .ok (if pNeg l = true then -(u : Int) else u)) ∧
  ((∀ u,¬ Lib.parseUintB 64 (pW l ++ pR l) = .ok u) → ∀ v,¬ Lib.parseIntB 64 l = .ok v) := by
 rw [pWR]
 cases l with
 | nil => exact absurd rfl hW
 | cons c r =>
  unfold Lib.parseIntB
  have hp : pNeg (c :: r) = decide (c.toNat = 45) := rfl
  have h63 : 2 ^ (64 - 1) = 9223372036854775808 := by decide
  simp only [h63]
  by_cases h : c.toNat = 45
  ·have e : pU (c :: r) = r := by unfold pU; rw [hp,decide_eq_true h]; rfl
   rw [if_pos (Or.inr h),e,hp,decide_eq_true h]
   refine ⟨fun u hu => ?_,fun hu v => ?_⟩
   ·rw [hu]; simp [h]
   ·rcases hq : Lib.parseUintB 64 r with a | _ | _
    ·exact absurd hq (hu a)
    ·simp
    ·simp
  ·have e : pU (c :: r) = c :: r := by unfold pU; rw [hp,decide_eq_false h]; rfl
   have h43 : ¬ c.toNat = 43 := by
    intro h2; apply hW
    unfold pW; rw [e]
    have : isD c = false := by unfold isD; rw [h2]; rfl
    rw [List.takeWhile_cons,this]; rfl
   rw [if_neg (by intro k; exact k.elim h43 h),e,hp,decide_eq_false h]
   refine ⟨fun u hu => ?_,fun hu v => ?_⟩
   ·rw [hu]; simp [h]
   ·rcases hq : Lib.parseUintB 64 (c :: r) with a | _ | _
    ·exact absurd hq (hu a)
    ·simp
    ·simp
theorem int_parts (l : List UInt8) (hn : numB l = true) : ¬ pW l = [] ∧ ((pF l = [] ∧ pP l = []) ↔ pR l = []) := by
 have hs := num_split l
 rw [hn] at hs
 have h1 : pWok l = true := by cases h : pWok l with
  | true => rfl
  | false => rw [h] at hs; simp at hs
 have h2 : pFok l = true := by cases h : pFok l with
  | true => rfl
  | false => rw [h] at hs; simp at hs
 have h3 : pEok l = true := by
  have h : rpB (pS l) = true := by cases h : rpB (pS l) with
   | true => rfl
   | false => rw [h] at hs; simp at hs
  rw [rp_of,Bool.and_eq_true] at h; exact h.1
 refine ⟨?_,?_,?_⟩
 ·intro h; unfold pWok at h1; rw [h] at h1; simp at h1
 ·rintro ⟨hF,hP⟩
  have hd : pDot l = false := by
   cases h : pDot l with
   | false => rfl
   | true => unfold pFok at h2; rw [h,hF] at h2; simp at h2
  have hS : pS l = pR l := by unfold pS; rw [hd]; rfl
  rw [← hS]
  unfold pEok at h3
  rw [hP] at h3
  apply Classical.byContradiction; intro h
  rw [decide_eq_false h] at h3
  simp [pD,pSg] at h3
 ·intro h
  have hd : pDot l = false := by unfold pDot; rw [h]; rfl
  refine ⟨by unfold pF; rw [hd]; rfl,?_⟩
  unfold pP pS; rw [hd]; simp [h]
theorem int_par (l : List UInt8) (hn : numB l = true) (h0 : ¬ l = [45,48]) :
  (intB l = true → Lib.parseIntB 64 l = .ok (intV l)) ∧ (intB l = false → ∀ v,¬ Lib.parseIntB 64 l = .ok v) := by
 obtain ⟨hW,hR⟩ := int_parts l hn
 obtain ⟨P1,P2⟩ := pib l hW
 rw [pub (pW l) (pR l) (tw_all _) hW] at P1 P2
 have hib : intB l = (decide (pR l = []) && (if pNeg l then decide (pval (pW l) ≤ 9223372036854775808) else decide (pval (pW l) < 9223372036854775808))) := by
  unfold intB; rw [hn,decide_eq_false h0]
  by_cases h : pR l = []
  ·obtain ⟨a,b⟩ := hR.2 h
   rw [decide_eq_true a,decide_eq_true b,decide_eq_true h]; rfl
  ·rw [decide_eq_false h,Bool.false_and]
   by_cases a : pF l = []
   ·have b : ¬ pP l = [] := fun b => h (hR.1 ⟨a,b⟩)
    rw [decide_eq_false b]; simp
   ·rw [decide_eq_false a]; simp
 by_cases h : pR l = []
 ·rw [hib,h,decide_eq_true rfl,Bool.true_and]
  unfold intV
  rw [hib,h,decide_eq_true rfl,Bool.true_and]
  by_cases hu : pval (pW l) ≤ 18446744073709551615
  ·have P3 := P1 (pval (pW l)) (by rw [if_pos hu,h,Lib.parseUintM])
   rw [P3]
   cases hp : pNeg l
   ·simp only [Bool.false_eq_true,if_false,not_false_eq_true,true_and,false_and]
    constructor
    ·intro g
     have g' := of_decide_eq_true g
     rw [if_neg (by omega),g]; rfl
    ·intro g v
     have g' := of_decide_eq_false g
     rw [if_pos (by omega)]; intro e; cases e
   ·simp only [not_true_eq_false,if_true,true_and,false_and]
    constructor
    ·intro g
     have g' := of_decide_eq_true g
     rw [if_neg (by simp),if_neg (by omega),g]; rfl
    ·intro g v
     have g' := of_decide_eq_false g
     rw [if_neg (by simp),if_pos (by omega)]; intro e; cases e
  ·constructor
   ·intro g
    exfalso
    cases hp : pNeg l
    ·rw [hp] at g; have := of_decide_eq_true g; omega
    ·rw [hp] at g; have := of_decide_eq_true g; omega
   ·intro _ v
    exact P2 (fun u => by rw [if_neg hu]; intro e; cases e) v
 ·rw [hib,decide_eq_false h,Bool.false_and]
  refine ⟨fun g => (by cases g),fun _ => P2 fun u => ?_⟩
  have hd : isD ((pR l).getD 0 0) = false := by
   have : pR l = (pU l).drop (runN (pU l)) := (runN_drop _).symm
   have hlt : runN (pU l) < (pU l).length := by
    apply Classical.byContradiction; intro k; apply h; rw [this]; exact List.drop_eq_nil_of_le (by omega)
   have g := runN_at (pU l) hlt
   rw [this]
   simpa [List.getD,List.getElem?_drop] using g
  by_cases hu : pval (pW l) ≤ 18446744073709551615
  ·rw [if_pos hu]; exact pum_no (pR l) h hd _ u
  ·rw [if_neg hu]; intro e; cases e
end Go.Proofs.YteimbjamnfkapaaGreatDoor
