/- Plain mathematics: pairs in any order as a text, read as a map; a key twice. -/
import Derived.Test.YtkhjahpkbjafaaaGreatDoorPMathCutV
namespace Go.Proofs.YtkhjahpkbjafaaaGreatDoor
open Go.RowKit

/-- a pair as it is written: its key, its value's tokens; and what that value is, of so many nodes -/
structure Qp where
  k : List UInt8
  v : List Tk
  t : VT
  n : Nat
def prT : List Qp → List Tk
  | [] => []
  | q :: r => .st q.k :: .sg 58 :: (q.v ++ (match r with | [] => [] | q2 :: r2 => .sg 44 :: prT (q2 :: r2)))
theorem prT_one (q : Qp) : prT [q] = .st q.k :: .sg 58 :: q.v := by rw [prT]; simp
theorem prT_more (q q2 : Qp) (r : List Qp) : prT (q :: q2 :: r) = .st q.k :: .sg 58 :: (q.v ++ .sg 44 :: prT (q2 :: r)) := by rw [prT]
/-- each is read, so deep; each may stand, whatever stands behind it -/
def QOk (d : Nat) (q : Qp) : Prop := (∀ a, Rds (d + 1) (wdsN a q.v) q.t q.n) ∧ (∀ R, EdR R → okR R q.v) ∧ Vl q.k ∧ q.k.length ≤ 4096
def prP (ps : List Qp) : List (ByteArray × VT) := ps.map fun q => (mkS q.k, q.t)
def prN : List Qp → Nat
  | [] => 0
  | q :: r => q.n + prN r
theorem prT_rdm (d : Nat) : ∀ (r : List Qp) (q : Qp) (a : Nat), (∀ x ∈ q :: r, QOk d x) → RdM d (wdsN a (prT (q :: r))) (prP (q :: r)) (prN (q :: r))
  | [], q, a, h => by
    have h0 := (h q (List.mem_cons_self ..)).1
    rw [prT_one, wdsN, wdsN]
    exact RdM.one (xk := ⟨2, q.k, a⟩) (xc := ⟨1, [58], _⟩) rfl rfl (h0 _)
  | q2 :: r, q, a, h => by
    have h0 := (h q (List.mem_cons_self ..)).1
    have ih := prT_rdm d r q2
    rw [prT_more, wdsN, wdsN, wdsN_app, wdsN]
    exact RdM.more (xk := ⟨2, q.k, a⟩) (xc := ⟨1, [58], _⟩) (xm := ⟨1, [44], _⟩) rfl rfl (h0 _) rfl (ih _ (fun x hx => h x (List.mem_cons_of_mem _ hx)))
theorem prT_okR (d : Nat) (R : List UInt8) (hR : EdR R) : ∀ (ps : List Qp), (∀ x ∈ ps, QOk d x) → okR R (prT ps)
  | [], _ => by rw [prT]; trivial
  | [q], h => by
    obtain ⟨-, h2, h3⟩ := h q (List.mem_cons_self ..)
    rw [prT_one]
    exact ⟨h3, sg_ok (by decide), h2 R hR⟩
  | q :: q2 :: r, h => by
    obtain ⟨-, h2, h3⟩ := h q (List.mem_cons_self ..)
    rw [prT_more]
    refine ⟨h3, sg_ok (by decide), ?_⟩
    rw [okR_app]
    exact ⟨h2 _ (edr_cons (by decide)), sg_ok (by decide), prT_okR d R hR (q2 :: r) (fun x hx => h x (List.mem_cons_of_mem _ hx))⟩
/-- a pair's text -/
def pcQ (q : Qp) : List UInt8 := qtA false q.k ++ 58 :: txs q.v
theorem tx_one (q : Qp) : txs (prT [q]) = pcQ q := by rw [prT_one, txs_cons, txs_sg]; rfl
theorem tx_front (q : Qp) (r : List Qp) : txs (prT (q :: r)) = pcQ q ++ (match r with | [] => [] | q2 :: r2 => 44 :: txs (prT (q2 :: r2))) := by
  cases r with
  | nil => rw [tx_one]; simp
  | cons q2 r => rw [prT_more, txs_cons, txs_sg, txs_app, txs_sg]; simp [pcQ, Tk.tx]
theorem tx_two (a b : Qp) (r : List Qp) : txs (prT (a :: b :: r)) = pcQ a ++ 44 :: txs (prT (b :: r)) := tx_front a (b :: r)
theorem tx_back : ∀ (A : List Qp) (q : Qp), txs (prT (A ++ [q])) = txs (prT A) ++ ((if A.isEmpty = true then [] else [44]) ++ pcQ q)
  | [], q => by rw [List.nil_append, tx_one, show prT [] = [] from by rw [prT]]; rfl
  | [a], q => by rw [List.singleton_append, tx_two, tx_one, tx_one]; rfl
  | a :: b :: A, q => by
    have ih := tx_back (b :: A) q
    rw [List.cons_append] at ih
    rw [List.cons_append, List.cons_append, tx_two, ih, tx_two]
    simp
/-- the whole of it -/
def mpT (ps : List Qp) : List Tk := .sg 123 :: (prT ps ++ [.sg 125])
theorem mp_tx (ps : List Qp) : txs (mpT ps) = 123 :: (txs (prT ps) ++ [125]) := by rw [mpT, txs_sg, txs_app]; rfl
theorem mp_reads (q : Qp) (r : List Qp) (h : ∀ x ∈ q :: r, QOk 1 x) (hn : ((prP (q :: r)).map (·.1)).Nodup) (hz : prN (q :: r) + 1 ≤ 4096) (hl : (123 :: (txs (prT (q :: r)) ++ [125])).length ≤ 65536) :
    ∃ z, jrA (123 :: (txs (prT (q :: r)) ++ [125])) = .ok (mapT (insA [] (prP (q :: r)))) (prN (q :: r) + 1) z := by
  have h0 : okR [] (mpT (q :: r)) := by
    refine ⟨sg_ok (by decide), ?_⟩
    rw [okR_app]
    exact ⟨prT_okR 1 _ (edr_cons (by decide)) _ h, sg_ok (by decide), trivial⟩
  rw [← mp_tx] at hl ⊢
  have hc := cut_tokN ((okT_R _).2 h0) hl (okR_vl _ h0)
  have e : wdsN 0 (mpT (q :: r)) = ⟨1, [123], 0⟩ :: (wdsN 1 (prT (q :: r)) ++ [⟨1, [125], 1 + (txs (prT (q :: r))).length⟩]) := by
    rw [mpT, wdsN, wdsN_app]; rfl
  rw [e] at hc
  exact ⟨_, jrA_rds hc (rds_map (by omega) (prT_rdm 1 r q 1 h) hn rfl rfl) rfl hz⟩
/-- a key that is there already, one pair on -/
theorem mp_twice (q : Qp) (r : List Qp) (h : ∀ x ∈ q :: r, QOk 1 x) (hn : ((prP (q :: r)).map (·.1)).Nodup) (hz : prN (q :: r) + 1 ≤ 4096) (k : List UInt8) (hk : mkS k ∈ (prP (q :: r)).map (·.1)) (hv : Vl k) (hk4 : k.length ≤ 4096)
    (hl : (123 :: (txs (prT (q :: r)) ++ (44 :: (qtA false k ++ [58, 50, 125])))).length ≤ 65536) :
    jrA (123 :: (txs (prT (q :: r)) ++ (44 :: (qtA false k ++ [58, 50, 125])))) = .bad 5 ((txs (prT (q :: r))).length + 2) := by
  obtain ⟨W, hW⟩ : ∃ W, W = Tk.sg 123 :: (prT (q :: r) ++ [.sg 44, .st k, .sg 58, .nu [50], .sg 125]) := ⟨_, rfl⟩
  have et : txs W = 123 :: (txs (prT (q :: r)) ++ (44 :: (qtA false k ++ [58, 50, 125]))) := by
    rw [hW, txs_sg, txs_app]; simp [txs, Tk.tx]
  have h0 : okR [] W := by
    rw [hW]
    refine ⟨sg_ok (by decide), ?_⟩
    rw [okR_app]
    refine ⟨prT_okR 1 _ (edr_cons (by decide)) _ h, sg_ok (by decide), ⟨hv, hk4⟩, sg_ok (by decide), ⟨by decide, fun x hx => ?_⟩, sg_ok (by decide), trivial⟩
    simp [txs, Tk.tx] at hx
    subst hx; decide
  rw [← et] at hl ⊢
  have hc := cut_tokN ((okT_R _).2 h0) hl (okR_vl _ h0)
  obtain ⟨P, hP⟩ : ∃ P, P = (txs (prT (q :: r))).length := ⟨_, rfl⟩
  have e : ∃ tl, wdsN 0 W ++ [⟨0, [], (txs W).length⟩] = ⟨1, [123], 0⟩ :: (wdsN 1 (prT (q :: r)) ++ ⟨1, [44], 1 + P⟩ :: ⟨2, k, 1 + P + 1⟩ :: tl) := by
    rw [hW, wdsN, wdsN_app, ← hP]
    exact ⟨_, by simp [wdsN, Tk.wd, Tk.tx]; rfl⟩
  obtain ⟨tl, e⟩ := e
  rw [e] at hc
  have hm := rdm_twice (prT_rdm 1 r q 1 h) [] 1 (2 * (⟨1, [123], 0⟩ :: (wdsN 1 (prT (q :: r)) ++ ⟨1, [44], 1 + P⟩ :: ⟨2, k, 1 + P + 1⟩ :: tl)).length + 1) ⟨1, [44], 1 + P⟩ ⟨2, k, 1 + P + 1⟩ tl strict_nil (by simpa using hn) (by omega) (by simp only [List.length_cons, List.length_append]; omega) rfl rfl (by simpa using hk)
  obtain ⟨x, qq, hq, hx⟩ := (prT_rdm 1 r q 1 h).head
  rw [jrA_bad hc (er := 5) (a := 1 + P + 1)]
  · rw [← hP, show 1 + P + 1 = P + 2 from by omega]
  · have hb : begB ⟨1, [123], 0⟩ = true := by decide
    have hne : ∀ R, isM 125 (wdsN 1 (prT (q :: r)) ++ R) = false := fun R => by rw [hq]; exact isM_no (fun ⟨h3, _⟩ => by omega)
    rw [jrV_map hb (by omega) rfl (by decide), if_neg (by rw [hne]; decide)]
    exact hm
/-- pairs in two orders are one map -/
theorem ins_perm {P Q : List (ByteArray × VT)} (h : P.Perm Q) (hn : (P.map (·.1)).Nodup) : insA [] P = insA [] Q := by
  obtain ⟨a1, a2⟩ := ins_fold P [] strict_nil (by simpa using hn)
  obtain ⟨b1, b2⟩ := ins_fold Q [] strict_nil (by simpa using (h.map (·.1)).nodup_iff.1 hn)
  rw [List.nil_append] at a2 b2
  refine (sorted_one (insA [] Q) (insA [] P) b1 ?_ (a2.trans (h.trans b2.symm)))
  intro i j a b hij hi hj
  have := a1 i j a.1 b.1 hij (by rw [List.getElem?_map, hi]; rfl) (by rw [List.getElem?_map, hj]; rfl)
  rcases ltB_tri a.1.data.toList b.1.data.toList with ⟨-, h2, -⟩ | h2 | ⟨h2, -, -⟩
  · exact h2
  · rw [h2, ltB_irr] at this; cases this
  · rw [h2] at this; cases this
end Go.Proofs.YtkhjahpkbjafaaaGreatDoor
