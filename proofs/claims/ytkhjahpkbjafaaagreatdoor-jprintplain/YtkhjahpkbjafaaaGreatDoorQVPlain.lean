/- value.goodNode, walked. -/
import Derived.Test.YtkhjahpkbjafaaaGreatDoorQVRise
import Derived.Test.YtkhjahpkbjafaaaGreatDoorQVTextAll
import Derived.Test.YtkhjahpkbjafaaaGreatDoorQVBase
import Derived.Deep.AppendLies
import Derived.Test.YtkhjahpkbjafaaaGreatDoorQVCopyAll
/- Trees that may be: the mathematics of it. -/
/- Values in boxes, pairs and lists just written down. -/
/- Trees that lie in some blocks: what keeps those blocks keeps the tree. -/
/- A fresh box, and what is put into it. -/
namespace Go.Proofs.YtkhjahpkbjafaaaGreatDoor
open Go.RowKit

/-- a tree in a box -/
def Bx (w : World) (b : Nat) (T : VT) (x y : Value) : Prop := Node w ⟨b, 0, none⟩ T x y ∧ HV w T x y
theorem Bx.onto {w w' : World} {b : Nat} {T : VT} {x y : Value} (h : Bx w b T x y) (hb : Below w.heap.size w w') : Bx w' b T x y := ⟨h.1.onto hb, h.2.onto hb⟩
theorem Bx.cells {w : World} {b : Nat} {T : VT} {x y : Value} (h : Bx w b T x y) : w.cell? ⟨b, 0, none⟩ = some (.int .i64 T.kd) ∧ w.cell? ⟨b, 1, none⟩ = some (.int .i64 T.nm) ∧ w.cell? ⟨b, 2, none⟩ = some (.string T.st) ∧ w.cell? ⟨b, 3, none⟩ = some x ∧ w.cell? ⟨b, 4, none⟩ = some y := by
  have := h.1
  simp only [Node, Nat.zero_add] at this
  exact this
theorem bx_new {w : World} {T : VT} {x y : Value} (h : HV w T x y) (t : TypeId) : Bx (w.alloc (.cells #[.int .i64 T.kd, .int .i64 T.nm, .string T.st, x, y] t)) w.heap.size T x y := by
  refine ⟨⟨?_, ?_, ?_, ?_, ?_⟩, h.onto (valloc_bel (Below.refl _ _) _)⟩
  all_goals simp
/-- a pair's cells -/
def pc (a : ByteArray × VT × Value × Value) : List Value := [.string a.1, .int .i64 a.2.1.kd, .int .i64 a.2.1.nm, .string a.2.1.st, a.2.2.1, a.2.2.2]
def vc (a : VT × Value × Value) : List Value := [.int .i64 a.1.kd, .int .i64 a.1.nm, .string a.1.st, a.2.1, a.2.2]
theorem flat_at {α : Type} (f : α → List Value) (m : Nat) (hf : ∀ a, (f a).length = m) : ∀ (A : List α) (i c : Nat) (a : α), A[i]? = some a → c < m → (A.flatMap f)[i * m + c]? = (f a)[c]?
  | [], i, c, a, h, _ => by simp at h
  | b :: A, 0, c, a, h, hc => by
    simp at h; subst h
    rw [List.flatMap_cons, Nat.zero_mul, Nat.zero_add, List.getElem?_append_left (by rw [hf]; exact hc)]
  | b :: A, i + 1, c, a, h, hc => by
    simp at h
    rw [List.flatMap_cons, List.getElem?_append_right (by rw [hf, Nat.add_mul]; omega), hf, show (i + 1) * m + c - m = i * m + c by rw [Nat.add_mul]; omega]
    exact flat_at f m hf A i c a h hc
end Go.Proofs.YtkhjahpkbjafaaaGreatDoor
namespace Go.Proofs.YtkhjahpkbjafaaaGreatDoor
open Go.RowKit

inductive HS (w : World) (S : Nat → Prop) : VT → Value → Value → Prop
  | mk {k n : Int} {s : ByteArray} {L : List VT} {K : List ByteArray} {V : List VT} {x y : Value} (a b : Addr) (f g p q : Nat → Value)
      (hk : (Lit.int .i64 k).wf = true) (hn : (Lit.int .i64 n).wf = true) (hs : s.size ≤ maxLen)
      (hL : SlOf x a L.length) (hM : SlOf y b V.length) (hK : K.length = V.length)
      (iL : 0 < L.length → S a.block) (iM : 0 < V.length → S b.block)
      (cL : ∀ i t, L[i]? = some t → Node w (a.add (i * 5)) t (f i) (g i))
      (cK : ∀ i u, K[i]? = some u → w.cell? (b.add (i * 6)) = some (.string u) ∧ u.size ≤ maxLen)
      (cM : ∀ i t, V[i]? = some t → Node w (nx (b.add (i * 6))) t (p i) (q i))
      (rL : ∀ i t, L[i]? = some t → HS w S t (f i) (g i))
      (rM : ∀ i t, V[i]? = some t → HS w S t (p i) (q i)) : HS w S (.mk k n s L K V) x y
theorem HS.hv {w : World} {S : Nat → Prop} {T : VT} {x y : Value} (h : HS w S T x y) : HV w T x y := by
  induction h with
  | mk a b f g p q hk hn hs hL hM hK iL iM cL cK cM _ _ ihL ihM => exact .mk a b f g p q hk hn hs hL hM hK cL cK cM ihL ihM
theorem addr_block (a : Addr) (i : Nat) : (a.add i).block = a.block := by unfold Addr.add; split <;> rfl
theorem HS.onto {w w' : World} {S S' : Nat → Prop} {T : VT} {x y : Value} (h : HS w S T x y) (hb : ∀ k, S k → w'.heap[k]? = w.heap[k]?) (hS : ∀ k, S k → S' k) : HS w' S' T x y := by
  induction h with
  | mk a b f g p q hk hn hs hL hM hK iL iM cL cK cM _ _ ihL ihM =>
    refine .mk a b f g p q hk hn hs hL hM hK (fun h => hS _ (iL h)) (fun h => hS _ (iM h)) (fun i t h => ?_) (fun i u h => ?_) (fun i t h => ?_) ihL ihM
    · exact (cL i t h).eqs (by rw [addr_block]; exact hb _ (iL (by have := lt_of_some h; omega)))
    · refine ⟨(World.cell?_of_block (w := w) ?_).trans (cK i u h).1, (cK i u h).2⟩
      rw [addr_block]; exact hb _ (iM (by have := lt_of_some h; omega))
    · exact (cM i t h).eqs (by rw [show (nx (b.add (i * 6))).block = (b.add (i * 6)).block from rfl, addr_block]; exact hb _ (iM (by have := lt_of_some h; omega)))
/-- a list in some blocks -/
def LS (w : World) (S : Nat → Prop) (L : List VT) (x : Value) : Prop := ∃ (a : Addr) (f g : Nat → Value), SlOf x a L.length ∧ (0 < L.length → S a.block) ∧ (∀ i t, L[i]? = some t → Node w (a.add (i * 5)) t (f i) (g i)) ∧ (∀ i t, L[i]? = some t → HS w S t (f i) (g i))
/-- pairs in some blocks -/
def MS (w : World) (S : Nat → Prop) (K : List ByteArray) (V : List VT) (y : Value) : Prop := ∃ (b : Addr) (p q : Nat → Value), SlOf y b V.length ∧ K.length = V.length ∧ (0 < V.length → S b.block) ∧
  (∀ i u, K[i]? = some u → w.cell? (b.add (i * 6)) = some (.string u) ∧ u.size ≤ maxLen) ∧ (∀ i t, V[i]? = some t → Node w (nx (b.add (i * 6))) t (p i) (q i)) ∧ (∀ i t, V[i]? = some t → HS w S t (p i) (q i))
theorem LS.onto {w w' : World} {S S' : Nat → Prop} {L : List VT} {x : Value} (h : LS w S L x) (hb : ∀ k, S k → w'.heap[k]? = w.heap[k]?) (hS : ∀ k, S k → S' k) : LS w' S' L x := by
  obtain ⟨a, f, g, h1, h2, h3, h4⟩ := h
  exact ⟨a, f, g, h1, fun h => hS _ (h2 h), fun i t h => (h3 i t h).eqs (by rw [addr_block]; exact hb _ (h2 (by have := lt_of_some h; omega))), fun i t h => (h4 i t h).onto hb hS⟩
theorem hs_of {w : World} {S : Nat → Prop} {T : VT} {x y : Value} (hw : (Lit.int .i64 T.kd).wf = true ∧ (Lit.int .i64 T.nm).wf = true ∧ T.st.size ≤ maxLen) (hL : LS w S T.ls x) (hM : MS w S T.ks T.vs y) : HS w S T x y := by
  obtain ⟨a, f, g, h1, h2, h3, h4⟩ := hL
  obtain ⟨b, p, q, k1, k2, k3, k4, k5, k6⟩ := hM
  cases T with
  | mk k n s L K V => exact .mk a b f g p q hw.1 hw.2.1 hw.2.2 h1 k1 k2 h2 k3 h3 k4 k5 h4 k6
/-- a slice of one's own that holds values -/
theorem own_ls {w : World} {S : Nat → Prop} {base : Nat} {v : Value} {E : List (VT × Value × Value)} {ty : TypeId} (h : w.ownsRow base ty 5 v E.length (E.flatMap vc)) (hE : ∀ e ∈ E, HS w S e.1 e.2.1 e.2.2) (hS : ∀ g, v.ownBlock = some g → S g) : LS w S (E.map (·.1)) v := by
  have hc := h
  rcases hc with ⟨-, ⟨rfl, h0⟩ | ⟨g, cap, cur, rfl, -, -, hn, hcm, -, -⟩⟩
  · have : E = [] := List.eq_nil_of_length_eq_zero h0
    subst this
    exact ⟨⟨0, 0, none⟩, fun _ => .nilIface, fun _ => .nilIface, ⟨none, 0, rfl, Nat.le_refl _, Nat.zero_le _, fun h => absurd h (by simp)⟩, fun h => absurd h (by simp), fun i t h => by simp at h, fun i t h => by simp at h⟩
  have key : ∀ (i : Nat) (a : VT × Value × Value), E[i]? = some a → ∀ (c : Nat) (u : Value), (vc a)[c]? = some u → w.cell? ⟨g, i * 5 + c, none⟩ = some u := by
    intro i a ha c u hu
    have hi := lt_of_some ha
    have hc : c < 5 := lt_of_some hu
    rw [h.cellAt (i * 5 + c) (by omega), flat_at vc 5 (fun _ => rfl) E i c a ha hc]
    exact hu
  refine ⟨⟨g, 0, none⟩, fun i => ((E[i]?).map fun a => a.2.1).getD .nilIface, fun i => ((E[i]?).map fun a => a.2.2).getD .nilIface, ⟨_, _, by simp, by simpa using hn, hcm, fun _ => rfl⟩, fun _ => hS g rfl, fun i t ht => ?_, fun i t ht => ?_⟩
  · rw [List.getElem?_map] at ht
    obtain ⟨a, ha, rfl⟩ := Option.map_eq_some_iff.1 ht
    rw [add_at]
    simp only [ha, Option.map_some, Option.getD_some]
    exact ⟨key i a ha 0 _ rfl, key i a ha 1 _ rfl, key i a ha 2 _ rfl, key i a ha 3 _ rfl, key i a ha 4 _ rfl⟩
  · rw [List.getElem?_map] at ht
    obtain ⟨a, ha, rfl⟩ := Option.map_eq_some_iff.1 ht
    simp only [ha, Option.map_some, Option.getD_some]
    exact hE a (List.mem_of_getElem? ha)
/-- a slice of one's own that holds pairs -/
theorem own_ms {w : World} {S : Nat → Prop} {base : Nat} {v : Value} {E : List (ByteArray × VT × Value × Value)} {ty : TypeId} (h : w.ownsRow base ty 6 v E.length (E.flatMap pc)) (hE : ∀ e ∈ E, e.1.size ≤ maxLen ∧ HS w S e.2.1 e.2.2.1 e.2.2.2) (hS : ∀ g, v.ownBlock = some g → S g) : MS w S (E.map (·.1)) (E.map (·.2.1)) v := by
  have hc := h
  rcases hc with ⟨-, ⟨rfl, h0⟩ | ⟨g, cap, cur, rfl, -, -, hn, hcm, -, -⟩⟩
  · have : E = [] := List.eq_nil_of_length_eq_zero h0
    subst this
    exact ⟨⟨0, 0, none⟩, fun _ => .nilIface, fun _ => .nilIface, ⟨none, 0, rfl, Nat.le_refl _, Nat.zero_le _, fun h => absurd h (by simp)⟩, rfl, fun h => absurd h (by simp), fun i t h => by simp at h, fun i t h => by simp at h, fun i t h => by simp at h⟩
  have key : ∀ (i : Nat) (a : ByteArray × VT × Value × Value), E[i]? = some a → ∀ (c : Nat) (u : Value), (pc a)[c]? = some u → w.cell? ⟨g, i * 6 + c, none⟩ = some u := by
    intro i a ha c u hu
    have hi := lt_of_some ha
    have hc : c < 6 := lt_of_some hu
    rw [h.cellAt (i * 6 + c) (by omega), flat_at pc 6 (fun _ => rfl) E i c a ha hc]
    exact hu
  refine ⟨⟨g, 0, none⟩, fun i => ((E[i]?).map fun a => a.2.2.1).getD .nilIface, fun i => ((E[i]?).map fun a => a.2.2.2).getD .nilIface, ⟨_, _, by simp, by simpa using hn, hcm, fun _ => rfl⟩, by simp, fun _ => hS g rfl, fun i u hu => ?_, fun i t ht => ?_, fun i t ht => ?_⟩
  · rw [List.getElem?_map] at hu
    obtain ⟨a, ha, rfl⟩ := Option.map_eq_some_iff.1 hu
    rw [add_at]
    exact ⟨key i a ha 0 _ rfl, (hE a (List.mem_of_getElem? ha)).1⟩
  · rw [List.getElem?_map] at ht
    obtain ⟨a, ha, rfl⟩ := Option.map_eq_some_iff.1 ht
    rw [add_at]
    simp only [ha, Option.map_some, Option.getD_some]
    exact ⟨key i a ha 1 _ rfl, key i a ha 2 _ rfl, key i a ha 3 _ rfl, key i a ha 4 _ rfl, key i a ha 5 _ rfl⟩
  · rw [List.getElem?_map] at ht
    obtain ⟨a, ha, rfl⟩ := Option.map_eq_some_iff.1 ht
    simp only [ha, Option.map_some, Option.getD_some]
    exact (hE a (List.mem_of_getElem? ha)).2
theorem HF.hs {w : World} {lo hi : Nat} {T : VT} {x y : Value} (h : HF w lo hi T x y) : HS w (fun k => lo ≤ k ∧ k < hi) T x y := by
  induction h with
  | mk m bL bM l r f g p q hk hn hs hL hM hK lom mhi iL iM oL oM cL cK cM _ _ ihL ihM =>
    refine .mk _ _ f g p q hk hn hs hL.of hM.of hK (fun h => ?_) (fun h => ?_) cL cK cM (fun i t h => ?_) (fun i t h => ?_)
    · have h1 := iL h; have h2 := oL 0 _ (Nat.zero_le _) (Nat.le_refl _); dsimp only; omega
    · have h1 := iM h; have h2 := oM 0 _ (Nat.zero_le _) (Nat.le_refl _); dsimp only; omega
    · have hi := lt_of_some h
      have h1 := iL (by omega)
      have h2 := oL 0 i (Nat.zero_le _) (by omega)
      have h3 := oL (i + 1) _ hi (Nat.le_refl _)
      exact (ihL i t h).onto (fun _ _ => rfl) (fun k hk => by omega)
    · have hi := lt_of_some h
      have h1 := iM (by omega)
      have h2 := oM 0 i (Nat.zero_le _) (by omega)
      have h3 := oM (i + 1) _ hi (Nat.le_refl _)
      exact (ihM i t h).onto (fun _ _ => rfl) (fun k hk => by omega)
end Go.Proofs.YtkhjahpkbjafaaaGreatDoor
namespace Go.Proofs.YtkhjahpkbjafaaaGreatDoor
open Go.RowKit

/-- a fresh box -/
def Z5 (w : World) (b : Nat) : Prop := (w.cell? ⟨b, 0, none⟩ = some (.int .i64 0) ∧ w.cell? ⟨b, 1, none⟩ = some (.int .i64 0) ∧ w.cell? ⟨b, 2, none⟩ = some (.string ⟨#[]⟩) ∧ w.cell? ⟨b, 3, none⟩ = some (.slice none 0 0) ∧ w.cell? ⟨b, 4, none⟩ = some (.slice none 0 0)) ∧ ∀ o, w.frozen? ⟨b, o, none⟩ = false
theorem z5_new (w : World) : Z5 (w.alloc (.cells #[.int .i64 0, .int .i64 0, .string ⟨#[]⟩, .slice none 0 0, .slice none 0 0] 27)) w.heap.size := ⟨by simp, fun o => (Row.new w #[.int .i64 0, .int .i64 0, .string ⟨#[]⟩, .slice none 0 0, .slice none 0 0] 27).frozen o⟩
theorem Z5.onto {w w' : World} {b : Nat} (h : Z5 w b) (hb : Below w.heap.size w w') : Z5 w' b :=
  ⟨⟨keepCell hb h.1.1, keepCell hb h.1.2.1, keepCell hb h.1.2.2.1, keepCell hb h.1.2.2.2.1, keepCell hb h.1.2.2.2.2⟩, fun o => (hb.frozen (p := ⟨b, o, none⟩) (World.block_lt_of_cell? w ⟨b, 0, none⟩ h.1.1)).trans (h.2 o)⟩
theorem z5_put {w : World} {b : Nat} (h : Z5 w b) (T : VT) (x y : Value) : Node (put5 w b 0 (.int .i64 T.kd) (.int .i64 T.nm) (.string T.st) x y) ⟨b, 0, none⟩ T x y := by
  unfold put5
  refine ⟨?_, ?_, ?_, ?_, ?_⟩
  · rw [set_other _ _ _ _ _ _ (Or.inr (by omega)), set_other _ _ _ _ _ _ (Or.inr (by omega)), set_other _ _ _ _ _ _ (Or.inr (by omega)), set_other _ _ _ _ _ _ (Or.inr (by omega))]
    exact World.cell?_setCell_same _ _ _ h.1.1
  · show World.cell? _ ⟨b, 0 + 1, none⟩ = _
    rw [set_other _ _ _ _ _ _ (Or.inr (by omega)), set_other _ _ _ _ _ _ (Or.inr (by omega)), set_other _ _ _ _ _ _ (Or.inr (by omega))]
    exact World.cell?_setCell_same _ _ _ ((set_other _ _ _ _ _ _ (Or.inr (by omega))).trans h.1.2.1)
  · show World.cell? _ ⟨b, 0 + 2, none⟩ = _
    rw [set_other _ _ _ _ _ _ (Or.inr (by omega)), set_other _ _ _ _ _ _ (Or.inr (by omega))]
    exact World.cell?_setCell_same _ _ _ ((set_other _ _ _ _ _ _ (Or.inr (by omega))).trans ((set_other _ _ _ _ _ _ (Or.inr (by omega))).trans h.1.2.2.1))
  · show World.cell? _ ⟨b, 0 + 3, none⟩ = _
    rw [set_other _ _ _ _ _ _ (Or.inr (by omega))]
    exact World.cell?_setCell_same _ _ _ ((set_other _ _ _ _ _ _ (Or.inr (by omega))).trans ((set_other _ _ _ _ _ _ (Or.inr (by omega))).trans ((set_other _ _ _ _ _ _ (Or.inr (by omega))).trans h.1.2.2.2.1)))
  · show World.cell? _ ⟨b, 0 + 4, none⟩ = _
    exact World.cell?_setCell_same _ _ _ ((set_other _ _ _ _ _ _ (Or.inr (by omega))).trans ((set_other _ _ _ _ _ _ (Or.inr (by omega))).trans ((set_other _ _ _ _ _ _ (Or.inr (by omega))).trans ((set_other _ _ _ _ _ _ (Or.inr (by omega))).trans h.1.2.2.2.2))))
end Go.Proofs.YtkhjahpkbjafaaaGreatDoor
namespace Go.Proofs.YtkhjahpkbjafaaaGreatDoor
open Go.RowKit

/-- a node may be, whatever its parts are: a, b, c, d: no number, no text, no list, no map -/
def nodeC (k n : Int) (a b c d num te st ks : Bool) : Bool :=
  if k = 0 then a && b && c && d else if k = 1 then (a || n == 1) && b && c && d else if k = 2 then b && c && d else if k = 3 then a && num && c && d else if k = 4 then a && te && c && d
  else if k = 7 then a && st && c && d else if k = 5 then a && b && d else if k = 6 then a && b && c && ks else false
def nodeB (T : VT) : Bool := nodeC T.kd T.nm (T.nm == 0) T.st.toList.isEmpty ((T.ls.length : Int) == 0) ((T.vs.length : Int) == 0) (numB T.st.data.toList && !intB T.st.data.toList) (teI T.st == 0) (stampB T.st) (keysB T.ks)
theorem ikey (k c : Int) (h : ¬ k = c) : (k == c) = false ∧ (k != c) = true := ⟨by simpa using h, by simpa using h⟩
set_option maxRecDepth 100000 in
set_option maxHeartbeats 4000000 in
theorem gnode_any (T : VT) (x y : Value) (w : World) (hg : Glob w) (hT : HV w T x y) :
    Calls Tryz.prog 96 #[vv T x y] w fun e w' => e = .returned (.bool (nodeB T)) ∧ Below w.heap.size w w' := by
  have HM := hid hT.inM
  have HW := hid hT.wfs
  obtain ⟨k, hk⟩ : ∃ k, T.kd = k := ⟨_, rfl⟩
  obtain ⟨n, hn⟩ : ∃ n, T.nm = n := ⟨_, rfl⟩
  obtain ⟨s, hst⟩ : ∃ s, T.st = s := ⟨_, rfl⟩
  obtain ⟨oL, nL, cL, oM, nM, cM, rfl, rfl, hlL, hlM⟩ : ∃ oL nL cL oM nM cM, x = .slice oL nL cL ∧ y = .slice oM nM cM ∧ nL = T.ls.length ∧ nM = T.vs.length := by
    cases hT with
    | mk a b f g p q hk hn hs hL hM hK cL cK cM rL rM =>
      obtain ⟨oL, capL, rfl, -, -, -⟩ := hL
      obtain ⟨oM, capM, rfl, -, -, -⟩ := hM
      exact ⟨_, _, _, _, _, _, rfl, rfl, rfl, rfl⟩
  have HN := hid (show nodeB T = nodeC k n (n == 0) s.toList.isEmpty ((nL : Int) == 0) ((nM : Int) == 0) (numB s.data.toList && !intB s.data.toList) (teI s == 0) (stampB s) (keysB T.ks) by unfold nodeB; rw [hk, hn, hst, hlL, hlM])
  have HL3 : Hid (nL ≤ 2 ^ 63 - 1 ∧ nM ≤ 2 ^ 63 - 1) := by
    obtain ⟨_, _, _, _, _, _, _, _, _, _, -, -, h1, h2, -⟩ := hT.parts
    rw [hlL, hlM]; exact ⟨h1, h2⟩
  obtain ⟨hl1, hl2⟩ := HL3.out
  have hs := HW.out.2.2
  rw [hst] at hs
  simp only [vv]
  rw [hk, hn, hst]
  have gn := hid (fun X (hX : Below w.heap.size w X) => gnum_any s X (hg.on hX) hs)
  have te := hid (fun X => terr_any s X hs)
  have gs := hid (fun X => gstamp_any s X hs)
  have gk := hid (fun X (hX : Below w.heap.size w X) => gkeys_any T.ks T.vs _ X (HM.out.onto hX))
  generalize nodeB T = res at HN ⊢
  generalize (numB s.data.toList && !intB s.data.toList) = num at HN gn
  generalize teI s = tt at HN te
  generalize stampB s = sb at HN gs
  generalize keysB T.ks = kb at HN gk
  clear hk hn hst hlL hlM hT hg HM HW hs
  have HB : Hid (∀ o m, Below w.heap.size w ((w.alloc o).drewN m)) := fun o m => vdrew_bel (valloc_bel (Below.refl _ _) _) m
  go_enter Tryz.func96, Tryz.ntmps96
  go_upto_region 1 with fail
  go_cut [3, 4, 5, 6] from 7 (fun v3 v4 v5 v6 wx => v3 = .bool (n == 0) ∧ v4 = .bool s.toList.isEmpty ∧ v5 = .bool ((nL : Int) == 0) ∧ v6 = .bool ((nM : Int) == 0) ∧ ∃ m, wx = (w.alloc (.cells #[.int .i64 k, .int .i64 n, .string s, .slice oL nL cL, .slice oM nM cM] 27)).drewN m)
  case first =>
    go_quiet (fail)
    go_wp2_with fail
    go_meet
    exact ⟨rfl, rfl, rfl, rfl, _, rfl⟩
  case rest =>
  obtain ⟨rfl, rfl, rfl, rfl, m, rfl⟩ := hcut
  have ha2 : ∀ a, (n == 0) = a → (n == 0) = a := fun _ h => h
  generalize ha : (n == 0) = a at HN ha2 ⊢
  generalize s.toList.isEmpty = b at HN ⊢
  generalize ((nL : Int) == 0) = c at HN ⊢
  generalize ((nM : Int) == 0) = d at HN ⊢
  clear ha2
  have HAA := hid ha
  clear ha
  by_cases k0 : k = 0
  · subst k0
    have HR := hid (show res = (a && b && c && d) from HN.out)
    clear HN
    cases a <;> cases b <;> cases c <;> cases d
    all_goals
      go_wp2_with fail
      go_ret
      exact ⟨ret_bool HR.out.symm, HB.out _ _⟩
  by_cases k1 : k = 1
  · subst k1
    have HR := hid (show res = ((a || n == 1) && b && c && d) from HN.out)
    clear HN
    have ha := HAA.out
    generalize hn1 : (n == 1) = a1 at HR
    cases a <;> cases a1 <;> cases b <;> cases c <;> cases d
    all_goals
      go_wp2_with fail
      go_ret
      exact ⟨ret_bool HR.out.symm, HB.out _ _⟩
  by_cases k2 : k = 2
  · subst k2
    have HR := hid (show res = (b && c && d) from HN.out)
    clear HN
    cases b <;> cases c <;> cases d
    all_goals
      go_wp2_with fail
      go_ret
      exact ⟨ret_bool HR.out.symm, HB.out _ _⟩
  by_cases k3 : k = 3
  · subst k3
    have HR := hid (show res = (a && num && c && d) from HN.out)
    clear HN
    cases a <;> cases num <;> cases c <;> cases d
    all_goals
      go_wp2_with (go_at_call 122; go_must (refine (gn.out _ (HB.out _ _)).mono ?_; rintro e w1 ⟨rfl, hb1⟩))
      go_ret
      exact ⟨ret_bool HR.out.symm, by first | exact HB.out _ _ | exact vonto (HB.out _ _) hb1⟩
  by_cases k4 : k = 4
  · subst k4
    have HR := hid (show res = (a && (tt == 0) && c && d) from HN.out)
    clear HN
    generalize ht0 : (tt == 0) = t0 at HR
    cases a <;> cases t0 <;> cases c <;> cases d
    all_goals
      go_wp2_with (go_at_call 110; go_must (refine (te.out _).mono ?_; rintro e w1 ⟨rfl, rfl⟩))
      go_ret
      exact ⟨ret_bool HR.out.symm, HB.out _ _⟩
  by_cases k7 : k = 7
  · subst k7
    have HR := hid (show res = (a && sb && c && d) from HN.out)
    clear HN
    cases a <;> cases sb <;> cases c <;> cases d
    all_goals
      go_wp2_with (go_at_call 123; go_must (refine (gs.out _).mono ?_; rintro e w1 ⟨rfl, hb1⟩))
      go_ret
      exact ⟨ret_bool HR.out.symm, by first | exact HB.out _ _ | exact vonto (HB.out _ _) hb1⟩
  by_cases k5 : k = 5
  · subst k5
    have HR := hid (show res = (a && b && d) from HN.out)
    clear HN
    cases a <;> cases b <;> cases d
    all_goals
      go_wp2_with fail
      go_ret
      exact ⟨ret_bool HR.out.symm, HB.out _ _⟩
  by_cases k6 : k = 6
  · subst k6
    have HR := hid (show res = (a && b && c && kb) from HN.out)
    clear HN
    cases a <;> cases b <;> cases c <;> cases kb
    all_goals
      go_wp2_with (go_at_call 124; go_must (refine (gk.out _ (HB.out _ _)).mono ?_; rintro e w1 ⟨rfl, hb1⟩))
      go_ret
      exact ⟨ret_bool HR.out.symm, by first | exact HB.out _ _ | exact vonto (HB.out _ _) hb1⟩
  have HR := hid (show res = false by rw [HN.out]; unfold nodeC; rw [if_neg k0, if_neg k1, if_neg k2, if_neg k3, if_neg k4, if_neg k7, if_neg k5, if_neg k6])
  have j0 := (ikey _ _ k0).1
  have j1 := (ikey _ _ k1).1
  have j2 := (ikey _ _ k2).1
  have j3 := (ikey _ _ k3).1
  have j4 := (ikey _ _ k4).1
  have j7 := (ikey _ _ k7).1
  have j5 := (ikey _ _ k5).1
  have j6 := (ikey _ _ k6).1
  clear HN k0 k1 k2 k3 k4 k5 k6 k7
  go_wp2_with fail
  go_ret
  exact ⟨ret_bool HR.out.symm, HB.out _ _⟩
end Go.Proofs.YtkhjahpkbjafaaaGreatDoor
namespace Go.Proofs.YtkhjahpkbjafaaaGreatDoor
open Go.RowKit

mutual
/-- a tree may be, whatever its size -/
def plainT : VT → Bool
  | .mk k n s L K V => nodeB (.mk k n s L K V) && plainL L && plainL V
def plainL : List VT → Bool
  | [] => true
  | t :: r => plainT t && plainL r
end
theorem plainT_eq (T : VT) : plainT T = (nodeB T && plainL T.ls && plainL T.vs) := by cases T; rw [plainT]; rfl
theorem plainL_get : ∀ (L : List VT), plainL L = true ↔ ∀ (i : Nat) (t : VT), L[i]? = some t → plainT t = true
  | [] => by simp [plainL]
  | a :: r => by
    simp only [plainL, Bool.and_eq_true]
    rw [plainL_get r]
    constructor
    · rintro ⟨h1, h2⟩ i t hi
      cases i with
      | zero => simp at hi; subst hi; exact h1
      | succ i => simp at hi; exact h2 i t hi
    · intro g
      exact ⟨g 0 a rfl, fun i t hi => g (i + 1) t (by simpa using hi)⟩
theorem hgL_get : ∀ (L : List VT) (m : Nat), hgL L ≤ m ↔ ∀ (i : Nat) (t : VT), L[i]? = some t → hgT t ≤ m
  | [], m => by simp [hgL]
  | a :: r, m => by
    simp only [hgL, Nat.max_le]
    rw [hgL_get r m]
    constructor
    · rintro ⟨h1, h2⟩ i t hi
      cases i with
      | zero => simp at hi; subst hi; exact h1
      | succ i => simp at hi; exact h2 i t hi
    · intro g
      exact ⟨g 0 a rfl, fun i t hi => g (i + 1) t (by simpa using hi)⟩
/-- a tree may be, with so many nodes ahead of it, so deep below the top -/
def mayB (c d : Int) (T : VT) : Bool := decide (c + szT T ≤ 4096 ∧ d + hgT T ≤ 33) && plainT T
theorem good_node {c d : Int} {T : VT} (h : mayB c d T = true) : c + 1 ≤ 4096 ∧ d ≤ 32 ∧ nodeB T = true := by
  unfold mayB at h
  simp only [Bool.and_eq_true, decide_eq_true_eq] at h
  have h1 := szT_pos T; have h2 := hgT_pos T
  have h3 := h.2
  rw [plainT_eq] at h3
  simp only [Bool.and_eq_true] at h3
  exact ⟨by omega, by omega, h3.1.1⟩
theorem hg_ls (T : VT) : hgL T.ls + 1 ≤ hgT T ∧ hgL T.vs + 1 ≤ hgT T := by cases T; simp only [hgT, VT.ls, VT.vs]; omega
theorem sz_both (T : VT) : szT T = 1 + szL T.ls + szL T.vs := by cases T; simp only [szT, VT.ls, VT.vs]
theorem hg_both (T : VT) : hgT T = 1 + max (hgL T.ls) (hgL T.vs) := by cases T; simp only [hgT, VT.ls, VT.vs]
theorem good_ls {c d : Int} {T : VT} (h : mayB c d T = true) (i : Nat) (t : VT) (ht : T.ls[i]? = some t) : mayB (c + 1 + szL (T.ls.take i)) (d + 1) t = true := by
  unfold mayB at *
  simp only [Bool.and_eq_true, decide_eq_true_eq] at *
  have h3 := h.2
  rw [plainT_eq] at h3
  simp only [Bool.and_eq_true] at h3
  have h4 := szL_take_succ T.ls i t ht
  have h5 := szL_take_le T.ls (i + 1)
  have h6 := (hgL_get T.ls _).1 (Nat.le_refl _) i t ht
  have h7 := hg_ls T
  have h8 := sz_both T
  exact ⟨⟨by omega, by omega⟩, (plainL_get _).1 h3.1.2 i t ht⟩
theorem good_vs {c d : Int} {T : VT} (h : mayB c d T = true) (i : Nat) (t : VT) (ht : T.vs[i]? = some t) : mayB (c + 1 + szL T.ls + szL (T.vs.take i)) (d + 1) t = true := by
  unfold mayB at *
  simp only [Bool.and_eq_true, decide_eq_true_eq] at *
  have h3 := h.2
  rw [plainT_eq] at h3
  simp only [Bool.and_eq_true] at h3
  have h4 := szL_take_succ T.vs i t ht
  have h5 := szL_take_le T.vs (i + 1)
  have h6 := (hgL_get T.vs _).1 (Nat.le_refl _) i t ht
  have h7 := hg_ls T
  have h8 := sz_both T
  exact ⟨⟨by omega, by omega⟩, (plainL_get _).1 h3.2 i t ht⟩
theorem good_sz {c d : Int} {T : VT} (h : mayB c d T = true) : c + szT T ≤ 4096 ∧ d + hgT T ≤ 33 ∧ plainT T = true := by
  unfold mayB at h
  simp only [Bool.and_eq_true, decide_eq_true_eq] at h
  exact ⟨h.1.1, h.1.2, h.2⟩
theorem good_all {c d : Int} {T : VT} (hd : d ≤ 32) (hc : c + 1 + szL T.ls + szL T.vs ≤ 4096) (hn : nodeB T = true) (h1 : ∀ (i : Nat) (t : VT), T.ls[i]? = some t → d + 1 + hgT t ≤ 33 ∧ plainT t = true) (h2 : ∀ (i : Nat) (t : VT), T.vs[i]? = some t → d + 1 + hgT t ≤ 33 ∧ plainT t = true) : mayB c d T = true := by
  unfold mayB
  have h8 := sz_both T
  have h9 := hg_both T
  have g1 := (hgL_get T.ls (32 - d).toNat).2 (fun i t h => by have := (h1 i t h).1; omega)
  have g2 := (hgL_get T.vs (32 - d).toNat).2 (fun i t h => by have := (h2 i t h).1; omega)
  rw [plainT_eq, hn, (plainL_get _).2 (fun i t h => (h1 i t h).2), (plainL_get _).2 (fun i t h => (h2 i t h).2), decide_eq_true (by constructor <;> omega)]
  rfl
end Go.Proofs.YtkhjahpkbjafaaaGreatDoor
