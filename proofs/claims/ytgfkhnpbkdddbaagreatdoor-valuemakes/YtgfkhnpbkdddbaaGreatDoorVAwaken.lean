import Derived.Test.YtgfkhnpbkdddbaaGreatDoorVBox
import Derived.Test.YtgfkhnpbkdddbaaGreatDoorVGood
import Derived.Test.YtgfkhnpbkdddbaaGreatDoorVPlus
import Derived.Test.YtgfkhnpbkdddbaaGreatDoorVSize
/- The trees that awake makes, and what is told of them. -/
/- What awake calls, at the worlds that it calls it in. -/
namespace Go.Proofs.YtgfkhnpbkdddbaaGreatDoor
open Go.RowKit

def cA : ByteArray := ⟨#[97]⟩
def cB : ByteArray := ⟨#[98]⟩
def cX : ByteArray := ⟨#[120]⟩
def cT : ByteArray := ⟨#[49, 48, 58, 48, 48, 58, 48, 48]⟩
def tA : VT := leafT 1 1 ⟨#[]⟩
def tB : VT := leafT 2 1 ⟨#[]⟩
def tN : VT := leafT 2 5 ⟨#[]⟩
def tX : VT := leafT 4 0 cX
def tT : VT := leafT 7 0 cT
def tM : VT := .mk 6 0 ⟨#[]⟩ [] [cA, cB] [tA, tB]
def tL : VT := .mk 5 0 ⟨#[]⟩ [tN, tX, tT, zeroT] [] []
theorem k_num : numR ⟨#[53]⟩ = tN ∧ numE ⟨#[53]⟩ = 0 := ⟨by kernel_rfl, by decide⟩
theorem k_teA : teI cA = 0 ∧ teI cB = 0 ∧ teI cX = 0 := by decide
theorem k_str : strR cX = tX := by kernel_rfl
theorem k_stamp : stampR cT = tT ∧ stampE cT = 0 := ⟨by kernel_rfl, by kernel_rfl⟩
theorem k_ke : keI [cA, cB] = 0 := by decide
theorem k_sz : szT tL = 5 ∧ hgT tL = 2 := by decide
theorem k_may : mayB 0 1 tM = true := by kernel_rfl
theorem k_same : sameT false tM tM = true ∧ sameT true tM tM = true ∧ sameT false tM tL = false := by decide
theorem k_get : getO tM cB = some tB := by kernel_rfl
/-- two pairs in order -/
theorem two_sorted (A : List (ByteArray × VT)) (hp : A.Perm [(cB, tB), (cA, tA)]) (hr : Rising A) : A = [(cA, tA), (cB, tB)] := by
  have h2 : A.length = 2 := hp.length_eq
  match A, h2 with
  | [x, y], _ =>
    have hx : x = (cB, tB) ∨ x = (cA, tA) := by have := hp.subset (show x ∈ [x, y] by simp); simpa using this
    have hlt : ltB cA.data.toList cB.data.toList = true := by decide
    rcases hx with rfl | rfl
    · have h1 := (List.perm_cons _).1 hp
      have hy : y = (cA, tA) := by have := h1.subset (show y ∈ [y] by simp); simpa using this
      subst hy
      have := hr 0 1 _ _ (by omega) rfl rfl
      rw [hlt] at this; cases this
    · have h1 : [y].Perm [(cB, tB)] := (List.perm_cons (cA, tA)).1 (hp.trans (List.Perm.swap _ _ _))
      have hy : y = (cB, tB) := by have := h1.subset (show y ∈ [y] by simp); simpa using this
      rw [hy]
end Go.Proofs.YtgfkhnpbkdddbaaGreatDoor
namespace Go.Proofs.YtgfkhnpbkdddbaaGreatDoor
open Go.RowKit

theorem hv_leafs (w : World) : HV w tA (.slice none 0 0) (.slice none 0 0) ∧ HV w tB (.slice none 0 0) (.slice none 0 0) ∧ HV w tN (.slice none 0 0) (.slice none 0 0) ∧ HV w tX (.slice none 0 0) (.slice none 0 0) ∧ HV w tT (.slice none 0 0) (.slice none 0 0) :=
  ⟨hv_leaf w _ _ _ (by decide) (by decide) (by decide), hv_leaf w _ _ _ (by decide) (by decide) (by decide), hv_leaf w _ _ _ (by decide) (by decide) (by decide), hv_leaf w _ _ _ (by decide) (by decide) (by decide), hv_leaf w _ _ _ (by decide) (by decide) (by decide)⟩
theorem two_map (w : World) : Calls Tryz.prog 25 #[.slice (some ⟨w.heap.size, 0, none⟩) 2 2] (w.alloc (.cells #[.string ⟨#[98]⟩, .int .i64 2, .int .i64 1, .string ⟨#[]⟩, .slice none 0 0, .slice none 0 0, .string ⟨#[97]⟩, .int .i64 1, .int .i64 1, .string ⟨#[]⟩, .slice none 0 0, .slice none 0 0] 42)) fun e w' => ∃ o1 n1 c1 o2 n2 c2, e = .returned (.tuple #[.agg #[.int .i64 6, .int .i64 0, .string ⟨#[]⟩, .slice o1 n1 c1, .slice o2 n2 c2], .int .i64 0]) ∧ HV w' tM (.slice o1 n1 c1) (.slice o2 n2 c2) ∧ Below w.heap.size w w' := by
  have hin := in_pairs w [(cB, tB, .slice none 0 0, .slice none 0 0), (cA, tA, .slice none 0 0, .slice none 0 0)] 42 (fun a ha => by
    simp only [List.mem_cons, List.not_mem_nil, or_false] at ha
    rcases ha with rfl | rfl
    · exact ⟨by decide, (hv_leafs w).2.1⟩
    · exact ⟨by decide, (hv_leafs w).1⟩) (by decide)
  refine (vmap_any [(cB, tB), (cA, tA)] _ w.heap.size 0 2 hin (by decide) (by decide)).mono ?_
  rintro e w' ⟨A', X, Y, hp, hr, rfl, hf, hb⟩
  obtain rfl := two_sorted A' hp hr
  have e1 : mapR [(cA, tA), (cB, tB)] = tM := by unfold mapR; rw [show keI ([(cA, tA), (cB, tB)].map (·.1)) = 0 from k_ke]; rfl
  rw [e1] at hf ⊢
  rw [show keI ([(cA, tA), (cB, tB)].map (·.1)) = 0 from k_ke]
  obtain ⟨o1, n1, c1, o2, n2, c2, rfl, rfl⟩ := hv_slices hf.hv
  exact ⟨o1, n1, c1, o2, n2, c2, rfl, hf.hv, vonto (valloc_bel (Below.refl _ _) _) hb⟩
/-- a leaf's five cells -/
def Leaf5 (w : World) (b o : Nat) (k n : Int) (s : ByteArray) : Prop := w.cell? ⟨b, o, none⟩ = some (.int .i64 k) ∧ w.cell? ⟨b, o + 1, none⟩ = some (.int .i64 n) ∧ w.cell? ⟨b, o + 2, none⟩ = some (.string s) ∧ w.cell? ⟨b, o + 3, none⟩ = some (.slice none 0 0) ∧ w.cell? ⟨b, o + 4, none⟩ = some (.slice none 0 0)
theorem four_list (b : Nat) (Y : World) (h0 : Leaf5 Y b 0 2 5 ⟨#[]⟩) (h1 : Leaf5 Y b 5 4 0 ⟨#[120]⟩) (h2 : Leaf5 Y b 10 7 0 ⟨#[49, 48, 58, 48, 48, 58, 48, 48]⟩) (h3 : Leaf5 Y b 15 0 0 ⟨#[]⟩) :
    Calls Tryz.prog 30 #[.slice (some ⟨b, 0, none⟩) 4 4] Y fun e w' => ∃ o n c, e = .returned (.agg #[.int .i64 5, .int .i64 0, .string ⟨#[]⟩, .slice o n c, .slice none 0 0]) ∧ HF w' Y.heap.size w'.heap.size tL (.slice o n c) (.slice none 0 0) ∧ Below Y.heap.size Y w' := by
  have hin : InL Y [tN, tX, tT, zeroT] (.slice (some ⟨b, 0, none⟩) 4 4) := by
    refine ⟨⟨b, 0, none⟩, fun _ => .slice none 0 0, fun _ => .slice none 0 0, ⟨_, _, rfl, by decide, by decide, fun _ => rfl⟩, fun i t ht => ?_, fun i t ht => ?_⟩
    · rw [add_at]
      match i, ht with
      | 0, ht => simp at ht; subst ht; exact h0
      | 1, ht => simp at ht; subst ht; exact h1
      | 2, ht => simp at ht; subst ht; exact h2
      | 3, ht => simp at ht; subst ht; exact h3
      | i + 4, ht => simp at ht
    · have hl := hv_leafs Y
      match i, ht with
      | 0, ht => simp at ht; subst ht; exact hl.2.2.1
      | 1, ht => simp at ht; subst ht; exact hl.2.2.2.1
      | 2, ht => simp at ht; subst ht; exact hl.2.2.2.2
      | 3, ht => simp at ht; subst ht; exact hv_zero Y
      | i + 4, ht => simp at ht
  refine (vlist_any [tN, tX, tT, zeroT] _ Y hin (by decide)).mono ?_
  rintro e w' ⟨X, rfl, hf, hb⟩
  obtain ⟨o1, n1, c1, o2, n2, c2, rfl, e2⟩ := hv_slices hf.hv
  exact ⟨o1, n1, c1, rfl, hf, hb⟩
/-- a fresh box -/
def Z5 (w : World) (b : Nat) : Prop := (w.cell? ⟨b, 0, none⟩ = some (.int .i64 0) ∧ w.cell? ⟨b, 1, none⟩ = some (.int .i64 0) ∧ w.cell? ⟨b, 2, none⟩ = some (.string ⟨#[]⟩) ∧ w.cell? ⟨b, 3, none⟩ = some (.slice none 0 0) ∧ w.cell? ⟨b, 4, none⟩ = some (.slice none 0 0)) ∧ ∀ o, w.frozen? ⟨b, o, none⟩ = false
theorem z5_new (w : World) : Z5 (w.alloc (.cells #[.int .i64 0, .int .i64 0, .string ⟨#[]⟩, .slice none 0 0, .slice none 0 0] 28)) w.heap.size := ⟨by simp, fun o => (Row.new w #[.int .i64 0, .int .i64 0, .string ⟨#[]⟩, .slice none 0 0, .slice none 0 0] 28).frozen o⟩
theorem Z5.onto {w w' : World} {b : Nat} (h : Z5 w b) (hb : Below w.heap.size w w') : Z5 w' b :=
  ⟨⟨keepCell hb h.1.1, keepCell hb h.1.2.1, keepCell hb h.1.2.2.1, keepCell hb h.1.2.2.2.1, keepCell hb h.1.2.2.2.2⟩, fun o => (hb.frozen (p := ⟨b, o, none⟩) (World.block_lt_of_cell? w ⟨b, 0, none⟩ h.1.1)).trans (h.2 o)⟩
theorem nullA (W : World) : Calls Tryz.prog 58 #[] (W.drew.alloc (.cells #[.int .i64 0, .int .i64 0, .string ⟨#[]⟩, .slice none 0 0, .slice none 0 0] 28)) fun e wn => e = .returned (.agg #[.int .i64 0, .int .i64 0, .string ⟨#[]⟩, .slice none 0 0, .slice none 0 0]) ∧ Below W.heap.size W wn ∧ Z5 wn W.heap.size ∧ W.heap.size < wn.heap.size :=
  (vnull_any _).mono fun _ _ ⟨he, hb⟩ => ⟨he, vonto (valloc_bel (Below.refl _ _).drew _) hb, (z5_new W.drew).onto hb, by have := hb.size; simp at this; omega⟩
theorem nullD (W : World) : Calls Tryz.prog 58 #[] W.drew fun e wn => e = .returned (.agg #[.int .i64 0, .int .i64 0, .string ⟨#[]⟩, .slice none 0 0, .slice none 0 0]) ∧ Below W.heap.size W wn :=
  (vnull_any _).mono fun _ _ ⟨he, hb⟩ => ⟨he, vonto (Below.refl _ _).drew hb⟩
theorem l20 (w : World) : Leaf5 (w.alloc (.cells #[.int .i64 2, .int .i64 5, .string ⟨#[]⟩, .slice none 0 0, .slice none 0 0, .int .i64 4, .int .i64 0, .string ⟨#[120]⟩, .slice none 0 0, .slice none 0 0, .int .i64 7, .int .i64 0, .string ⟨#[49, 48, 58, 48, 48, 58, 48, 48]⟩, .slice none 0 0, .slice none 0 0, .int .i64 0, .int .i64 0, .string ⟨#[]⟩, .slice none 0 0, .slice none 0 0] 28)) w.heap.size 0 2 5 ⟨#[]⟩ ∧ Leaf5 (w.alloc (.cells #[.int .i64 2, .int .i64 5, .string ⟨#[]⟩, .slice none 0 0, .slice none 0 0, .int .i64 4, .int .i64 0, .string ⟨#[120]⟩, .slice none 0 0, .slice none 0 0, .int .i64 7, .int .i64 0, .string ⟨#[49, 48, 58, 48, 48, 58, 48, 48]⟩, .slice none 0 0, .slice none 0 0, .int .i64 0, .int .i64 0, .string ⟨#[]⟩, .slice none 0 0, .slice none 0 0] 28)) w.heap.size 5 4 0 ⟨#[120]⟩ ∧ Leaf5 (w.alloc (.cells #[.int .i64 2, .int .i64 5, .string ⟨#[]⟩, .slice none 0 0, .slice none 0 0, .int .i64 4, .int .i64 0, .string ⟨#[120]⟩, .slice none 0 0, .slice none 0 0, .int .i64 7, .int .i64 0, .string ⟨#[49, 48, 58, 48, 48, 58, 48, 48]⟩, .slice none 0 0, .slice none 0 0, .int .i64 0, .int .i64 0, .string ⟨#[]⟩, .slice none 0 0, .slice none 0 0] 28)) w.heap.size 10 7 0 ⟨#[49, 48, 58, 48, 48, 58, 48, 48]⟩ ∧ Leaf5 (w.alloc (.cells #[.int .i64 2, .int .i64 5, .string ⟨#[]⟩, .slice none 0 0, .slice none 0 0, .int .i64 4, .int .i64 0, .string ⟨#[120]⟩, .slice none 0 0, .slice none 0 0, .int .i64 7, .int .i64 0, .string ⟨#[49, 48, 58, 48, 48, 58, 48, 48]⟩, .slice none 0 0, .slice none 0 0, .int .i64 0, .int .i64 0, .string ⟨#[]⟩, .slice none 0 0, .slice none 0 0] 28)) w.heap.size 15 0 0 ⟨#[]⟩ :=
  ⟨⟨by simp, by simp, by simp, by simp, by simp⟩, ⟨by simp, by simp, by simp, by simp, by simp⟩, ⟨by simp, by simp, by simp, by simp, by simp⟩, ⟨by simp, by simp, by simp, by simp, by simp⟩⟩
theorem Leaf5.onto {w w' : World} {b o : Nat} {k n : Int} {s : ByteArray} (h : Leaf5 w b o k n s) (hb : Below w.heap.size w w') : Leaf5 w' b o k n s := ⟨keepCell hb h.1, keepCell hb h.2.1, keepCell hb h.2.2.1, keepCell hb h.2.2.2.1, keepCell hb h.2.2.2.2⟩
theorem listB (wn : World) : Calls Tryz.prog 30 #[.slice (some ⟨wn.heap.size + 1, 0, none⟩) 4 4] ((wn.alloc (.cells #[.int .i64 0, .int .i64 0, .string ⟨#[]⟩, .slice none 0 0, .slice none 0 0] 28)).alloc (.cells #[.int .i64 2, .int .i64 5, .string ⟨#[]⟩, .slice none 0 0, .slice none 0 0, .int .i64 4, .int .i64 0, .string ⟨#[120]⟩, .slice none 0 0, .slice none 0 0, .int .i64 7, .int .i64 0, .string ⟨#[49, 48, 58, 48, 48, 58, 48, 48]⟩, .slice none 0 0, .slice none 0 0, .int .i64 0, .int .i64 0, .string ⟨#[]⟩, .slice none 0 0, .slice none 0 0] 28)) fun e wl => ∃ o n c, e = .returned (.agg #[.int .i64 5, .int .i64 0, .string ⟨#[]⟩, .slice o n c, .slice none 0 0]) ∧ HF wl (wn.heap.size + 2) wl.heap.size tL (.slice o n c) (.slice none 0 0) ∧ Below wn.heap.size wn wl ∧ Z5 wl wn.heap.size := by
  have h := l20 (wn.alloc (.cells #[.int .i64 0, .int .i64 0, .string ⟨#[]⟩, .slice none 0 0, .slice none 0 0] 28))
  rw [World.size_alloc] at h
  refine (four_list _ _ h.1 h.2.1 h.2.2.1 h.2.2.2).mono ?_
  rintro e wl ⟨o, n, c, rfl, hv, hb⟩
  exact ⟨o, n, c, rfl, hv.wide (by simp) (Nat.le_refl _), vonto (valloc_bel (valloc_bel (Below.refl _ _) _) _) hb, ((z5_new wn).onto (valloc_bel (Below.refl _ _) _)).onto hb⟩
theorem listC (wn : World) : Calls Tryz.prog 30 #[.slice (some ⟨wn.heap.size, 0, none⟩) 4 4] ((wn.alloc (.cells #[.int .i64 2, .int .i64 5, .string ⟨#[]⟩, .slice none 0 0, .slice none 0 0, .int .i64 4, .int .i64 0, .string ⟨#[120]⟩, .slice none 0 0, .slice none 0 0, .int .i64 7, .int .i64 0, .string ⟨#[49, 48, 58, 48, 48, 58, 48, 48]⟩, .slice none 0 0, .slice none 0 0, .int .i64 0, .int .i64 0, .string ⟨#[]⟩, .slice none 0 0, .slice none 0 0] 28)).alloc (.cells #[.int .i64 0, .int .i64 0, .string ⟨#[]⟩, .slice none 0 0, .slice none 0 0] 28)) fun e wl => ∃ o n c, e = .returned (.agg #[.int .i64 5, .int .i64 0, .string ⟨#[]⟩, .slice o n c, .slice none 0 0]) ∧ HF wl (wn.heap.size + 2) wl.heap.size tL (.slice o n c) (.slice none 0 0) ∧ Below wn.heap.size wn wl ∧ Z5 wl (wn.heap.size + 1) := by
  have h := l20 wn
  have hb0 := valloc_bel (Below.refl _ (wn.alloc (.cells #[.int .i64 2, .int .i64 5, .string ⟨#[]⟩, .slice none 0 0, .slice none 0 0, .int .i64 4, .int .i64 0, .string ⟨#[120]⟩, .slice none 0 0, .slice none 0 0, .int .i64 7, .int .i64 0, .string ⟨#[49, 48, 58, 48, 48, 58, 48, 48]⟩, .slice none 0 0, .slice none 0 0, .int .i64 0, .int .i64 0, .string ⟨#[]⟩, .slice none 0 0, .slice none 0 0] 28))) (.cells #[.int .i64 0, .int .i64 0, .string ⟨#[]⟩, .slice none 0 0, .slice none 0 0] 28)
  have hz := z5_new (wn.alloc (.cells #[.int .i64 2, .int .i64 5, .string ⟨#[]⟩, .slice none 0 0, .slice none 0 0, .int .i64 4, .int .i64 0, .string ⟨#[120]⟩, .slice none 0 0, .slice none 0 0, .int .i64 7, .int .i64 0, .string ⟨#[49, 48, 58, 48, 48, 58, 48, 48]⟩, .slice none 0 0, .slice none 0 0, .int .i64 0, .int .i64 0, .string ⟨#[]⟩, .slice none 0 0, .slice none 0 0] 28))
  rw [World.size_alloc] at hz
  refine (four_list _ _ (h.1.onto hb0) (h.2.1.onto hb0) (h.2.2.1.onto hb0) (h.2.2.2.onto hb0)).mono ?_
  rintro e wl ⟨o, n, c, rfl, hv, hb⟩
  exact ⟨o, n, c, rfl, hv.wide (by simp) (Nat.le_refl _), vonto (valloc_bel (valloc_bel (Below.refl _ _) _) _) hb, hz.onto hb⟩
theorem listD (wn : World) : Calls Tryz.prog 30 #[.slice (some ⟨wn.heap.size, 0, none⟩) 4 4] (wn.alloc (.cells #[.int .i64 2, .int .i64 5, .string ⟨#[]⟩, .slice none 0 0, .slice none 0 0, .int .i64 4, .int .i64 0, .string ⟨#[120]⟩, .slice none 0 0, .slice none 0 0, .int .i64 7, .int .i64 0, .string ⟨#[49, 48, 58, 48, 48, 58, 48, 48]⟩, .slice none 0 0, .slice none 0 0, .int .i64 0, .int .i64 0, .string ⟨#[]⟩, .slice none 0 0, .slice none 0 0] 28)) fun e wl => ∃ o n c, e = .returned (.agg #[.int .i64 5, .int .i64 0, .string ⟨#[]⟩, .slice o n c, .slice none 0 0]) ∧ HF wl (wn.heap.size + 1) wl.heap.size tL (.slice o n c) (.slice none 0 0) ∧ Below wn.heap.size wn wl ∧ (∀ b o, b < wn.heap.size → wl.cell? ⟨b, o, none⟩ = wn.cell? ⟨b, o, none⟩) ∧ ∀ b o, b < wn.heap.size → wl.frozen? ⟨b, o, none⟩ = wn.frozen? ⟨b, o, none⟩ := by
  have h := l20 wn
  refine (four_list _ _ h.1 h.2.1 h.2.2.1 h.2.2.2).mono ?_
  rintro e wl ⟨o, n, c, rfl, hv, hb⟩
  have hbl := vonto (valloc_bel (Below.refl _ _) _) hb
  exact ⟨o, n, c, rfl, hv.wide (by simp) (Nat.le_refl _), hbl, (vkeeps hbl).1, (vkeeps hbl).2⟩
theorem z5_put {w : World} {b : Nat} (h : Z5 w b) (T : VT) (x y : Value) : Node (put5 w b 0 (.int .i64 T.kd) (.int .i64 T.nm) (.string T.st) x y) ⟨b, 0, none⟩ T x y := by
  unfold put5
  refine ⟨?_, ?_, ?_, ?_, ?_⟩
  · rw [set_other _ _ _ _ _ _ (Or.inr (by omega)), set_other _ _ _ _ _ _ (Or.inr (by omega)), set_other _ _ _ _ _ _ (Or.inr (by omega)), set_other _ _ _ _ _ _ (Or.inr (by omega))]
    exact World.cell?_setCell_same _ _ _ h.1.1
  · show World.cell? _ ⟨b, 0 + 1, none⟩ = _
    rw [set_other _ _ _ _ _ _ (Or.inr (by omega)), set_other _ _ _ _ _ _ (Or.inr (by omega)), set_other _ _ _ _ _ _ (Or.inr (by omega))]
    exact World.cell?_setCell_same _ _ _ ((set_other _ _ _ _ _ _ (Or.inr (by omega))).trans h.1.2.1)
  · show World.cell? _ ⟨b, 0 + 2, none⟩ = _
    rw [set_other _ _ _ _ _ _ (Or.inr (by omega)), set_other _ _ _ _ _ _ (Or.inr (by omega))]
    exact World.cell?_setCell_same _ _ _ ((set_other _ _ _ _ _ _ (Or.inr (by omega))).trans ((set_other _ _ _ _ _ _ (Or.inr (by omega))).trans h.1.2.2.1))
  · show World.cell? _ ⟨b, 0 + 3, none⟩ = _
    rw [set_other _ _ _ _ _ _ (Or.inr (by omega))]
    exact World.cell?_setCell_same _ _ _ ((set_other _ _ _ _ _ _ (Or.inr (by omega))).trans ((set_other _ _ _ _ _ _ (Or.inr (by omega))).trans ((set_other _ _ _ _ _ _ (Or.inr (by omega))).trans h.1.2.2.2.1)))
  · show World.cell? _ ⟨b, 0 + 4, none⟩ = _
    exact World.cell?_setCell_same _ _ _ ((set_other _ _ _ _ _ _ (Or.inr (by omega))).trans ((set_other _ _ _ _ _ _ (Or.inr (by omega))).trans ((set_other _ _ _ _ _ _ (Or.inr (by omega))).trans ((set_other _ _ _ _ _ _ (Or.inr (by omega))).trans h.1.2.2.2.2))))
/-- the list, put into a box that was there -/
theorem l9_put {wl : World} {b lo : Nat} {o : Option Addr} {n c : Nat} (h : Z5 wl b) (hb : b < lo) (hf : HF wl lo wl.heap.size tL (.slice o n c) (.slice none 0 0)) : Bx (put5 wl b 0 (.int .i64 5) (.int .i64 0) (.string ⟨#[]⟩) (.slice o n c) (.slice none 0 0)) b tL (.slice o n c) (.slice none 0 0) :=
  ⟨z5_put h tL _ _, (hf.onto (fun k g1 g2 => put5_heap _ _ _ _ _ _ _ _ _ (by omega))).hv⟩
end Go.Proofs.YtgfkhnpbkdddbaaGreatDoor
