/- value.copyList, walked over what Copy does to each part. -/
import Derived.Test.YtnpojefcibfgkabGreatDoorVRow
import Derived.Deep.LoopGhost
namespace Go.Proofs.YtnpojefcibfgkabGreatDoor
open Go.RowKit

/-- what Copy does to a tree -/
def CopyOk (t : VT) : Prop := ∀ (x y : Value) (w : World), HV w t x y → Calls Tryz.prog 20 #[vv t x y] w fun e w' => ∃ X Y, e = .returned (vv t X Y) ∧ HF w' w.heap.size w'.heap.size t X Y ∧ Below w.heap.size w w'
/-- what has been copied so far -/
def Part (w : World) (b : Nat) (L : List VT) (j : Nat) : Prop := ∃ (l : Nat → Nat) (f g : Nat → Value), b < l 0 ∧ l j ≤ w.heap.size ∧ (∀ i k, i ≤ k → k ≤ j → l i ≤ l k) ∧
  (∀ i t, i < j → L[i]? = some t → Node w ⟨b, i * 5, none⟩ t (f i) (g i)) ∧ (∀ i t, i < j → L[i]? = some t → HF w (l i) (l (i + 1)) t (f i) (g i))
theorem part_next {w w1 : World} {b : Nat} {L : List VT} {j : Nat} {t : VT} {X Y : Value} (hp : Part w b L j) (hb : Below w.heap.size w w1) (ht : L[j]? = some t) (hr : Row w1 b 26 (L.length * 5)) (lo : Nat) (hlo : w.heap.size ≤ lo) (hf : HF w1 lo w1.heap.size t X Y) :
    Part (put5 w1 b (j * 5) (.int .i64 t.kd) (.int .i64 t.nm) (.string t.st) X Y) b L (j + 1) := by
  obtain ⟨l, f, g, h0, h1, h2, h3, h4⟩ := hp
  have hj := lt_of_some ht
  have hs := hb.size
  refine ⟨fun i => if i ≤ j then l i else w1.heap.size, fun i => if i = j then X else f i, fun i => if i = j then Y else g i, ?_, ?_, ?_, ?_, ?_⟩
  · simpa using h0
  · rw [put5_size]; show (if j + 1 ≤ j then l (j + 1) else w1.heap.size) ≤ _; rw [if_neg (by omega)]; exact Nat.le_refl _
  · intro i k hik hk
    show (if i ≤ j then l i else w1.heap.size) ≤ (if k ≤ j then l k else w1.heap.size)
    by_cases hkj : k ≤ j
    · rw [if_pos hkj, if_pos (by omega)]; exact h2 i k hik hkj
    · rw [if_neg hkj]
      by_cases hij : i ≤ j
      · rw [if_pos hij]; have := h2 i j hij (Nat.le_refl _); omega
      · rw [if_neg hij]; exact Nat.le_refl _
  · intro i u hi hu
    show Node _ _ _ (if i = j then X else f i) (if i = j then Y else g i)
    by_cases hij : i = j
    · subst hij
      rw [ht] at hu; cases hu
      rw [if_pos rfl, if_pos rfl]
      exact put5_node hr _ (by omega) t X Y
    · rw [if_neg hij, if_neg hij]
      refine node_at ((h3 i u (by omega) hu).onto hb) (fun c hc => put5_other _ _ _ _ _ _ _ _ _ (by omega))
  · intro i u hi hu
    show HF _ (if i ≤ j then l i else w1.heap.size) (if i + 1 ≤ j then l (i + 1) else w1.heap.size) u (if i = j then X else f i) (if i = j then Y else g i)
    by_cases hij : i = j
    · subst hij
      rw [ht] at hu; cases hu
      rw [if_pos rfl, if_pos rfl, if_pos (Nat.le_refl _), if_neg (by omega)]
      have hm := h2 0 i (Nat.zero_le _) (Nat.le_refl _)
      exact (hf.wide (show l i ≤ lo by omega) (Nat.le_refl _)).onto (fun k g1 g2 => put5_heap _ _ _ _ _ _ _ _ _ (by omega))
    · rw [if_neg hij, if_neg hij, if_pos (by omega), if_pos (by omega)]
      have hm := h2 0 i (Nat.zero_le _) (by omega)
      have hn := h2 (i + 1) j (by omega) (Nat.le_refl _)
      exact (h4 i u (by omega) hu).onto (fun k g1 g2 => by rw [put5_heap _ _ _ _ _ _ _ _ _ (by omega)]; exact hb.block k (by omega))
theorem part_done {w : World} {b : Nat} {L : List VT} (hp : Part w b L L.length) (hl : L.length ≤ 1000000) (lo : Nat) (hlo : lo ≤ b) : LF w lo w.heap.size L (.slice (some ⟨b, 0, none⟩) L.length L.length) := by
  obtain ⟨l, f, g, h0, h1, h2, h3, h4⟩ := hp
  exact ⟨b, l, f, g, ⟨_, _, rfl, Nat.le_refl _, by unfold maxLen; omega, fun _ => rfl⟩, fun _ => ⟨hlo, h0, h1⟩, h2, fun i t h => by rw [add_at]; exact h3 i t (lt_of_some h) h, fun i t h => h4 i t (lt_of_some h) h⟩
set_option maxRecDepth 100000 in
set_option maxHeartbeats 1000000 in
theorem copylist_of (L : List VT) (x : Value) (w : World) (hC : ∀ (i : Nat) (t : VT), L[i]? = some t → CopyOk t) (hx : InL w L x) (hl : L.length ≤ 1000000) :
    Calls Tryz.prog 36 #[x] w fun e w' => ∃ X, e = .returned X ∧ LF w' w.heap.size w'.heap.size L X ∧ Below w.heap.size w w' := by
  obtain ⟨a, f, g, ⟨o, cap, rfl, hn1, hn2, ho⟩, cL, rL⟩ := hx
  unfold maxLen at hn2
  by_cases h0 : L.length = 0
  · have hL : L = [] := List.length_eq_zero_iff.1 h0
    subst hL
    go_enter Tryz.func36, Tryz.ntmps36
    go_wp2_with fail
    go_ret
    exact ⟨_, rfl, lf_nil _ _ _, Below.refl _ _⟩
  · obtain rfl := ho (by omega)
    have hmk := Tryz.made27 L.length hl
    have hne : ((L.length : Int) == 0) = false := by rw [beq_eq_false_iff_ne]; omega
    have HC := hid hC
    have H0 := hid h0
    clear hC h0
    go_enter Tryz.func36, Tryz.ntmps36
    go_wp2_with fail
    have hz : (madeCells #[.int .i64 0, .int .i64 0, .string ⟨#[]⟩, .slice none 0 0, .slice none 0 0] (L.length * 5)).size = L.length * 5 := size_madeCells _ _
    have HNEW := hid (Row.new w (madeCells #[.int .i64 0, .int .i64 0, .string ⟨#[]⟩, .slice none 0 0, .slice none 0 0] (L.length * 5)) 26)
    rw [hz] at HNEW
    clear hz
    generalize madeCells #[.int .i64 0, .int .i64 0, .string ⟨#[]⟩, .slice none 0 0, .slice none 0 0] (L.length * 5) = cells at HNEW ⊢
    clear hmk
    go_loopw [14] (fun i wr => ∃ j : Nat, j ≤ L.length ∧ i = .int .i64 j ∧ Below w.heap.size w wr ∧ Hid (Row wr w.heap.size 26 (L.length * 5)) ∧ Hid (Part wr w.heap.size L j)) (fun i _ => L.length - (intOf i).toNat)
    case atStart =>
      exact ⟨0, Nat.zero_le _, rfl, (Below.refl _ _).alloc (Nat.le_refl _) _, HNEW, ⟨fun _ => w.heap.size + 1, fun _ => .nilIface, fun _ => .nilIface, Nat.lt_succ_self _, by simp, fun _ _ _ _ => Nat.le_refl _, fun i t h => absurd h (Nat.not_lt_zero _), fun i t h => absurd h (Nat.not_lt_zero _)⟩⟩
    case round =>
      obtain ⟨j, hj, rfl, hbw, HRow, HPart⟩ := hrel
      by_cases hlt : j < L.length
      · obtain ⟨t, ht⟩ : ∃ t, L[j]? = some t := ⟨L[j], List.getElem?_eq_getElem hlt⟩
        obtain ⟨d0, d1, d2, d3, d4⟩ := (cL j t ht).onto hbw
        obtain ⟨o1, n1, c1, o2, n2, c2, hp, hq⟩ := hv_slices (rL j t ht)
        have HR := hid ((rL j t ht).onto hbw)
        rw [hp, hq] at HR
        rw [hp] at d3
        rw [hq] at d4
        clear hp hq
        have HSTEP : Hid (∀ X : World, Below wr.heap.size wr X → Calls Tryz.prog 20 #[vv t (.slice o1 n1 c1) (.slice o2 n2 c2)] X fun e w1 => ∃ X' Y', e = .returned (vv t X' Y') ∧ HF w1 wr.heap.size w1.heap.size t X' Y' ∧ Below wr.heap.size wr w1) :=
          fun X hX => (HC.out j t ht _ _ X (HR.out.onto hX)).mono fun e w1 ⟨X', Y', he, hf, hb⟩ => ⟨X', Y', he, hf.wide hX.size (Nat.le_refl _), vonto hX hb⟩
        simp only [vv] at HSTEP
        have hbs : w.heap.size < wr.heap.size := HRow.out.lt
        go_wp2_with fail
        go_at_call 20
        refine (HSTEP.out _ ?_).mono ?_
        · repeat (first | exact Below.refl _ _ | apply valloc_bel | (refine vset_bel ?_ (by simp)))
        rintro e w1 ⟨X, Y, rfl, hf1, hb1⟩
        obtain ⟨p1, m1, k1, p2, m2, k2, rfl, rfl⟩ := hv_slices hf1.hv
        have HF1 := hid hf1
        clear hf1
        have HR1 := hid (HRow.out.onto (hb1.block _ hbs))
        obtain ⟨u0, e0⟩ := HR1.out.cell (o := j * 5) (by omega)
        obtain ⟨u1, e1⟩ := HR1.out.cell (o := j * 5 + 1) (by omega)
        obtain ⟨u2, e2⟩ := HR1.out.cell (o := j * 5 + 2) (by omega)
        obtain ⟨u3, e3⟩ := HR1.out.cell (o := j * 5 + 3) (by omega)
        obtain ⟨u4, e4⟩ := HR1.out.cell (o := j * 5 + 4) (by omega)
        have z0 := HR1.out.frozen
        go_wp2_with fail
        go_roundw
        case rel => exact ⟨j + 1, hlt, val_int (by omega), vset_bel (vset_bel (vset_bel (vset_bel (vset_bel (vonto hbw hb1) (Nat.le_refl _)) (Nat.le_refl _)) (Nat.le_refl _)) (Nat.le_refl _)) (Nat.le_refl _), put5_row HR1.out _ _ _ _ _ _ _, part_next HPart.out hb1 ht HR1.out _ (Nat.le_refl _) HF1.out⟩
        case measure => simp [intOf]; omega
      · have hjL : j = L.length := by omega
        subst hjL
        go_wp2_with fail
        go_ret
        exact ⟨_, rfl, part_done HPart.out hl _ (Nat.le_refl _), hbw⟩
end Go.Proofs.YtnpojefcibfgkabGreatDoor
