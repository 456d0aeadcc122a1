/- jlex.Cut: walked. -/
import Derived.Test.YtoamndiblckdlaaGreatDoorJxH
import Derived.Test.YtoamndiblckdlaaGreatDoorJxC
import Derived.Test.YtoamndiblckdlaaGreatDoorLexG
namespace Go.Proofs.YtoamndiblckdlaaGreatDoor
open Go.RowKit

theorem blank_run {T : List UInt8} {i : Nat} (hi : i < T.length) (h : blB T[i] = true) : run blB (T.drop i) = run blB (T.drop (i + 1)) + 1 := by
  rw [List.drop_eq_getElem_cons hi]
  unfold run; rw [List.takeWhile_cons, if_pos h, List.length_cons]
theorem blank_stop {T : List UInt8} {i : Nat} (hi : i < T.length) (h : blB T[i] = false) : run blB (T.drop i) = 0 := by
  rw [List.drop_eq_getElem_cons hi]
  unfold run; rw [List.takeWhile_cons, if_neg (by simp [h])]; rfl
theorem at_q {T : List UInt8} {i : Nat} (hi : i < T.length) : T[i]? = some T[i] := List.getElem?_eq_getElem hi
/-- a row of blanks is passed at once -/
theorem lx_row {T : List UInt8} {acc : List Wd} : ∀ (n i f : Nat), i + n = T.length → T.length < i + f →
    ∃ f', lx T f i acc = lx T f' (i + run blB (T.drop i)) acc ∧ T.length < i + run blB (T.drop i) + f' ∧ i + run blB (T.drop i) ≤ T.length ∧ ∀ b, T[i + run blB (T.drop i)]? = some b → blB b = false
  | 0, i, f, h, hf => by
    have hr : run blB (T.drop i) = 0 := by rw [List.drop_of_length_le (by omega)]; rfl
    rw [hr]; exact ⟨f, rfl, by omega, by omega, fun b hb => by rw [List.getElem?_eq_none (by omega)] at hb; cases hb⟩
  | n + 1, i, f, h, hf => by
    have hi : i < T.length := by omega
    cases hb : blB T[i] with
    | false =>
      rw [blank_stop hi hb]
      exact ⟨f, rfl, by omega, by omega, fun b hbb => by rw [Nat.add_zero, at_q hi] at hbb; injection hbb with e; rw [← e]; exact hb⟩
    | true =>
      have hw := lw_bl (at_q hi) hb
      obtain ⟨f1, h1, h2⟩ := lx_blank (acc := acc) hf hi (by rw [hw]) (by rw [hw]) (by rw [hw]; exact Nat.lt_succ_self _)
      rw [hw] at h1 h2
      obtain ⟨f2, h3, h4, h5, h6⟩ := lx_row (acc := acc) n (i + 1) f1 (by omega) h2
      have e : i + run blB (T.drop i) = i + 1 + run blB (T.drop (i + 1)) := by rw [blank_run hi hb]; omega
      rw [e]
      exact ⟨f2, h1.trans h3, h4, h5, h6⟩
/-- a word that is right is no blank, and goes on behind its beginning -/
theorem lw_good {T : List UInt8} {i : Nat} {b : UInt8} (hT : T[i]? = some b) (hbl : blB b = false) (he : (lw T i).er = 0) : (lw T i).kd ≠ 9 ∧ i < (lw T i).nx ∧ (lw T i).nx ≤ T.length := by
  have hi : i < T.length := (List.getElem?_eq_some_iff.1 hT).1
  cases hsg : sgnB b with
  | true => rw [lw_sg hT hbl hsg]; exact ⟨by simp, by simp, hi⟩
  | false =>
    by_cases hq : b.toNat = 34
    · have e := lw_qt hT hbl hsg hq
      rw [e] at he ⊢
      unfold lwS at he ⊢
      by_cases h0 : 0 ≤ (unqJ T i).2.2
      · rw [if_pos h0] at he; simp at he
      · rw [if_neg h0] at he ⊢
        by_cases h4 : 4096 < (unqJ T i).1.length
        · rw [if_pos h4] at he; simp at he
        · rw [if_neg h4]
          exact ⟨by simp, unqJ_in T i (by omega)⟩
    · cases hn : numS b with
      | true =>
        have e := lw_nm hT hbl hsg hq hn
        rw [e] at he ⊢
        rcases lwN_ne T i _ rfl with ⟨-, h1⟩ | ⟨h0, h1, h2⟩
        · rw [h1]
          have hp := run_pos hT (num_sc hn)
          have hl := run_le numC (T.drop i)
          rw [List.length_drop] at hl
          exact ⟨by simp, by simp only; omega, by simp only; omega⟩
        · rw [h2] at he; simp only at he; omega
      | false =>
        have e := lw_lt hT hbl hsg hq hn
        rw [e] at he ⊢
        unfold lwL at he ⊢
        cases hl : litB ((T.drop i).take (run lowC (T.drop i))) with
        | false => rw [hl] at he; simp at he
        | true =>
          rw [if_pos rfl]
          have hr := run_le lowC (T.drop i)
          rw [List.length_drop] at hr
          have h0 : 0 < run lowC (T.drop i) := by
            rcases Nat.eq_zero_or_pos (run lowC (T.drop i)) with h | h
            · rw [h, List.take_zero] at hl; exact absurd hl (by decide)
            · exact h
          exact ⟨by simp, by simp only; omega, by simp only; omega⟩
theorem Tryz.infoJW : (Tryz.prog.info? 37).map (fun i => (i.zero, i.size, i.bytes)) = some (some (.agg #[.int .i64 0, .string ⟨#[]⟩, .int .i64 0]), 3, 32) := by kernel_rfl
theorem Tryz.jmade_own (w : World) (base : Nat) (hb : base ≤ w.heap.size) : (w.alloc (.cells #[] 37)).ownsRow base 37 3 (.slice (some ⟨w.heap.size, 0, none⟩) 0 0) 0 [] := by
  obtain ⟨i, hi, hz, hs, hb'⟩ := info_parts Tryz.infoJW
  obtain ⟨w', h1, h2, -⟩ := run_make_own (P := Tryz.prog) w base 23 37 i _ 3 Tryz.underlying23 hi hz hs .i64 .i64 0 (by omega) (Nat.zero_le _) hb
  have h3 : (Instr.makeSlice 23 (.int .i64 0) (.int .i64 0)).run Tryz.prog w = .ok (.slice (some ⟨w.heap.size, 0, none⟩) 0 0) (w.alloc (.cells #[] 37)) := by
    have := run_make (P := Tryz.prog) w 23 37 i _ Tryz.underlying23 hi hz .i64 .i64 0 0 (by omega) (Int.le_refl _) (by rw [hb']; omega) (by omega)
    rw [hs, show (0 : Int).toNat * 3 = 0 from rfl, show ∀ z : Array Value, madeCells z 0 = #[] from fun z => by simp [madeCells]] at this
    exact this
  have h4 := h1.symm.trans h3
  injection h4 with _ h5
  rw [← h5]; exact h2
/-- the world with the fault's box -/
def Tryz.jbW (w : World) : World := w.alloc (.cells #[.int .i64 0, .int .i64 0, .int .i64 0, .int .i64 0] 26)
theorem Tryz.jb_size (w : World) : (Tryz.jbW w).heap.size = w.heap.size + 1 := by unfold Tryz.jbW; simp
theorem Tryz.jb_bel (w : World) : Below w.heap.size w (Tryz.jbW w) := (Below.refl _ _).alloc (Nat.le_refl _) _
theorem Tryz.jb_keeps {w wr : World} (h : Below (Tryz.jbW w).heap.size (Tryz.jbW w) wr) : wr.cell? ⟨w.heap.size, 0, none⟩ = some (.int .i64 0) ∧ wr.cell? ⟨w.heap.size, 1, none⟩ = some (.int .i64 0) ∧ wr.cell? ⟨w.heap.size, 2, none⟩ = some (.int .i64 0) ∧ wr.cell? ⟨w.heap.size, 3, none⟩ = some (.int .i64 0) ∧ (∀ o, wr.frozen? ⟨w.heap.size, o, none⟩ = false) ∧ w.heap.size < wr.heap.size := by
  have hs := Tryz.jb_size w
  have h0 := h.size
  have k0 : ∀ i u, ([.int .i64 0, .int .i64 0, .int .i64 0, .int .i64 0] : List Value)[i]? = some u → wr.cell? (Addr.add ⟨w.heap.size, 0, none⟩ i) = some u := fun i u hi => by
    have e := new_cells w [.int .i64 0, .int .i64 0, .int .i64 0, .int .i64 0] 26 i u hi
    rw [h.cell (World.block_lt_of_cell? _ _ e)]; exact e
  exact ⟨k0 0 _ rfl, k0 1 _ rfl, k0 2 _ rfl, k0 3 _ rfl, fun o => (h.frozen (by rw [hs]; show w.heap.size < _; omega)).trans (by unfold Tryz.jbW; rw [World.frozen?_alloc_at _ _ _ _ rfl]), by omega⟩
theorem Tryz.jb_onto {w wr w2 : World} (h : Below (Tryz.jbW w).heap.size (Tryz.jbW w) wr) (g : Below wr.heap.size wr w2) : Below (Tryz.jbW w).heap.size (Tryz.jbW w) w2 := h.trans (g.mono h.size)
theorem set4 {B b : Nat} {a w : World} {x1 x2 x3 x4 : Value} (h : Below B a w) (hb : B ≤ b) :
    Below B a ((((w.setCell ⟨b, 0, none⟩ x1).setCell ⟨b, 1, none⟩ x2).setCell ⟨b, 2, none⟩ x3).setCell ⟨b, 3, none⟩ x4) :=
  (((h.setCell hb _).setCell hb _).setCell hb _).setCell hb _
theorem jbad {w w' : World} {t : ByteArray} {R : List Wd × Nat × Nat} {e a : Nat} (hR : R = ([], e, a)) (he : e ≠ 0) {V : Value} (hV : faultV t (a : Nat) (e : Nat) = V) (hb : Below w.heap.size w w') :
    ∃ v, Ending.returned (.tuple #[.slice none 0 0, V]) = .returned (.tuple #[v, jfV t R]) ∧ InW w' R.1 v ∧ Below w.heap.size w w' := by
  subst hR hV
  refine ⟨.slice none 0 0, ?_, ?_, hb⟩
  · unfold jfV; rw [if_neg he]
  · exact ⟨none, ⟨0, 0, none⟩, 0, rfl, Nat.le_refl _, Nat.zero_le _, fun h => absurd h (by simp), fun i s h => by simp at h⟩
theorem Tryz.jb_low {w wr : World} (h : Below (Tryz.jbW w).heap.size (Tryz.jbW w) wr) : Below w.heap.size w wr := (Tryz.jb_bel w).trans (h.mono (by rw [Tryz.jb_size]; omega))
theorem jb_kept {w wr w9 : World} {ty : TypeId} {v : Value} {n : Nat} {xs : List Value} {x1 x2 x3 x4 : Value} (ho : wr.ownsRow (w.heap.size + 1) ty 3 v n xs) (h9 : w9 = (((wr.setCell ⟨w.heap.size, 0, none⟩ x1).setCell ⟨w.heap.size, 1, none⟩ x2).setCell ⟨w.heap.size, 2, none⟩ x3).setCell ⟨w.heap.size, 3, none⟩ x4) : w9.ownsRow w.heap.size ty 3 v n xs := by
  subst h9
  have h1 : wr.grownBy ((((wr.setCell ⟨w.heap.size, 0, none⟩ x1).setCell ⟨w.heap.size, 1, none⟩ x2).setCell ⟨w.heap.size, 2, none⟩ x3).setCell ⟨w.heap.size, 3, none⟩ x4) (some w.heap.size) := by
    refine ⟨rfl, rfl, rfl, by simp, fun k hk hne => ?_⟩
    rw [Below.heap_setCell _ _ _ _ (fun e => hne (by rw [e])), Below.heap_setCell _ _ _ _ (fun e => hne (by rw [e])), Below.heap_setCell _ _ _ _ (fun e => hne (by rw [e])), Below.heap_setCell _ _ _ _ (fun e => hne (by rw [e]))]
  exact World.ownsRow.mono (World.ownsRow.kept ho h1 (Or.inr (fun e => by have := ho.lt w.heap.size e; omega))) (base' := w.heap.size) (by omega)
theorem rd4 {w3 Z : World} {b : Nat} {x1 x2 x3 x4 y1 y2 y3 y4 : Value} (hlt : b < w3.heap.size) (b0 : w3.cell? ⟨b, 0, none⟩ = some y1) (b1 : w3.cell? ⟨b, 1, none⟩ = some y2) (b2 : w3.cell? ⟨b, 2, none⟩ = some y3) (b3 : w3.cell? ⟨b, 3, none⟩ = some y4)
    (h : Below ((((w3.setCell ⟨b, 0, none⟩ x1).setCell ⟨b, 1, none⟩ x2).setCell ⟨b, 2, none⟩ x3).setCell ⟨b, 3, none⟩ x4).heap.size ((((w3.setCell ⟨b, 0, none⟩ x1).setCell ⟨b, 1, none⟩ x2).setCell ⟨b, 2, none⟩ x3).setCell ⟨b, 3, none⟩ x4) Z) :
    Z.cell? ⟨b, 0, none⟩ = some x1 ∧ Z.cell? ⟨b, 1, none⟩ = some x2 ∧ Z.cell? ⟨b, 2, none⟩ = some x3 ∧ Z.cell? ⟨b, 3, none⟩ = some x4 := by
  have hs : ∀ o, (⟨b, o, none⟩ : Addr).block < ((((w3.setCell ⟨b, 0, none⟩ x1).setCell ⟨b, 1, none⟩ x2).setCell ⟨b, 2, none⟩ x3).setCell ⟨b, 3, none⟩ x4).heap.size := fun o => by simp; exact hlt
  refine ⟨?_, ?_, ?_, ?_⟩ <;> (rw [h.cell (hs _)]; simp [go_sem, b0, b1, b2, b3])
theorem jgood {w w' : World} {t : ByteArray} {R : List Wd × Nat × Nat} {ws : List Wd} {v : Value} {ty : TypeId} (hR : R = (ws, 0, 0)) (ho : w'.ownsRow w.heap.size ty 3 v ws.length (ws.flatMap wc)) (hb : Below w.heap.size w w') :
    ∃ v', Ending.returned (.tuple #[v, .agg #[.int .i64 0, .int .i64 0, .int .i64 0, .int .i64 0]]) = .returned (.tuple #[v', jfV t R]) ∧ InW w' R.1 v' ∧ Below w.heap.size w w' := by
  subst hR
  exact ⟨v, rfl, own_inw ho, hb⟩
theorem Tryz.jb_grown1 {w wr w9 : World} (h : Below (Tryz.jbW w).heap.size (Tryz.jbW w) wr) {e : TypeId} {v : Value} {n : Nat} {xs : List Value} (ho : wr.ownsRow (w.heap.size + 1) e 3 v n xs) (o : Obj) (hg : (wr.alloc o).grownBy w9 v.ownBlock) : Below (Tryz.jbW w).heap.size (Tryz.jbW w) w9 := by
  have hs := h.size
  refine (h.alloc hs _).grown hg (by simp; omega) (fun q hq => ?_)
  rw [Tryz.jb_size]; exact (ho.lt q hq).1
theorem size_two (w : World) (a b : Obj) : ((w.alloc a).alloc b).heap.size = w.heap.size + 1 + 1 := by simp
theorem Tryz.jb_grown {w wr w9 : World} (h : Below (Tryz.jbW w).heap.size (Tryz.jbW w) wr) {e : TypeId} {v : Value} {n : Nat} {xs : List Value} (ho : wr.ownsRow (w.heap.size + 1) e 3 v n xs) (o1 o2 o3 : Obj) (hg : (((wr.alloc o1).alloc o2).alloc o3).grownBy w9 v.ownBlock) : Below (Tryz.jbW w).heap.size (Tryz.jbW w) w9 := by
  have hs := h.size
  refine (((h.alloc hs _).alloc (by simp; omega) _).alloc (by simp; omega) _).grown hg (by simp; omega) (fun q hq => ?_)
  rw [Tryz.jb_size]; exact (ho.lt q hq).1
set_option maxRecDepth 100000 in
set_option maxHeartbeats 4000000 in
theorem Tryz.jcut_in (t : ByteArray) (w : World) (ht : t.size ≤ 65536) (hv : pos t.data.toList (vlk t.data.toList) = t.size) (hg : GlobU w) :
    Calls Tryz.prog 9 #[.string t] w (Tryz.JPost w t) := by
  have HZ := hid (size_list t)
  have HG := hid (hg.on (Tryz.jb_bel w))
  have HC := hid (show cutA t.data.toList = lx t.data.toList (t.data.toList.length + 1) 0 [] by
    unfold cutA; rw [if_neg (by rw [HZ.out]; omega), rv_yes _ (by rw [HZ.out]; exact hv), if_neg (by decide)])
  unfold Tryz.JPost
  rw [HC.out]
  obtain ⟨f0, r1, r2, r3, r4⟩ := lx_row (T := t.data.toList) (acc := []) t.data.toList.length 0 (t.data.toList.length + 1) (by omega) (by omega)
  rw [r1]
  obtain ⟨R, hR⟩ : ∃ R, lx t.data.toList f0 (0 + run blB (t.data.toList.drop 0)) [] = R := ⟨_, rfl⟩
  have HR := hid hR
  rw [hR]
  clear hR HC r1
  have CV := hid (fun X => letters_any t X)
  rw [hv] at CV
  clear hv
  have CB := hid (fun i X h => rowEnd_bl t i X (by omega) h)
  have CB0 := hid (CB.out 0 · (Nat.zero_le _))
  have CT := hid (fun i X h hb hg => tk_any t i X (by omega) h hb hg)
  obtain ⟨i1, hi', hz0', hz1', hz2'⟩ := info_parts Tryz.infoJW
  obtain ⟨n0, hn0⟩ : ∃ n0, 0 + run blB (t.data.toList.drop 0) = n0 := ⟨_, rfl⟩
  rw [hn0] at CB0 HR r2 r3 r4
  rw [HZ.out] at r3
  have HR2 := hid r2
  have HR4 := hid r4
  clear hn0 r2 r4
  go_enter Tryz.func9, Tryz.ntmps9
  go_wp2_with fail
  go_at_call 14
  refine (CV.out _).mono ?_
  rintro e w1 ⟨rfl, hb1⟩
  have HB1 : Hid (Below (Tryz.jbW w).heap.size (Tryz.jbW w) w1) := hb1
  clear hb1
  go_wp2_with fail
  go_at_call 15
  refine (CB0.out _).mono ?_
  rintro e w2 ⟨rfl, hw2⟩
  obtain rfl := hw2.symm
  clear hw2
  go_wp2_with fail
  have hs1 : w.heap.size + 1 ≤ w1.heap.size := by have := HB1.out.size; rw [Tryz.jb_size] at this; exact this
  go_loopw [5, 6] (fun v x wr => ∃ (i f : Nat) (acc : List Wd), i ≤ t.size ∧ x = .int .i64 i ∧ Hid (acc.length ≤ i) ∧ Hid (∀ b, t.data.toList[i]? = some b → blB b = false) ∧ Hid (wr.ownsRow (w.heap.size + 1) 37 3 v acc.length (acc.flatMap wc)) ∧ Hid (lx t.data.toList f i acc = R) ∧ Hid (t.data.toList.length < i + f) ∧ Hid (Below (Tryz.jbW w).heap.size (Tryz.jbW w) wr)) (fun _ x _ => t.size - (intOf x).toNat)
  case atStart => exact ⟨n0, f0, [], r3, rfl, Nat.zero_le _, HR4.out, Tryz.jmade_own _ _ hs1, HR.out, HR2.out, HB1.out.alloc HB1.out.size _⟩
  case round =>
    obtain ⟨i, f, acc, hit, rfl, HN, HI, HO, HL, HF, HB⟩ := hrel
    clear HR HR2 HR4 r3 hs1
    by_cases hlt : i < t.size
    · have HT := hid (list_at t i hlt)
      have HTL := hid (show i < t.data.toList.length by rw [HZ.out]; exact hlt)
      have hbl := HI.out _ HT.out
      have C := hid (fun X h => CT.out i X hlt hbl h)
      have HGo := hid (fun h => lw_good HT.out hbl h)
      have HWo := hid (fun h1 h2 h3 => lx_word (acc := acc) HF.out HTL.out h1 h2 h3)
      have HBd := hid (fun h => lx_bad (acc := acc) HF.out HTL.out h)
      obtain ⟨L, hL⟩ : ∃ L, lw t.data.toList i = L := ⟨_, rfl⟩
      rw [hL] at C HGo HWo HBd
      clear hL hbl
      obtain ⟨kd, tx, nx, er, ea⟩ := L
      simp only at HGo HWo HBd
      by_cases he : er = 0
      · subst he
        obtain ⟨g1, g2, g3⟩ := HGo.out rfl
        obtain ⟨f', h1, h2⟩ := HWo.out rfl g1 g2
        have HN1 := hid h1
        have HN2 := hid h2
        rw [HZ.out] at g3
        unfold twV at C
        simp only [if_true] at C
        clear HGo HWo HBd h1 h2 g1
        have HRow := lx_row (T := t.data.toList) (acc := acc ++ [⟨kd, tx, i⟩]) (t.data.toList.length - nx) nx f' (by rw [HZ.out]; omega) HN2.out
        obtain ⟨f2, r1, r2, r3, r4⟩ := HRow
        have HN3 := hid (HN1.out.trans r1)
        have HN4 := hid r2
        have HN5 := hid r4
        rw [HZ.out] at r3
        clear r1 r2 r4 HN1 HN2
        have CN := hid (fun X => CB.out nx X g3)
        have hrl : nx ≤ nx + run blB (t.data.toList.drop nx) := Nat.le_add_right _ _
        obtain ⟨n2, hn2⟩ : ∃ n2, nx + run blB (t.data.toList.drop nx) = n2 := ⟨_, rfl⟩
        rw [hn2] at CN HN3 HN4 HN5 r3 hrl
        clear hn2
        have hN : acc.length ≤ 65536 := Nat.le_trans HN.out (by omega)
        obtain ⟨m, hm⟩ : ∃ m, mkS tx = m := ⟨_, rfl⟩
        have HM := hid hm.symm
        rw [hm] at C
        clear hm
        go_wp2_with fail
        go_at_call 16
        refine (C.out _ (HG.out.on HB.out)).mono ?_
        rintro e w3 ⟨rfl, hb3⟩
        have HB3 := hid (Tryz.jb_onto HB.out hb3)
        have HO3 := hid (ownsRow_below HO.out hb3)
        have hws : w.heap.size + 1 ≤ w3.heap.size := by have := HB3.out.size; rw [Tryz.jb_size] at this; exact this
        clear hb3
        go_wp2_with (at_builtin; go_must (refine wpList_append_lies _ rfl _ _ _ rfl (w.heap.size + 1) 37 i1 (.agg #[.int .i64 0, .string ⟨#[]⟩, .int .i64 0]) 3 32 Tryz.underlying23 hi' hz0' hz1' hz2' rfl (by decide) _ _ _ rfl (((HO3.out.alloc _).alloc _).alloc _) ⟨w3.heap.size + 1 + 1, 0, none⟩ 1 1 (lc kd m i) rfl rfl (by have hnc := new_cells ((w3.alloc (.cells #[.int .i64 (kd : Int), .string m, .int .i64 (i : Int)] 37)).alloc (.cells #[.int .i64 0, .int .i64 0, .int .i64 0, .int .i64 0] 26)) (lc kd m i) 37; rw [size_two] at hnc; exact hnc) (lc_one _ _ _) (by decide) (by unfold maxLen; omega) (by omega) (by simp; omega) (w3.heap.size + 1 + 1 + 1) (by simp) ?_; intro g9 cap9 w9 hown9 hgr9 hat9 hlt9; have HB9 := hid (Tryz.jb_grown HB3.out HO3.out _ _ _ hgr9); have HO9 := hid (lc_own hown9 HM.out); clear hown9 hgr9 hat9 hlt9))
        go_at_call 15
        refine (CN.out _).mono ?_
        rintro e w4 ⟨rfl, hw4⟩
        obtain rfl := hw4.symm
        clear hw4
        go_wp2_with fail
        go_roundw
        case rel => exact ⟨n2, f2, acc ++ [(⟨kd, tx, i⟩ : Wd)], r3, rfl, (by show _ ≤ _; rw [List.length_append]; have := HN.out; simp only [List.length_cons, List.length_nil]; omega), HN5.out, HO9.out, HN3.out.symm.trans HL.out, HN4.out, HB9.out⟩
        case measure => simp [intOf]; omega
      · have HE := hid ((HBd.out he).symm.trans HL.out)
        unfold twV at C
        simp only [he, if_false] at C
        unfold faultV at C
        have HV : Hid (faultV t (ea : Nat) (er : Nat) = .agg #[.int .i64 (er : Nat), .int .i64 (clN t.size (ea : Nat)), .int .i64 (ofL t (ea : Nat)), .int .i64 (ofC t (ea : Nat))]) := rfl
        obtain ⟨f1, h1⟩ : ∃ f1, clN t.size (ea : Nat) = f1 := ⟨_, rfl⟩
        obtain ⟨f2, h2⟩ : ∃ f2, ofL t (ea : Nat) = f2 := ⟨_, rfl⟩
        obtain ⟨f3, h3⟩ : ∃ f3, ofC t (ea : Nat) = f3 := ⟨_, rfl⟩
        rw [h1, h2, h3] at C HV
        clear h1 h2 h3 HGo HWo HBd
        have g1 : ((er : Int) != 0) = true := by rw [bne_iff_ne]; omega
        have g2 : ((er : Int) == 0) = false := by rw [beq_eq_false_iff_ne]; omega
        have HEr := hid he
        clear he
        go_wp2_with fail
        go_at_call 16
        refine (C.out _ (HG.out.on HB.out)).mono ?_
        rintro e w3 ⟨rfl, hb3⟩
        have HB3 := hid (Tryz.jb_onto HB.out hb3)
        have hws : w.heap.size + 1 ≤ w3.heap.size := by have := HB3.out.size; rw [Tryz.jb_size] at this; exact this
        clear hb3
        obtain ⟨b0, b1, b2, b3, b4, b5⟩ := Tryz.jb_keeps HB3.out
        go_wp2_with fail
        go_region
        obtain ⟨k0, k1, k2, k3⟩ := rd4 (x1 := .int .i64 (er : Int)) (x2 := .int .i64 (f1 : Int)) (x3 := .int .i64 (f2 : Int)) (x4 := .int .i64 (f3 : Int)) b5 b0 b1 b2 b3 (((((Below.refl _ _).alloc (Nat.le_refl _) (.cells #[.int .i64 0, .string ⟨#[]⟩, .int .i64 0] 37)).alloc (by simp) (.cells #[.int .i64 (er : Int), .int .i64 (f1 : Int), .int .i64 (f2 : Int), .int .i64 (f3 : Int)] 26))).drew)
        all_goals
          go_wp2_with fail
          refine bodyPost_ret (v := .tuple #[.slice none 0 0, .agg #[.int .i64 (er : Nat), .int .i64 f1, .int .i64 f2, .int .i64 f3]]) (by simp [results, Tryz.results9, go_sem, k0, k1, k2, k3]) rfl ?_
          exact jbad HE.out.symm HEr.out HV.out (((set4 (Tryz.jb_low HB3.out) (Nat.le_refl _)).alloc (by simp; omega) _).alloc (by simp; omega) _).drew
    · have hi : i = t.size := by omega
      subst hi
      have HE := hid ((lx_end (acc := acc) HF.out (by rw [HZ.out]; exact Nat.le_refl _) (by rw [HZ.out]; exact Nat.le_refl _)).symm.trans HL.out)
      have hN : acc.length ≤ 65536 := Nat.le_trans HN.out ht
      have hws : w.heap.size + 1 ≤ wr.heap.size := by have := HB.out.size; rw [Tryz.jb_size] at this; exact this
      clear hlt hit
      go_wp2_with (at_builtin; go_must (refine wpList_append_lies _ rfl _ _ _ rfl (w.heap.size + 1) 37 i1 (.agg #[.int .i64 0, .string ⟨#[]⟩, .int .i64 0]) 3 32 Tryz.underlying23 hi' hz0' hz1' hz2' rfl (by decide) _ _ _ rfl (HO.out.alloc _) ⟨wr.heap.size, 0, none⟩ 1 1 (lc 0 ⟨#[]⟩ t.size) rfl rfl (new_cells wr _ 37) (lc_one _ _ _) (by decide) (by unfold maxLen; omega) (by omega) (by simp; omega) (wr.heap.size + 1) (by simp) ?_; intro g9 cap9 w9 hown9 hgr9 hat9 hlt9; have HB9 := hid (Tryz.jb_grown1 HB.out HO.out _ hgr9); have HO9 := hid (lc_own (tx := []) hown9 rfl); clear hown9 hgr9 hat9 hlt9; obtain ⟨b0, b1, b2, b3, b4, b5⟩ := Tryz.jb_keeps HB9.out; go_wp2_with fail))
      refine bodyPost_ret (v := .tuple #[.slice (some ⟨g9, 0, none⟩) (acc.length + 1) cap9, .agg #[.int .i64 0, .int .i64 0, .int .i64 0, .int .i64 0]]) (by simp [results, Tryz.results9, go_sem, b0, b1, b2, b3]) rfl ?_
      rw [HZ.out] at HE
      exact jgood HE.out.symm (jb_kept HO9.out rfl) (set4 (Tryz.jb_low HB9.out) (Nat.le_refl _))
end Go.Proofs.YtoamndiblckdlaaGreatDoor
