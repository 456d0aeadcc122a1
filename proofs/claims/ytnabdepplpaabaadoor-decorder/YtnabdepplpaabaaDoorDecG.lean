/- Package dec, walked: Canon. -/
import Derived.Test.YtnabdepplpaabaaDoorDecF
import Derived.Test.YtnabdepplpaabaaDoorBytes
import Derived.Lib.AppendStr
import Derived.OwnWalk
namespace Go.Proofs.YtnabdepplpaabaaDoor
open Go.RowKit

/-- a row of bytes of the call's own -/
structure Row (w0 wx : World) (v : Value) (l : List UInt8) : Prop where
  own : wx.ownsRow w0.heap.size 5 1 v l.length (Lib.byteCells l)
  bel : Below w0.heap.size w0 wx
theorem row_push {w0 wx w2 : World} {v v2 : Value} {l : List UInt8} {o : Obj} (c : UInt8) (h : Row w0 wx v l) (hown : w2.ownsRow w0.heap.size 5 1 v2 (l.length + 1) (Lib.byteCells l ++ [Value.int .u8 (c.toNat : Int)])) (hgr : (wx.alloc o).grownBy w2 v.ownBlock) : Row w0 w2 v2 (l ++ [c]) :=
  ⟨by rw [List.length_append]; simpa [Lib.byteCells] using hown, (h.bel.alloc h.bel.size _).grown hgr (by have := h.bel.size; simp; omega) (fun k hk => (h.own.lt k hk).1)⟩
theorem row_more {w0 wx w2 : World} {v v2 : Value} {l k : List UInt8} (s : ByteArray) (hs : s.data.toList = k) (h : Row w0 wx v l) (hown : w2.ownsRow w0.heap.size 5 1 v2 (l.length + s.size) (Lib.byteCells l ++ Lib.strCells s)) (hgr : wx.grownBy w2 v.ownBlock) : Row w0 w2 v2 (l ++ k) :=
  ⟨by
    have e : s.size = k.length := by rw [← hs, size_list]
    rw [List.length_append, ← e]
    have f : Lib.byteCells (l ++ k) = Lib.byteCells l ++ Lib.strCells s := by unfold Lib.byteCells Lib.strCells; rw [List.map_append, hs]
    rw [f]; exact hown, h.bel.grown hgr h.bel.size (fun k hk => (h.own.lt k hk).1)⟩
theorem row_int {w0 wx w2 : World} {v v2 : Value} {l : List UInt8} (i : Int) (h : Row w0 wx v l) (hown : w2.ownsRow w0.heap.size 5 1 v2 (l.length + (Lib.itoa i).length) (Lib.byteCells l ++ Lib.byteCells (Lib.itoa i))) (hb : Below w0.heap.size wx w2) : Row w0 w2 v2 (l ++ txt i) :=
  ⟨by
    rw [itoa_txt] at hown
    rw [List.length_append]
    have f : Lib.byteCells (l ++ txt i) = Lib.byteCells l ++ Lib.byteCells (txt i) := by unfold Lib.byteCells; rw [List.map_append]
    rw [f]; exact hown, h.bel.trans hb⟩
theorem row_new (w : World) : Row w (w.alloc (.cells #[] 5)) (.slice (some ⟨w.heap.size, 0, none⟩) 0 0) [] :=
  ⟨⟨rfl, Or.inr ⟨_, _, _, rfl, Nat.le_refl _, heap_alloc_new w _, Nat.le_refl _, by unfold maxLen; omega, rfl, rfl⟩⟩, (Below.refl _ _).alloc (Nat.le_refl _) _⟩
/-- the row, read as a text -/
theorem row_text {w0 wx : World} {v : Value} {l : List UInt8} (h : Row w0 wx v l) (h0 : ¬ l = []) : (convert 43 9 v).run Tryd.prog wx = .ok (.string (mkS l)) wx := by
  have hl : 0 < l.length := List.length_pos_iff.2 h0
  rcases h.own.2 with ⟨-, hz⟩ | ⟨g, cap, cur, hv, -, -, -, -, -, -⟩
  · omega
  · subst hv
    exact run_convert_bytes_back (P := Tryd.prog) wx 43 9 5 ⟨g, 0, none⟩ cap l Tryd.underlying43 Tryd.underlying5 Tryd.underlying9 (fun j hj => h.own.cells (g := g) rfl j _ (by simp [Lib.byteCells, hj]))
/-- the stages of a number's one form -/
def st1 (l : List UInt8) : List UInt8 := if scN l then [45] else []
def st2 (l : List UInt8) : List UInt8 := st1 l ++ [(scD l).getD 0 0]
def st3 (l : List UInt8) : List UInt8 := if 1 < (scD l).length then st2 l ++ [46] ++ (scD l).drop 1 else st2 l
theorem st3_can (l : List UInt8) (h : ¬ scD l = []) : st3 l = canB l := by
  obtain ⟨a, t, e, -, -⟩ := scD_first l h
  unfold st3 st2 st1 canB canA
  rw [e]
  cases scN l <;> cases t <;> simp
theorem st_len (l : List UInt8) (h : numB l = true) : (st1 l).length ≤ 1 ∧ (st2 l).length ≤ 2 ∧ (st3 l).length ≤ 403 := by
  have h0 : l.length ≤ 400 := by unfold numB at h; simp only [Bool.and_eq_true, decide_eq_true_eq] at h; exact h.2
  have h1 := scD_len l
  have e1 : (st1 l).length ≤ 1 := by unfold st1; split <;> simp
  have e2 : (st2 l).length ≤ 2 := by unfold st2; rw [List.length_append]; simp; omega
  refine ⟨e1, e2, ?_⟩
  unfold st3; split
  · rw [List.length_append, List.length_append, List.length_drop]; simp; omega
  · omega
set_option maxRecDepth 100000 in
set_option maxHeartbeats 1000000 in
theorem dcanon_max (s : ByteArray) (w : World) (hg : Glob w) (hs : s.size ≤ maxLen) :
    Calls Tryd.prog 11 #[.string s] w fun e w' => e = .returned (.tuple #[.string (mkS (canV s.data.toList)), .bool (numB s.data.toList)]) ∧ Below w.heap.size w w' := by
  have ra := hid (fun w => read_any s w hs)
  have HG := hid hg
  generalize s.data.toList = l at ra ⊢
  clear hg
  cases hn : numB l with
  | false =>
    have H := hid (show canV l = [] by unfold canV; rw [hn]; rfl)
    go_enter Tryd.func11, Tryd.ntmps11
    go_wp2_with (go_at_call 23; go_must (refine (ra.out _).mono ?_; rintro e w1 ⟨rfl, hb⟩; unfold rdV rdA; rw [hn]))
    go_ret2
    exact ⟨by rw [H.out]; rfl, alloc_bel hb _⟩
  | true =>
  by_cases he : scD l = []
  · have g : (rdS l == 0) = true := by unfold rdS; rw [if_pos hn]; unfold sgI; rw [if_pos he]; rfl
    have H := hid (show canV l = [48] by unfold canV; rw [if_pos hn, if_pos he])
    clear he
    go_enter Tryd.func11, Tryd.ntmps11
    go_wp2_with (go_at_call 23; go_must (refine (ra.out _).mono ?_; rintro e w1 ⟨rfl, hb⟩; unfold rdV rdA; rw [hn]))
    go_ret2
    exact ⟨by rw [H.out]; rfl, alloc_bel hb _⟩
  have HC := hid (show canV l = canC l by unfold canV; rw [if_pos hn, if_neg he])
  have HS := hid (st3_can l he)
  have HLen := hid (st_len l hn)
  obtain ⟨b1, b2, b3, b4, b5⟩ := rd_bd l
  have hsg : rdS l = if scN l then -1 else 1 := by unfold rdS; rw [if_pos hn]; unfold sgI; rw [if_neg he]
  have hD : rdD l = scD l := by unfold rdD; rw [if_pos hn]
  have hT : rdT l = scT l := by unfold rdT; rw [if_pos hn]
  obtain ⟨d, hd⟩ : ∃ d, mkS (rdD l) = d := ⟨_, rfl⟩
  have Hd := hid (show d.data.toList = scD l by rw [← hd, mkS_list, hD])
  have HD := hid hd
  have hd0 : 0 < d.size := by rw [← size_list, Hd.out]; exact List.length_pos_iff.2 he
  have hds : d.size ≤ 400 := by rw [← hd, mkS_size]; exact b5
  have g0 : (rdS l == 0) = false := by rw [hsg]; cases scN l <;> rfl
  have HSG := hid hsg
  have HT := hid hT
  clear hd hD he b5 hsg hT
  go_enter Tryd.func11, Tryd.ntmps11
  go_upto_region 6 with (go_at_call 23; go_must (refine (ra.out _).mono ?_; rintro e w1 ⟨rfl, hb⟩; unfold rdV rdA; rw [hn, HD.out]))
  have hw0 := alloc_bel hb (Obj.cells #[.int .i64 (rdS l), .string (mkS (rdD l)), .int .i64 (rdT l)] 40)
  rw [HD.out] at hw0
  obtain ⟨v0, hv0⟩ : ∃ v, w1.alloc (Obj.cells #[.int .i64 (rdS l), .string d, .int .i64 (rdT l)] 40) = v := ⟨_, rfl⟩
  have hN0 := numat_new w1 l 40
  rw [HD.out, hv0] at hN0
  rw [hv0] at hw0 ⊢
  generalize w1.heap.size = bx at hN0 ⊢
  have HN := hid hN0
  have HW0 := hid hw0
  have HG0 := hid (HG.out.on hw0)
  clear hv0 hb hN0 hw0 ra HG
  clear w1
  obtain ⟨i0, hi, hz0, hz1, hz2⟩ := info_parts Tryd.info_u8
  go_upto_region 7 with fail
  have hR0 := row_new v0
  obtain ⟨u0, hu0⟩ : ∃ v, v0.alloc (.cells #[] 5) = v := ⟨_, rfl⟩
  rw [hu0] at hR0 ⊢
  have R0 := hid hR0
  obtain ⟨x0, x1, x2⟩ := numat_on HN.out hR0.bel
  rw [HD.out] at x1
  clear hu0 hR0
  go_upto_if 20 with fail
  go_cut [6] from 7 (fun v wx => Row v0 wx v (st1 l))
  case first =>
    cases hq : scN l with
    | true =>
      have g : rdS l = -1 := by rw [HSG.out, hq]; rfl
      have HQ := hid (show st1 l = [] ++ [45] by unfold st1; rw [hq]; rfl)
      go_wp2_with (at_builtin; go_must (refine wpList_append_own _ rfl (.tmp 21) (.tmp 22) 43 rfl v0.heap.size 5 i0 (.int .u8 0) 1 1 Tryd.underlying43 hi hz0 hz1 hz2 rfl (by decide) _ 0 _ rfl (R0.out.own.alloc _) ⟨u0.heap.size, 0, none⟩ 1 1 [.int .u8 45] rfl rfl (new_cells u0 _ 5) (by intro u' hu'; simp at hu'; subst hu'; rfl) (by unfold maxLen; omega) (by omega) (by have := R0.out.bel.size; simp; omega) ?_; intro v2 w2 hown2 hgr2 _))
      go_meet
      rw [HQ.out]; exact row_push 45 R0.out hown2 hgr2
    | false =>
      have g : rdS l = 1 := by rw [HSG.out, hq]; rfl
      have HQ := hid (show st1 l = [] by unfold st1; rw [hq]; rfl)
      go_wp2_with fail
      go_meet
      rw [HQ.out]; exact R0.out
  case rest =>
  clear x0 x1 x2 R0
  clear u0
  have R1 := hid hcut
  obtain ⟨x0, x1, x2⟩ := numat_on HN.out hcut.bel
  rw [HD.out] at x1
  clear hcut
  obtain ⟨l1, l2, l3⟩ := HLen.out
  go_upto_region 9 with fail
  go_cut [6] from 7 (fun v wx => Row v0 wx v (st2 l))
  case first =>
    have HQ := hid (show st2 l = st1 l ++ [d[0]] by unfold st2; rw [← Hd.out, getD_at d 0 hd0])
    go_wp2_with (at_builtin; go_must (refine wpList_append_own _ rfl (.tmp 24) (.tmp 28) 43 rfl v0.heap.size 5 i0 (.int .u8 0) 1 1 Tryd.underlying43 hi hz0 hz1 hz2 rfl (by decide) _ _ _ rfl (R1.out.own.alloc _) ⟨wc.heap.size, 0, none⟩ 1 1 [.int .u8 (d[0].toNat : Int)] rfl rfl (new_cells wc _ 5) (by intro u' hu'; simp at hu'; subst hu'; rfl) (by unfold maxLen; omega) (by omega) (by have := R1.out.bel.size; simp; omega) ?_; intro v2 w2 hown2 hgr2 _))
    go_meet
    rw [HQ.out]; exact row_push _ R1.out hown2 hgr2
  case rest =>
  clear x0 x1 x2 R1
  have R2 := hid hcut
  obtain ⟨x0, x1, x2⟩ := numat_on HN.out hcut.bel
  rw [HD.out] at x1
  clear hcut
  go_upto_if 33 with fail
  go_cut [6] from 7 (fun v wx => Row v0 wx v (st3 l))
  case first =>
    by_cases h1 : 1 < d.size
    · have HQ := hid (show st3 l = st2 l ++ [46] ++ (scD l).drop 1 by unfold st3; rw [if_pos (by rw [← Hd.out, size_list]; exact h1)])
      obtain ⟨t, ht⟩ : ∃ t, d.extract 1 d.size = t := ⟨_, rfl⟩
      have HT2 := hid (show t.data.toList = (scD l).drop 1 by rw [← ht, drop_list, Hd.out])
      have hts : t.size ≤ 400 := by rw [← ht, ByteArray.size_extract]; omega
      go_upto_region 12 with (at_builtin; go_must (refine wpList_append_own _ rfl (.tmp 34) (.tmp 35) 43 rfl v0.heap.size 5 i0 (.int .u8 0) 1 1 Tryd.underlying43 hi hz0 hz1 hz2 rfl (by decide) _ _ _ rfl (R2.out.own.alloc _) ⟨wc.heap.size, 0, none⟩ 1 1 [.int .u8 46] rfl rfl (new_cells wc _ 5) (by intro u' hu'; simp at hu'; subst hu'; rfl) (by unfold maxLen; omega) (by omega) (by have := R2.out.bel.size; simp; omega) ?_; intro v2 w2 hown2 hgr2 _))
      have hR := row_push 46 R2.out hown2 hgr2
      have R := hid hR
      clear x0 x1 x2
      obtain ⟨x0, x1, x2⟩ := numat_on HN.out hR.bel
      rw [HD.out] at x1
      have hl : (st2 l ++ [46]).length ≤ 10 := by rw [List.length_append]; simp; omega
      clear hR hown2 hgr2
      generalize st2 l ++ [46] = k at R HQ hl
      go_wp2_with (at_builtin; go_must (refine Lib.wpList_append_own_string _ rfl (.tmp 37) (.tmp 40) 43 9 rfl v0.heap.size 5 i0 Tryd.underlying43 Tryd.underlying9 hi hz0 hz1 hz2 _ _ _ rfl R.out.own t rfl (by unfold maxLen; omega) (by omega) (by have := R.out.bel.size; omega) ?_; intro v3 w3 hown3 hgr3 _))
      go_meet
      rw [HQ.out]; exact row_more t HT2.out R.out hown3 hgr3
    · have HQ := hid (show st3 l = st2 l by unfold st3; rw [if_neg (by rw [← Hd.out, size_list]; exact h1)])
      go_wp2_with fail
      go_meet
      rw [HQ.out]; exact R2.out
  case rest =>
  clear x0 x1 x2 R2
  have R3 := hid hcut
  obtain ⟨x0, x1, x2⟩ := numat_on HN.out hcut.bel
  rw [HD.out] at x1
  clear hcut
  go_upto_if 44 with fail
  go_cut [6] from 7 (fun v wx => Row v0 wx v (canC l))
  case first =>
    by_cases h1 : rdT l = 0
    · have g : (rdT l != 0) = false := by rw [h1]; rfl
      have HQ := hid (show canC l = st3 l by unfold canC; rw [← HT.out, if_pos h1, HS.out])
      clear h1
      go_wp2_with fail
      go_meet
      rw [HQ.out]; exact R3.out
    · have g : (rdT l != 0) = true := by simpa using h1
      have HQ := hid (show canC l = st3 l ++ [101] ++ txt (rdT l) by unfold canC; rw [← HT.out, if_neg h1, HS.out]; simp)
      clear h1
      go_upto_region 15 with (at_builtin; go_must (refine wpList_append_own _ rfl (.tmp 45) (.tmp 46) 43 rfl v0.heap.size 5 i0 (.int .u8 0) 1 1 Tryd.underlying43 hi hz0 hz1 hz2 rfl (by decide) _ _ _ rfl (R3.out.own.alloc _) ⟨wc.heap.size, 0, none⟩ 1 1 [.int .u8 101] rfl rfl (new_cells wc _ 5) (by intro u' hu'; simp at hu'; subst hu'; rfl) (by unfold maxLen; omega) (by omega) (by have := R3.out.bel.size; simp; omega) ?_; intro v2 w2 hown2 hgr2 _))
      have hR := row_push 101 R3.out hown2 hgr2
      have R := hid hR
      clear x0 x1 x2
      obtain ⟨x0, x1, x2⟩ := numat_on HN.out hR.bel
      rw [HD.out] at x1
      have hl : (st3 l ++ [101]).length ≤ 500 := by rw [List.length_append]; simp; omega
      clear hR hown2 hgr2
      generalize st3 l ++ [101] = k at R HQ hl
      have ai := Tryd.strconv_AppendInt_10 v0.heap.size _ (rdT l) (by omega) (by omega) v2 _ w2 R.out.own R.out.bel.size (by omega) ((Lib.tabBelow_of_tabIs HG0.out.tab).on R.out.bel)
      go_wp2_with (go_at_call 24; go_must (refine ai.mono ?_; rintro e w3 ⟨v3, rfl, hown3, hb3, -⟩))
      go_meet
      rw [HQ.out]; exact row_int _ R.out hown3 hb3
  case rest =>
  have hne : ¬ canC l = [] := by
    have h := HS.out
    unfold canC; split
    · rw [← h]; unfold st3 st2; split <;> simp
    · simp
  have hcv := row_text hcut hne
  have HB := hid hcut.bel
  clear hcut hne x0 x1 x2 R3
  go_wp2_with fail
  go_ret2
  exact ⟨by rw [HC.out]; rfl, HW0.out.trans (HB.out.mono HW0.out.size)⟩
end Go.Proofs.YtnabdepplpaabaaDoor
