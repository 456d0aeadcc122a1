/- The program's Compact and Indent, walked. -/
import Derived.Test.YtkhjahpkbjafaaaGreatDoorTJpB
import Derived.Test.YtkhjahpkbjafaaaGreatDoorTVGood
namespace Go.Proofs.YtkhjahpkbjafaaaGreatDoor
open Go.RowKit

def GlobP (w : World) : Prop := Glob w ∧ GlobT w
theorem GlobP.on {w w' : World} (h : GlobP w) (hb : Below w.heap.size w w') : GlobP w' := ⟨h.1.on hb, h.2.on hb⟩
/-- what is written of a tree: nothing of one that may not be -/
def wrB (inl : Bool) (T : VT) : List UInt8 := if mayB 0 1 T = true then txs (tkV (indO inl 0) T) else []
theorem val_ne (i : Option Nat) (v : VT) (hp : plainT v = true) (hw : wfT v) : txs (tkV i v) ≠ [] := by
  have h0 := val_ok i v hp hw [] edr_nil
  cases v with
  | mk k n s L K V =>
    rw [tkV] at h0 ⊢
    split
    · rw [txs_sg]; simp
    · split
      · rw [txs_sg]; simp
      · rename_i h5 h6
        rw [if_neg h5, if_neg h6] at h0
        rw [txs_cons]
        intro e
        have hb : ∀ b, tkS k n s ≠ .bl b := fun b e2 => by
          unfold tkS at e2
          (repeat' split at e2) <;> cases e2
        obtain ⟨b, -, -, h1, -, -⟩ := tok_lw (tkS k n s) [] (txs [] ++ []) h0.1 hb
        have h2 : (tkS k n s).tx ++ (txs [] ++ []) = [] := by simpa [txs] using e
        rw [List.nil_append, h2] at h1
        simp at h1
set_option maxRecDepth 100000 in
set_option maxHeartbeats 2000000 in
theorem pwriteT_any (T : VT) (x y : Value) (inl : Bool) (w : World) (hg : GlobP w) (hT : HV w T x y) :
    Calls Tryz.prog 38 #[vv T x y, .bool inl] w fun e w' => e = .returned (.string (mkS (wrB inl T))) ∧ Below w.heap.size w w' := by
  have hal := valloc_bel (Below.refl w.heap.size w) (.cells #[.int .i64 T.kd, .int .i64 T.nm, .string T.st, x, y] 27)
  have CG := hid (vgood_any T x y _ (hg.1.on hal) (hT.onto hal))
  have HAL := hid hal
  have HG := hid hg
  have HT := hid hT
  have HWF := hid hT.wfT
  clear hal hg hT
  simp only [vv] at CG ⊢
  go_enter Tryz.func38, Tryz.ntmps38
  go_wp2_with fail
  go_at_call 50
  refine CG.out.mono ?_
  rintro e w1 ⟨rfl, hb1⟩
  have hbx : Below (w.heap.size + 1) (w.alloc (.cells #[.int .i64 T.kd, .int .i64 T.nm, .string T.st, x, y] 27)) w1 := by simpa using hb1
  have c0 := box_cell w w1 _ _ _ _ _ _ hbx 0 _ rfl
  have c1 := box_cell w w1 _ _ _ _ _ _ hbx 1 _ rfl
  have c2 := box_cell w w1 _ _ _ _ _ _ hbx 2 _ rfl
  have c3 := box_cell w w1 _ _ _ _ _ _ hbx 3 _ rfl
  have c4 := box_cell w w1 _ _ _ _ _ _ hbx 4 _ rfl
  have HB1 := hid (vonto HAL.out hb1)
  clear hb1 hbx CG HAL
  cases hm : mayB 0 1 T with
  | false =>
    have HR := hid (show wrB inl T = [] by unfold wrB; rw [hm]; rfl)
    go_wp2_with fail
    go_ret
    exact ⟨ret_st (by rw [HR.out]; rfl), HB1.out⟩
  | true =>
  obtain ⟨hpl, hsz, hhg⟩ := may_parts hm
  have HR := hid (show wrB inl T = txs (tkV (indO inl 0) T) by unfold wrB; rw [if_pos hm])
  have hlen := val_len T (indO inl 0) hpl HWF.out (fun k hk => by cases inl <;> simp [indO] at hk; omega)
  have hne := val_ne (indO inl 0) T hpl HWF.out
  have HWT : Hid (∀ W : World, Pr W w1.heap.size [] inl → Below w1.heap.size w1 W → Calls Tryz.prog 51 #[.pointer (some ⟨w1.heap.size, 0, none⟩), vv T x y, .int .i64 0] W (Wr w1.heap.size ([] ++ txs (tkV (indO inl 0) T)) inl W)) := fun W hW hb => pvalue_any (szT T) T x y w1.heap.size [] inl 0 w1 W (Nat.le_refl _) (HT.out.onto HB1.out) hb (Nat.le_refl _) (HG.out.2.on HB1.out) hpl hW (by omega) (by omega) (by omega) (by simp; omega)
  simp only [vv, List.nil_append] at HWT
  have HNE := hid hne
  clear hlen hne hm hpl
  have hal2 := valloc_bel (Below.refl w1.heap.size w1) (.cells #[.pointer none, .slice none 0 0, .bool inl] 83)
  have HPR : Hid (Pr (w1.alloc (.cells #[.pointer none, .slice none 0 0, .bool inl] 83)) w1.heap.size [] inl) := ⟨.pointer none, .slice none 0 0, heap_alloc_new w1 _, Or.inl rfl, World.ownsRow_nil _ _ _ _⟩
  replace c0 := keepCell hal2 c0
  replace c1 := keepCell hal2 c1
  replace c2 := keepCell hal2 c2
  replace c3 := keepCell hal2 c3
  replace c4 := keepCell hal2 c4
  have HAL2 := hid hal2
  clear hal2
  go_wp2_with fail
  go_at_call 51
  refine (HWT.out _ HPR.out HAL2.out).mono ?_
  rintro e w2 ⟨rfl, hp2, hk2⟩
  have CS := hid (pstring_any w1.heap.size _ inl w2 hp2 HNE.out)
  have HB2 := hid (HB1.out.trans ((HAL2.out.trans hk2.1).mono HB1.out.size))
  clear hp2 hk2 HWT HPR
  go_wp2_with fail
  go_at_call 52
  refine CS.out.mono ?_
  rintro e w3 ⟨rfl, hb3⟩
  have HB3 := hid (HB2.out.trans (hb3.mono HB1.out.size))
  clear hb3 CS
  go_wp2_with fail
  go_ret
  exact ⟨ret_st (by rw [HR.out]), HB3.out⟩
theorem compact_any (T : VT) (x y : Value) (w : World) (hg : GlobP w) (hT : HV w T x y) :
    Calls Tryz.prog 26 #[vv T x y] w fun e w' => e = .returned (.string (mkS (wrB false T))) ∧ Below w.heap.size w w' := by
  have CW := hid (fun X (hX : Below w.heap.size w X) => pwriteT_any T x y false X (hg.on hX) (hT.onto hX))
  simp only [vv] at CW ⊢
  clear hg hT
  go_enter Tryz.func26, Tryz.ntmps26
  go_wp2_with (go_at_call 38; go_must (refine (CW.out _ (by first | exact Below.refl _ _ | exact valloc_bel (Below.refl _ _) _)).mono ?_; rintro e w1 ⟨rfl, hb1⟩))
  go_ret
  first | exact ⟨rfl, hb1⟩ | exact ⟨rfl, vonto (valloc_bel (Below.refl _ _) _) hb1⟩
theorem indent_any (T : VT) (x y : Value) (w : World) (hg : GlobP w) (hT : HV w T x y) :
    Calls Tryz.prog 27 #[vv T x y] w fun e w' => e = .returned (.string (mkS (wrB true T))) ∧ Below w.heap.size w w' := by
  have CW := hid (fun X (hX : Below w.heap.size w X) => pwriteT_any T x y true X (hg.on hX) (hT.onto hX))
  simp only [vv] at CW ⊢
  clear hg hT
  go_enter Tryz.func27, Tryz.ntmps27
  go_wp2_with (go_at_call 38; go_must (refine (CW.out _ (by first | exact Below.refl _ _ | exact valloc_bel (Below.refl _ _) _)).mono ?_; rintro e w1 ⟨rfl, hb1⟩))
  go_ret
  first | exact ⟨rfl, hb1⟩ | exact ⟨rfl, vonto (valloc_bel (Below.refl _ _) _) hb1⟩
end Go.Proofs.YtkhjahpkbjafaaaGreatDoor
