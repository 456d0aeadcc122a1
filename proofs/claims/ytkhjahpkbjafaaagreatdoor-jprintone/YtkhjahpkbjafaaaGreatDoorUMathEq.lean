/- The program's Compact and Indent, walked. -/
import Derived.Test.YtkhjahpkbjafaaaGreatDoorUJpB
import Derived.Test.YtkhjahpkbjafaaaGreatDoorUVGood
import Derived.Test.YtkhjahpkbjafaaaGreatDoorUJpI
/- What the laws of JSON's printer share: a map of a one, awake. -/
/- Plain mathematics: trees without stamps; one text for each of them. -/
/- Plain mathematics: trees that are alike, strictly, are one. -/
namespace Go.Proofs.YtkhjahpkbjafaaaGreatDoor
open Go.RowKit

def GlobP (w : World) : Prop := Glob w ∧ GlobT w
theorem GlobP.on {w w' : World} (h : GlobP w) (hb : Below w.heap.size w w') : GlobP w' := ⟨h.1.on hb, h.2.on hb⟩
/-- what is written of a tree: nothing of one that may not be -/
def wrB (inl : Bool) (T : VT) : List UInt8 := if mayB 0 1 T = true then txs (tkV (indO inl 0) T) else []
theorem val_ne (i : Option Nat) (v : VT) (hp : plainT v = true) (hw : wfT v) : txs (tkV i v) ≠ [] := by
  have h0 := val_ok i v hp hw [] edr_nil
  cases v with
  | mk k n s L K V =>
    rw [tkV] at h0 ⊢
    split
    · rw [txs_sg]; simp
    · split
      · rw [txs_sg]; simp
      · rename_i h5 h6
        rw [if_neg h5, if_neg h6] at h0
        rw [txs_cons]
        intro e
        have hb : ∀ b, tkS k n s ≠ .bl b := fun b e2 => by
          unfold tkS at e2
          (repeat' split at e2) <;> cases e2
        obtain ⟨b, -, -, h1, -, -⟩ := tok_lw (tkS k n s) [] (txs [] ++ []) h0.1 hb
        have h2 : (tkS k n s).tx ++ (txs [] ++ []) = [] := by simpa [txs] using e
        rw [List.nil_append, h2] at h1
        simp at h1
set_option maxRecDepth 100000 in
set_option maxHeartbeats 2000000 in
theorem pwriteT_any (T : VT) (x y : Value) (inl : Bool) (w : World) (hg : GlobP w) (hT : HV w T x y) :
    Calls Tryz.prog 38 #[vv T x y, .bool inl] w fun e w' => e = .returned (.string (mkS (wrB inl T))) ∧ Below w.heap.size w w' := by
  have hal := valloc_bel (Below.refl w.heap.size w) (.cells #[.int .i64 T.kd, .int .i64 T.nm, .string T.st, x, y] 27)
  have CG := hid (vgood_any T x y _ (hg.1.on hal) (hT.onto hal))
  have HAL := hid hal
  have HG := hid hg
  have HT := hid hT
  have HWF := hid hT.wfT
  clear hal hg hT
  simp only [vv] at CG ⊢
  go_enter Tryz.func38, Tryz.ntmps38
  go_wp2_with fail
  go_at_call 50
  refine CG.out.mono ?_
  rintro e w1 ⟨rfl, hb1⟩
  have hbx : Below (w.heap.size + 1) (w.alloc (.cells #[.int .i64 T.kd, .int .i64 T.nm, .string T.st, x, y] 27)) w1 := by simpa using hb1
  have c0 := box_cell w w1 _ _ _ _ _ _ hbx 0 _ rfl
  have c1 := box_cell w w1 _ _ _ _ _ _ hbx 1 _ rfl
  have c2 := box_cell w w1 _ _ _ _ _ _ hbx 2 _ rfl
  have c3 := box_cell w w1 _ _ _ _ _ _ hbx 3 _ rfl
  have c4 := box_cell w w1 _ _ _ _ _ _ hbx 4 _ rfl
  have HB1 := hid (vonto HAL.out hb1)
  clear hb1 hbx CG HAL
  cases hm : mayB 0 1 T with
  | false =>
    have HR := hid (show wrB inl T = [] by unfold wrB; rw [hm]; rfl)
    go_wp2_with fail
    go_ret
    exact ⟨ret_st (by rw [HR.out]; rfl), HB1.out⟩
  | true =>
  obtain ⟨hpl, hsz, hhg⟩ := may_parts hm
  have HR := hid (show wrB inl T = txs (tkV (indO inl 0) T) by unfold wrB; rw [if_pos hm])
  have hlen := val_len T (indO inl 0) hpl HWF.out (fun k hk => by cases inl <;> simp [indO] at hk; omega)
  have hne := val_ne (indO inl 0) T hpl HWF.out
  have HWT : Hid (∀ W : World, Pr W w1.heap.size [] inl → Below w1.heap.size w1 W → Calls Tryz.prog 51 #[.pointer (some ⟨w1.heap.size, 0, none⟩), vv T x y, .int .i64 0] W (Wr w1.heap.size ([] ++ txs (tkV (indO inl 0) T)) inl W)) := fun W hW hb => pvalue_any (szT T) T x y w1.heap.size [] inl 0 w1 W (Nat.le_refl _) (HT.out.onto HB1.out) hb (Nat.le_refl _) (HG.out.2.on HB1.out) hpl hW (by omega) (by omega) (by omega) (by simp; omega)
  simp only [vv, List.nil_append] at HWT
  have HNE := hid hne
  clear hlen hne hm hpl
  have hal2 := valloc_bel (Below.refl w1.heap.size w1) (.cells #[.pointer none, .slice none 0 0, .bool inl] 83)
  have HPR : Hid (Pr (w1.alloc (.cells #[.pointer none, .slice none 0 0, .bool inl] 83)) w1.heap.size [] inl) := ⟨.pointer none, .slice none 0 0, heap_alloc_new w1 _, Or.inl rfl, World.ownsRow_nil _ _ _ _⟩
  replace c0 := keepCell hal2 c0
  replace c1 := keepCell hal2 c1
  replace c2 := keepCell hal2 c2
  replace c3 := keepCell hal2 c3
  replace c4 := keepCell hal2 c4
  have HAL2 := hid hal2
  clear hal2
  go_wp2_with fail
  go_at_call 51
  refine (HWT.out _ HPR.out HAL2.out).mono ?_
  rintro e w2 ⟨rfl, hp2, hk2⟩
  have CS := hid (pstring_any w1.heap.size _ inl w2 hp2 HNE.out)
  have HB2 := hid (HB1.out.trans ((HAL2.out.trans hk2.1).mono HB1.out.size))
  clear hp2 hk2 HWT HPR
  go_wp2_with fail
  go_at_call 52
  refine CS.out.mono ?_
  rintro e w3 ⟨rfl, hb3⟩
  have HB3 := hid (HB2.out.trans (hb3.mono HB1.out.size))
  clear hb3 CS
  go_wp2_with fail
  go_ret
  exact ⟨ret_st (by rw [HR.out]), HB3.out⟩
theorem compact_any (T : VT) (x y : Value) (w : World) (hg : GlobP w) (hT : HV w T x y) :
    Calls Tryz.prog 26 #[vv T x y] w fun e w' => e = .returned (.string (mkS (wrB false T))) ∧ Below w.heap.size w w' := by
  have CW := hid (fun X (hX : Below w.heap.size w X) => pwriteT_any T x y false X (hg.on hX) (hT.onto hX))
  simp only [vv] at CW ⊢
  clear hg hT
  go_enter Tryz.func26, Tryz.ntmps26
  go_wp2_with (go_at_call 38; go_must (refine (CW.out _ (by first | exact Below.refl _ _ | exact valloc_bel (Below.refl _ _) _)).mono ?_; rintro e w1 ⟨rfl, hb1⟩))
  go_ret
  first | exact ⟨rfl, hb1⟩ | exact ⟨rfl, vonto (valloc_bel (Below.refl _ _) _) hb1⟩
theorem indent_any (T : VT) (x y : Value) (w : World) (hg : GlobP w) (hT : HV w T x y) :
    Calls Tryz.prog 27 #[vv T x y] w fun e w' => e = .returned (.string (mkS (wrB true T))) ∧ Below w.heap.size w w' := by
  have CW := hid (fun X (hX : Below w.heap.size w X) => pwriteT_any T x y true X (hg.on hX) (hT.onto hX))
  simp only [vv] at CW ⊢
  clear hg hT
  go_enter Tryz.func27, Tryz.ntmps27
  go_wp2_with (go_at_call 38; go_must (refine (CW.out _ (by first | exact Below.refl _ _ | exact valloc_bel (Below.refl _ _) _)).mono ?_; rintro e w1 ⟨rfl, hb1⟩))
  go_ret
  first | exact ⟨rfl, hb1⟩ | exact ⟨rfl, vonto (valloc_bel (Below.refl _ _) _) hb1⟩
end Go.Proofs.YtkhjahpkbjafaaaGreatDoor
namespace Go.Proofs.YtkhjahpkbjafaaaGreatDoor
open Go.RowKit

def tOne : VT := .mk 6 0 ⟨#[]⟩ [] [⟨#[97]⟩] [.mk 2 1 ⟨#[]⟩ [] [] []]
theorem one_hv (w : World) (g cap : Nat) (hc1 : 1 ≤ cap) (hc2 : cap ≤ maxLen) (h0 : w.cell? ⟨g, 0, none⟩ = some (.string ⟨#[97]⟩)) (h1 : w.cell? ⟨g, 1, none⟩ = some (.int .i64 2)) (h2 : w.cell? ⟨g, 2, none⟩ = some (.int .i64 1)) (h3 : w.cell? ⟨g, 3, none⟩ = some (.string ⟨#[]⟩)) (h4 : w.cell? ⟨g, 4, none⟩ = some (.slice none 0 0)) (h5 : w.cell? ⟨g, 5, none⟩ = some (.slice none 0 0)) :
    HV w tOne (.slice none 0 0) (.slice (some ⟨g, 0, none⟩) 1 cap) := by
  have hleaf : HV w (.mk 2 1 ⟨#[]⟩ [] [] []) (.slice none 0 0) (.slice none 0 0) := hv_leaf w 2 1 ⟨#[]⟩ (by decide) (by decide) (by decide)
  refine HV.mk ⟨0, 0, none⟩ ⟨g, 0, none⟩ (fun _ => .nilIface) (fun _ => .nilIface) (fun _ => .slice none 0 0) (fun _ => .slice none 0 0) (by decide) (by decide) (by decide) ⟨none, 0, rfl, Nat.le_refl _, Nat.zero_le _, fun h => absurd h (by simp)⟩ ⟨_, _, rfl, hc1, hc2, fun _ => rfl⟩ rfl (fun i t h => by simp at h) (fun i u h => ?_) (fun i t h => ?_) (fun i t h => by simp at h) (fun i t h => ?_)
  · cases i with
    | zero => simp at h; subst h; exact ⟨by simpa [Addr.add] using h0, by decide⟩
    | succ i => simp at h
  · cases i with
    | zero =>
      simp at h; subst h
      refine ⟨?_, ?_, ?_, ?_, ?_⟩
      · simpa [Addr.add, nx, VT.kd] using h1
      · simpa [Addr.add, nx, VT.nm] using h2
      · simpa [Addr.add, nx, VT.st] using h3
      · simpa [Addr.add, nx] using h4
      · simpa [Addr.add, nx] using h5
    | succ i => simp at h
  · cases i with
    | zero => simp at h; subst h; exact hleaf
    | succ i => simp at h
set_option maxRecDepth 100000 in
set_option maxHeartbeats 1000000 in
theorem one_any (w : World) :
    Calls Tryz.prog 37 #[] w fun e w' => ∃ y, e = .returned (vv tOne (.slice none 0 0) y) ∧ HV w' tOne (.slice none 0 0) y ∧ Below w.heap.size w w' := by
  go_enter Tryz.func37, Tryz.ntmps37
  go_wp2_with fail
  have hs := World.size_alloc w (.cells #[.int .i64 6, .int .i64 0, .string ⟨#[]⟩, .slice none 0 0, .slice (some ⟨w.heap.size + 1, 0, none⟩) 1 1] 27)
  have hB : Below w.heap.size w ((w.alloc (.cells #[.int .i64 6, .int .i64 0, .string ⟨#[]⟩, .slice none 0 0, .slice (some ⟨w.heap.size + 1, 0, none⟩) 1 1] 27)).alloc (.cells #[.string ⟨#[97]⟩, .int .i64 2, .int .i64 1, .string ⟨#[]⟩, .slice none 0 0, .slice none 0 0] 52)) := valloc_bel (valloc_bel (Below.refl _ _) _) _
  have hn := heap_alloc_new (w.alloc (.cells #[.int .i64 6, .int .i64 0, .string ⟨#[]⟩, .slice none 0 0, .slice (some ⟨w.heap.size + 1, 0, none⟩) 1 1] 27)) (.cells #[.string ⟨#[97]⟩, .int .i64 2, .int .i64 1, .string ⟨#[]⟩, .slice none 0 0, .slice none 0 0] 52)
  rw [hs] at hn
  have ho := (Lib.alloc_old _ (.cells #[.string ⟨#[97]⟩, .int .i64 2, .int .i64 1, .string ⟨#[]⟩, .slice none 0 0, .slice none 0 0] 52) w.heap.size (by omega)).trans (heap_alloc_new w (.cells #[.int .i64 6, .int .i64 0, .string ⟨#[]⟩, .slice none 0 0, .slice (some ⟨w.heap.size + 1, 0, none⟩) 1 1] 27))
  have b0 := cell_heap ho 0
  have b1 := cell_heap ho 1
  have b2 := cell_heap ho 2
  have b3 := cell_heap ho 3
  have b4 := cell_heap ho 4
  have HV1 := one_hv _ (w.heap.size + 1) 1 (Nat.le_refl _) (by unfold maxLen; omega) (cell_heap hn 0) (cell_heap hn 1) (cell_heap hn 2) (cell_heap hn 3) (cell_heap hn 4) (cell_heap hn 5)
  generalize ((w.alloc (.cells #[.int .i64 6, .int .i64 0, .string ⟨#[]⟩, .slice none 0 0, .slice (some ⟨w.heap.size + 1, 0, none⟩) 1 1] 27)).alloc (.cells #[.string ⟨#[97]⟩, .int .i64 2, .int .i64 1, .string ⟨#[]⟩, .slice none 0 0, .slice none 0 0] 52)) = W at b0 b1 b2 b3 b4 HV1 hB ⊢
  simp only [List.getElem?_toArray, List.getElem?_cons_zero, List.getElem?_cons_succ] at b0 b1 b2 b3 b4
  exact bodyPost_ret (v := vv tOne (.slice none 0 0) (.slice (some ⟨w.heap.size + 1, 0, none⟩) 1 1)) (by simp [results, Tryz.results37, go_sem, vv, tOne, VT.kd, VT.nm, VT.st, b0, b1, b2, b3, b4]) rfl ⟨_, rfl, HV1, hB⟩
theorem one_wr : mkS (wrB false tOne) = ⟨#[123, 34, 97, 34, 58, 49, 125]⟩ ∧ mkS (wrB true tOne) = ⟨#[123, 10, 32, 32, 34, 97, 34, 58, 32, 49, 10, 125]⟩ := by
  constructor <;> kernel_rfl
set_option maxRecDepth 100000 in
set_option maxHeartbeats 1000000 in
theorem awake9 (w : World) (hg : GlobP w) :
    Calls Tryz.prog 25 #[] w fun e w' => e = .returned (.bool true) ∧ Below w.heap.size w w' := by
  have HG := hid hg
  have CO := hid (fun X => one_any X)
  have CC := hid (fun (y : Value) X (hX : Below w.heap.size w X) (hv : HV X tOne (.slice none 0 0) y) => compact_any tOne (.slice none 0 0) y X (HG.out.on hX) hv)
  have CI := hid (fun (y : Value) X (hX : Below w.heap.size w X) (hv : HV X tOne (.slice none 0 0) y) => indent_any tOne (.slice none 0 0) y X (HG.out.on hX) hv)
  rw [one_wr.1] at CC
  rw [one_wr.2] at CI
  clear hg
  go_enter Tryz.func25, Tryz.ntmps25
  go_wp2_with fail
  go_at_call 37
  refine (CO.out _).mono ?_
  rintro e w1 ⟨y1, rfl, hv1, hb1⟩
  go_wp2_with fail
  go_at_call 26
  refine (CC.out _ _ hb1 hv1).mono ?_
  rintro e w2 ⟨rfl, hb2⟩
  have HB2 := hid (vonto hb1 hb2)
  clear hb1 hb2 hv1
  go_wp2_with fail
  go_at_call 37
  refine (CO.out _).mono ?_
  rintro e w3 ⟨y3, rfl, hv3, hb3⟩
  have HB3 := hid (vonto HB2.out hb3)
  go_wp2_with fail
  go_at_call 27
  refine (CI.out _ _ HB3.out hv3).mono ?_
  rintro e w4 ⟨rfl, hb4⟩
  have HB4 := hid (vonto HB3.out hb4)
  clear hb3 hv3 hb4
  go_wp2_with fail
  go_ret
  exact ⟨rfl, HB4.out⟩
end Go.Proofs.YtkhjahpkbjafaaaGreatDoor
namespace Go.Proofs.YtkhjahpkbjafaaaGreatDoor
open Go.RowKit

mutual
/-- has a tree a stamp? -/
def smB : VT → Bool
  | .mk k _ _ L _ V => decide (k = 7) || smL L || smL V
def smL : List VT → Bool
  | [] => false
  | t :: r => smB t || smL r
end
theorem smL_get : ∀ (L : List VT), smL L = false ↔ ∀ (i : Nat) (t : VT), L[i]? = some t → smB t = false
  | [] => by simp [smL]
  | a :: r => by
    simp only [smL, Bool.or_eq_false_iff]
    rw [smL_get r]
    constructor
    · rintro ⟨h1, h2⟩ i t hi
      cases i with
      | zero => simp at hi; subst hi; exact h1
      | succ i => simp at hi; exact h2 i t hi
    · intro g
      exact ⟨g 0 a rfl, fun i t hi => g (i + 1) t (by simpa using hi)⟩
mutual
theorem bk_same : ∀ v : VT, smB v = false → bkT v = v
  | .mk k n s L K V, h => by
    rw [smB, Bool.or_eq_false_iff, Bool.or_eq_false_iff, decide_eq_false_iff_not] at h
    rw [bkT, if_neg h.1.1, bkL_same L h.1.2, bkL_same V h.2]
theorem bkL_same : ∀ L : List VT, smL L = false → bkL L = L
  | [], _ => by rw [bkL]
  | t :: r, h => by
    rw [smL, Bool.or_eq_false_iff] at h
    rw [bkL, bk_same t h.1, bkL_same r h.2]
end
/-- words are one way only -/
theorem wds_one_way {T : List UInt8} {i : Nat} {a b : List Wd} (h : Wds T i a) (g : Wds T i b) : a = b := by
  have h1 := wds_lx h (T.length + 1) [] (by omega)
  have h2 := wds_lx g (T.length + 1) [] (by omega)
  have h3 := congrArg Prod.fst (h1.symm.trans h2)
  simpa using h3
/-- one text, one value -/
theorem text_one (i : Option Nat) (v u : VT) (hv : plainT v = true) (hu : plainT u = true) (wv : wfT v) (wu : wfT u) (dv : hgT v ≤ 32) (du : hgT u ≤ 32) (zv : szT v ≤ 4096) (zu : szT u ≤ 4096) (h : txs (tkV i v) = txs (tkV i u)) : bkT v = bkT u := by
  have h1 := tok_wds (tkV i v) [] ((okT_R _).2 (val_ok i v hv wv [] edr_nil))
  have h2 := tok_wds (tkV i u) [] ((okT_R _).2 (val_ok i u hu wu [] edr_nil))
  rw [List.nil_append, List.length_nil] at h1 h2
  rw [h] at h1
  have e := wds_one_way h1 h2
  have hs := congrArg (List.map shp) e
  rw [wdsT_N, wdsT_N, List.map_append, List.map_append, wdsN_sh, wdsN_sh, sh_val, sh_val] at hs
  have hs2 : shV v = shV u := (List.append_inj' hs rfl).1
  have r1 := jr_sp (szT v) v (Nat.le_refl _) hv wv (wdsN 0 (tkV i v)) [] 1 0 (2 * (wdsN 0 (tkV i v)).length + 1) (by rw [wdsN_sh, sh_val]) (by omega) (by omega) (Nat.le_refl _)
  have r2 := jr_sp (szT u) u (Nat.le_refl _) hu wu (wdsN 0 (tkV i v)) [] 1 0 (2 * (wdsN 0 (tkV i v)).length + 1) (by rw [wdsN_sh, sh_val, hs2]) (by omega) (by omega) (Nat.le_refl _)
  rw [r1] at r2
  injection r2
end Go.Proofs.YtkhjahpkbjafaaaGreatDoor
namespace Go.Proofs.YtkhjahpkbjafaaaGreatDoor
open Go.RowKit

mutual
theorem same_eq : ∀ T U : VT, sameT false T U = true → T = U
  | .mk k n s L K V, .mk k' n' s' L' K' V', h => by
    rw [sameT, Bool.and_eq_true, Bool.and_eq_true, Bool.and_eq_true, Bool.and_eq_true] at h
    obtain ⟨⟨⟨⟨h0, h5⟩, h6⟩, h7⟩, h8⟩ := h
    obtain ⟨h1, h2, h3, h4⟩ := of_decide_eq_true h0
    have h7 : K = K' := of_decide_eq_true h7
    have h1 : k = k' := h1
    have h2 : n = n' := h2
    have h5 : strB false k s s' = true := h5
    unfold strB at h5
    simp at h5
    rw [h1, h2, h5, h7, sameL_eq L L' h3 h6, sameL_eq V V' h4 h8]
theorem sameL_eq : ∀ L M : List VT, L.length = M.length → sameL false L M = true → L = M
  | [], [], _, _ => rfl
  | [], _ :: _, h, _ => by simp at h
  | _ :: _, [], h, _ => by simp at h
  | t :: r, u :: q, h, g => by
    rw [sameL, Bool.and_eq_true] at g
    rw [same_eq t u g.1, sameL_eq r q (by simpa using h) g.2]
end
mutual
theorem eq_same : ∀ T : VT, sameT false T T = true
  | .mk k n s L K V => by
    have h1 := eqL_same L
    have h2 := eqL_same V
    simp [sameT, strB, VT.kd, VT.nm, VT.st, VT.ls, VT.ks, VT.vs, h1, h2]
theorem eqL_same : ∀ L : List VT, sameL false L L = true
  | [] => by rw [sameL]
  | t :: r => by rw [sameL, eq_same t, eqL_same r]; rfl
end
/-- one text for each value without stamps -/
theorem texts_same (i : Option Nat) (v u : VT) (hv : mayB 0 1 v = true) (hu : mayB 0 1 u = true) (wv : wfT v) (wu : wfT u) (sv : smB v = false) (su : smB u = false) : decide (txs (tkV i v) = txs (tkV i u)) = sameT false v u := by
  obtain ⟨p1, z1, d1⟩ := may_parts hv
  obtain ⟨p2, z2, d2⟩ := may_parts hu
  cases hs : sameT false v u with
  | true => rw [same_eq v u hs]; exact decide_eq_true rfl
  | false =>
    refine decide_eq_false (fun h => ?_)
    have h1 := text_one i v u p1 p2 wv wu d1 d2 z1 z2 h
    rw [bk_same v sv, bk_same u su] at h1
    rw [h1, eq_same] at hs
    cases hs
end Go.Proofs.YtkhjahpkbjafaaaGreatDoor
