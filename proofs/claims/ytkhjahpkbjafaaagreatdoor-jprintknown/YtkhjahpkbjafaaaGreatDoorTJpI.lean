/- The program's printer of JSON, walked at every tree that may be. -/
import Derived.Test.YtkhjahpkbjafaaaGreatDoorTJpG
import Derived.Test.YtkhjahpkbjafaaaGreatDoorTMathLen
/- The program's printer of JSON: value, walked. -/
namespace Go.Proofs.YtkhjahpkbjafaaaGreatDoor
open Go.RowKit

theorem ind_up (inl : Bool) (k : Nat) : upN (indO inl k) = indO inl (k + 1) := by cases inl <;> rfl
/-- what a list's j-th part is written as -/
def gL (inl : Bool) (k : Nat) (L : List VT) (j : Nat) : List UInt8 := (L[j]?.map fun t => txs (tkV (indO inl (k + 1)) t)).getD []
theorem ptB_list (inl : Bool) (k : Nat) (L : List VT) : ∀ j, j ≤ L.length → 91 :: ptB inl k (gL inl k L) j = lsB (indO inl k) L j
  | 0, _ => by rw [ptB, lsB, List.take_zero, tkL]; rfl
  | j + 1, hj => by
    obtain ⟨t, ht⟩ : ∃ t, L[j]? = some t := ⟨L[j]'(by omega), List.getElem?_eq_getElem (by omega)⟩
    have ih := ptB_list inl k L j (by omega)
    have e : gL inl k L j = txs (tkV (indO inl (k + 1)) t) := by unfold gL; rw [ht]; rfl
    rw [lsB_next ht, ← ih, ptB, ind_up, e]; rfl
theorem pt_list_end (inl : Bool) (k : Nat) (n : Int) (s : ByteArray) (L : List VT) (K : List ByteArray) (V : List VT) : 91 :: (ptB inl k (gL inl k L) L.length ++ ((if L.length = 0 then [] else txs (lnT (indO inl k))) ++ [93])) = txs (tkV (indO inl k) (.mk 5 n s L K V)) := by
  rw [← List.cons_append, ptB_list inl k L _ (Nat.le_refl _)]
  by_cases h : L = []
  · subst h
    rw [lsB, tkV, if_pos rfl]; simp [tkL, txs, Tk.tx]
  · rw [lsB_end h, if_neg (by have := List.length_pos_iff.2 h; omega)]
def gM (inl : Bool) (k : Nat) (V : List VT) (K : List ByteArray) (j : Nat) : List UInt8 := (V[j]?.bind fun t => K[j]?.map fun c => qtA false c.data.toList ++ txs (clnT (indO inl 0)) ++ txs (tkV (indO inl (k + 1)) t)).getD []
theorem cln_any (inl : Bool) (k : Nat) : clnT (indO inl k) = clnT (indO inl 0) := by cases inl <;> rfl
theorem gM_at {inl : Bool} {k : Nat} {V : List VT} {K : List ByteArray} {j : Nat} {t : VT} {c : ByteArray} (ht : V[j]? = some t) (hc : K[j]? = some c) : gM inl k V K j = qtA false c.data.toList ++ txs (clnT (indO inl 0)) ++ txs (tkV (indO inl (k + 1)) t) := by
  unfold gM; rw [ht, hc]; rfl
theorem ptB_map (inl : Bool) (k : Nat) (V : List VT) (K : List ByteArray) (hK : K.length = V.length) : ∀ j, j ≤ V.length → 123 :: ptB inl k (gM inl k V K) j = msB (indO inl k) V K j
  | 0, _ => by rw [ptB, msB, List.take_zero, List.take_zero, tkM]; rfl
  | j + 1, hj => by
    obtain ⟨t, ht⟩ : ∃ t, V[j]? = some t := ⟨V[j]'(by omega), List.getElem?_eq_getElem (by omega)⟩
    obtain ⟨c, hc⟩ : ∃ c, K[j]? = some c := ⟨K[j]'(by omega), List.getElem?_eq_getElem (by omega)⟩
    have ih := ptB_map inl k V K hK j (by omega)
    rw [msB_next ht hc, ← ih, ptB, ind_up, gM_at ht hc, cln_any inl k]
    simp
theorem pt_map_end (inl : Bool) (k : Nat) (n : Int) (s : ByteArray) (L : List VT) (K : List ByteArray) (V : List VT) (hK : K.length = V.length) : 123 :: (ptB inl k (gM inl k V K) V.length ++ ((if V.length = 0 then [] else txs (lnT (indO inl k))) ++ [125])) = txs (tkV (indO inl k) (.mk 6 n s L K V)) := by
  rw [← List.cons_append, ptB_map inl k V K hK _ (Nat.le_refl _)]
  by_cases h : V = []
  · subst h
    rw [show ([] : List VT).length = 0 from rfl, if_pos rfl, msB, tkV, if_neg (by decide), if_pos rfl]; simp [tkM, txs, Tk.tx]
  · rw [msB_end h hK, if_neg (by have := List.length_pos_iff.2 h; omega)]
theorem heap3 (w : World) (A B C : Obj) : (((w.alloc A).alloc B).alloc C).heap[w.heap.size]? = some A ∧ (((w.alloc A).alloc B).alloc C).heap[w.heap.size + 1]? = some B ∧ (((w.alloc A).alloc B).alloc C).heap[w.heap.size + 2]? = some C := by
  have s1 := World.size_alloc w A
  have s2 := World.size_alloc (w.alloc A) B
  refine ⟨?_, ?_, ?_⟩
  · rw [Lib.alloc_old _ _ _ (by omega), Lib.alloc_old _ _ _ (by omega)]; exact heap_alloc_new w A
  · rw [Lib.alloc_old _ _ _ (by omega), ← s1]; exact heap_alloc_new (w.alloc A) B
  · rw [show w.heap.size + 2 = ((w.alloc A).alloc B).heap.size from by omega]; exact heap_alloc_new ((w.alloc A).alloc B) C
def PvOk (N : Nat) : Prop := ∀ (T : VT) (x y : Value) (b : Nat) (l : List UInt8) (inl : Bool) (k : Nat) (u w : World), szT T ≤ N → HV u T x y → Below u.heap.size u w → u.heap.size ≤ b → GlobT u → plainT T = true → Pr w b l inl → k + hgT T ≤ 9999 → szT T ≤ 100000 → (txs (tkV (indO inl k) T)).length ≤ 300000000 → l.length + 400000000 * hgT T ≤ 300000000000 →
    Calls Tryz.prog 51 #[.pointer (some ⟨b, 0, none⟩), vv T x y, .int .i64 (k : Int)] w (Wr b (l ++ txs (tkV (indO inl k) T)) inl w)
/-- what stands in the three boxes, whatever was written since -/
theorem box_facts {b : Nat} {w X : World} {k : Nat} {c0 c1 c2 c3 c4 : Value} (hlt : b < w.heap.size) (h : Kp b (((w.alloc (.cells #[.pointer (some ⟨b, 0, none⟩)] 103)).alloc (.cells #[c0, c1, c2, c3, c4] 27)).alloc (.cells #[.int .i64 (k : Int)] 3)) X) :
    X.cell? ⟨w.heap.size, 0, none⟩ = some (.pointer (some ⟨b, 0, none⟩)) ∧ (∀ (j : Nat) (v : Value), [c0, c1, c2, c3, c4][j]? = some v → X.cell? ⟨w.heap.size + 1, j, none⟩ = some v) ∧ X.cell? ⟨w.heap.size + 2, 0, none⟩ = some (.int .i64 (k : Int)) := by
  obtain ⟨h1, h2, h3⟩ := heap3 w (.cells #[.pointer (some ⟨b, 0, none⟩)] 103) (.cells #[c0, c1, c2, c3, c4] 27) (.cells #[.int .i64 (k : Int)] 3)
  exact ⟨h.cellk h1 (by omega) (by decide) rfl, fun j v hv => h.cellk h2 (by omega) (by decide) (by simpa using hv), h.cellk h3 (by omega) (by decide) rfl⟩
end Go.Proofs.YtkhjahpkbjafaaaGreatDoor
namespace Go.Proofs.YtkhjahpkbjafaaaGreatDoor
open Go.RowKit

set_option maxRecDepth 100000 in
set_option maxHeartbeats 4000000 in
theorem pvalue_leaf (k n : Int) (s : ByteArray) (L V : List VT) (K : List ByteArray) (x y : Value) (b : Nat) (l : List UInt8) (inl : Bool) (d : Nat) (w : World) (hg : GlobT w) (hn : -9223372036854775808 ≤ n ∧ n < 9223372036854775808) (hnode : nodeB (.mk k n s L K V) = true) (h5 : ¬ k = 5) (h6 : ¬ k = 6) (h : Pr w b l inl) (hl : l.length ≤ 1000000000000) :
    Calls Tryz.prog 51 #[.pointer (some ⟨b, 0, none⟩), .agg #[.int .i64 k, .int .i64 n, .string s, x, y], .int .i64 (d : Int)] w (Wr b (l ++ (tkS k n s).tx) inl w) := by
  have hlt := h.lt
  have hz := one_len hnode hn h5 h6
  have CS := hid (fun X (hX : Below w.heap.size w X) => psingle_any k n s L V K x y X (hg.on hX) hn hnode h5 h6)
  obtain ⟨m, hm⟩ : ∃ m, mkS (tkS k n s).tx = m := ⟨_, rfl⟩
  rw [hm] at CS
  have hms : m.size ≤ 30000 := by rw [← hm, mkS_size]; omega
  have HM := hid (show (tkS k n s).tx = m.data.toList by rw [← hm, mkS_list])
  have CW := hid (fun X (hX : Pr X b l inl) => pwrite_any b l inl m X hX (by omega))
  have k5 : (k == 5) = false := by simpa using h5
  have k6 : (k == 6) = false := by simpa using h6
  have hB : Below w.heap.size w (((w.alloc (.cells #[.pointer (some ⟨b, 0, none⟩)] 103)).alloc (.cells #[.int .i64 k, .int .i64 n, .string s, x, y] 27)).alloc (.cells #[.int .i64 (d : Int)] 3)) := valloc_bel (valloc_bel (valloc_bel (Below.refl _ _) _) _) _
  have HP := hid (h.on hB)
  have HB := hid hB
  have HK0 := hid (Kp.of hB (Nat.le_of_lt hlt))
  have BX : Hid (∀ X, Kp b (((w.alloc (.cells #[.pointer (some ⟨b, 0, none⟩)] 103)).alloc (.cells #[.int .i64 k, .int .i64 n, .string s, x, y] 27)).alloc (.cells #[.int .i64 (d : Int)] 3)) X → _) := fun X hX => box_facts hlt hX
  clear hg hnode h hm hz hB
  go_enter Tryz.func51, Tryz.ntmps51
  go_upto_region 2 with fail
  generalize hW3 : (((w.alloc (.cells #[.pointer (some ⟨b, 0, none⟩)] 103)).alloc (.cells #[.int .i64 k, .int .i64 n, .string s, x, y] 27)).alloc (.cells #[.int .i64 (d : Int)] 3)) = W3 at HP HB HK0 BX ⊢
  clear hW3
  refine wp_region_h (S := fun X => Kp b W3 X) 6 (by kernel_rfl) (by kernel_rfl) ?_
  have hS0 : Kp b W3 W3.drew := Kp.drew W3
  refine take_h (i := 0) (v := ?_) rfl (by kernel_rfl) (by kernel_rfl) (by kernel_rfl) (fun _ _ _ h => h) (by rfl) ?_ hS0 ?_
  rotate_left
  · (intro X hX; obtain ⟨y0, y1, y2⟩ := BX.out X hX; have z0 := y1 0 _ rfl; have z1 := y1 1 _ rfl; have z2 := y1 2 _ rfl; have z3 := y1 3 _ rfl; have z4 := y1 4 _ rfl; clear y1; go_simp; try with_reducible rfl)
  simp only [Act.put, List.setIfInBounds_toArray, List.set_cons_zero, List.set_cons_succ]
  refine take_h (i := 1) (v := ?_) rfl (by kernel_rfl) (by kernel_rfl) (by kernel_rfl) (fun _ _ _ h => h) (by rfl) ?_ hS0 ?_
  rotate_left
  · (intro X hX; obtain ⟨y0, y1, y2⟩ := BX.out X hX; have z0 := y1 0 _ rfl; have z1 := y1 1 _ rfl; have z2 := y1 2 _ rfl; have z3 := y1 3 _ rfl; have z4 := y1 4 _ rfl; clear y1; go_simp; try with_reducible rfl)
  simp only [Act.put, List.setIfInBounds_toArray, List.set_cons_zero, List.set_cons_succ]
  refine take_h (i := 2) (v := ?_) rfl (by kernel_rfl) (by kernel_rfl) (by kernel_rfl) (fun _ _ _ h => h) (by rfl) ?_ hS0 ?_
  rotate_left
  · (intro X hX; obtain ⟨y0, y1, y2⟩ := BX.out X hX; have z0 := y1 0 _ rfl; have z1 := y1 1 _ rfl; have z2 := y1 2 _ rfl; have z3 := y1 3 _ rfl; have z4 := y1 4 _ rfl; clear y1; go_simp; try with_reducible rfl)
  simp only [Act.put, List.setIfInBounds_toArray, List.set_cons_zero, List.set_cons_succ]
  refine take_h (i := 3) (v := ?_) rfl (by kernel_rfl) (by kernel_rfl) (by kernel_rfl) (fun _ _ _ h => h) (by rfl) ?_ hS0 ?_
  rotate_left
  · (intro X hX; obtain ⟨y0, y1, y2⟩ := BX.out X hX; have z0 := y1 0 _ rfl; have z1 := y1 1 _ rfl; have z2 := y1 2 _ rfl; have z3 := y1 3 _ rfl; have z4 := y1 4 _ rfl; clear y1; go_simp; try with_reducible rfl)
  simp only [Act.put, List.setIfInBounds_toArray, List.set_cons_zero, List.set_cons_succ]
  refine step_h (i := 4) rfl (by kernel_rfl) ?_
  intro KK hKK
  go_simp
  go_wp2_with (go_at_call 72; go_must (refine (CS.out _ HB.out.drew).mono ?_; rintro e w1 ⟨rfl, hb1⟩))
  have hS1 : Kp b W3 w1 := hS0.trans (Kp.of hb1 (Nat.le_of_lt HP.out.drew.lt))
  have HP1 := hid (HP.out.drew.on hb1)
  refine hKK.out _ _ hS1 (fun _ => ?_)
  clear hKK KK
  refine step_h (i := 5) rfl (by kernel_rfl) ?_
  intro KK hKK
  go_simp
  go_wp2_with (go_at_call 71; go_must (refine (CW.out _ HP1.out).mono ?_; rintro e w2 ⟨rfl, hp2, hk2⟩))
  have hS2 : Kp b W3 w2 := hS1.trans hk2
  refine hKK.out _ _ hS2 (fun _ => ?_)
  clear hKK KK
  refine wpAnyH_done (by kernel_rfl) ?_ _
  go_wp2
  first | go_end0 | refine bodyPost_ret (results_none rfl _ _ _) rfl ?_
  rw [← HM.out] at hp2
  exact ⟨rfl, hp2, HK0.out.trans hS2⟩
end Go.Proofs.YtkhjahpkbjafaaaGreatDoor
