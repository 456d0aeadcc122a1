/- The program's printer of TOML: a value within a line. -/
import Derived.Test.YtiaepihdfbahaaaGreatDoorATqE
import Derived.Test.YtiaepihdfbahaaaGreatDoorARpG
namespace Go.Proofs.YtiaepihdfbahaaaGreatDoor
open Go.RowKit

/-- what a list's j-th part is written as -/
def gTl (L : List VT) (j : Nat) : List UInt8 := (L[j]?.map ivT).getD []
theorem tpt_list (L : List VT) : ∀ j, j ≤ L.length → 91 :: tptB (gTl L) j = ilB L j
  | 0, _ => by rw [tptB, ilB, List.take_zero, ivL]
  | j + 1, hj => by
    obtain ⟨t, ht⟩ : ∃ t, L[j]? = some t := ⟨L[j]'(by omega), List.getElem?_eq_getElem (by omega)⟩
    have e : gTl L j = ivT t := by unfold gTl; rw [ht]; rfl
    rw [il_next ht, ← tpt_list L j (by omega), tptB, e]; rfl
theorem tpt_list_end (n : Int) (s : ByteArray) (L : List VT) (K : List ByteArray) (V : List VT) : 91 :: (tptB (gTl L) L.length ++ [93]) = ivT (.mk 5 n s L K V) := by
  rw [← List.cons_append, tpt_list L _ (Nat.le_refl _), il_end]
def gTm (V : List VT) (K : List ByteArray) (j : Nat) : List UInt8 := (V[j]?.bind fun t => K[j]?.map fun c => pkB c.data.toList ++ [32, 61, 32] ++ ivT t).getD []
theorem gTm_at {V : List VT} {K : List ByteArray} {j : Nat} {t : VT} {c : ByteArray} (ht : V[j]? = some t) (hc : K[j]? = some c) : gTm V K j = pkB c.data.toList ++ [32, 61, 32] ++ ivT t := by
  unfold gTm; rw [ht, hc]; rfl
theorem tpt_map (V : List VT) (K : List ByteArray) (hK : K.length = V.length) : ∀ j, j ≤ V.length → 123 :: tptB (gTm V K) j = imB V K j
  | 0, _ => by rw [tptB, imB, List.take_zero, List.take_zero, ivM]
  | j + 1, hj => by
    obtain ⟨t, ht⟩ : ∃ t, V[j]? = some t := ⟨V[j]'(by omega), List.getElem?_eq_getElem (by omega)⟩
    obtain ⟨c, hc⟩ : ∃ c, K[j]? = some c := ⟨K[j]'(by omega), List.getElem?_eq_getElem (by omega)⟩
    rw [im_next ht hc, ← tpt_map V K hK j (by omega), tptB, gTm_at ht hc]
    simp
theorem tpt_map_end (n : Int) (s : ByteArray) (L : List VT) (K : List ByteArray) (V : List VT) (hK : K.length = V.length) : 123 :: (tptB (gTm V K) V.length ++ [125]) = ivT (.mk 6 n s L K V) := by
  rw [← List.cons_append, tpt_map V K hK _ (Nat.le_refl _), im_end hK]
theorem theap2 (w : World) (A B : Obj) : ((w.alloc A).alloc B).heap[w.heap.size]? = some A ∧ ((w.alloc A).alloc B).heap[w.heap.size + 1]? = some B := by
  have s1 := World.size_alloc w A
  refine ⟨?_, ?_⟩
  · rw [Lib.alloc_old _ _ _ (by omega)]; exact heap_alloc_new w A
  · rw [← s1]; exact heap_alloc_new (w.alloc A) B
def TvOk (N : Nat) : Prop := ∀ (T : VT) (x y : Value) (b : Nat) (l : List UInt8) (u w : World), szT T ≤ N → HV u T x y → Below u.heap.size u w → u.heap.size ≤ b → GlobW u → plainT T = true → Tr w b l → szT T ≤ 100000 → (ivT T).length ≤ 300000000 → l.length + 400000000 * hgT T ≤ 300000000000 →
    Calls Tryz.prog 53 #[.pointer (some ⟨b, 0, none⟩), vv T x y] w (Wt b (l ++ ivT T) w)
/-- what stands in the two boxes, whatever was written since -/
theorem tbox_facts {b : Nat} {w X : World} {c0 c1 c2 c3 c4 : Value} (hlt : b < w.heap.size) (h : Kt b ((w.alloc (.cells #[.pointer (some ⟨b, 0, none⟩)] 51)).alloc (.cells #[c0, c1, c2, c3, c4] 27)) X) :
    X.cell? ⟨w.heap.size, 0, none⟩ = some (.pointer (some ⟨b, 0, none⟩)) ∧ (∀ (j : Nat) (v : Value), [c0, c1, c2, c3, c4][j]? = some v → X.cell? ⟨w.heap.size + 1, j, none⟩ = some v) := by
  obtain ⟨h1, h2⟩ := theap2 w (.cells #[.pointer (some ⟨b, 0, none⟩)] 51) (.cells #[c0, c1, c2, c3, c4] 27)
  exact ⟨h.cellk h1 (by omega) (by decide) rfl, fun j v hv => h.cellk h2 (by omega) (by decide) (by simpa using hv)⟩
theorem sg_len {k n : Int} {s : ByteArray} {L V : List VT} {K : List ByteArray} (hnode : nodeB (.mk k n s L K V) = true) (hn : -9223372036854775808 ≤ n ∧ n < 9223372036854775808) : (sgS k n s).length ≤ 30000 := by
  unfold nodeB nodeC at hnode
  simp only [VT.kd, VT.nm, VT.st, VT.ls, VT.ks, VT.vs] at hnode
  unfold sgS
  have hz := size_list s
  by_cases h1 : k = 1
  · rw [if_pos h1]; split <;> simp
  rw [if_neg h1]
  by_cases h2 : k = 2
  · rw [if_pos h2]; have := txt_len n hn.1 hn.2; omega
  rw [if_neg h2]
  by_cases h4 : k = 4
  · rw [if_pos h4]
    subst h4
    simp at hnode
    have h5 := tq_te hnode.1.1.2
    unfold qtA
    have h2 := qtK_len true s.data.toList (cnt s.data.toList)
    have h3 := cnt_le s.data.toList
    rw [size_list] at h3
    rw [List.length_append, List.length_singleton]; omega
  rw [if_neg h4]
  by_cases h3 : k = 3
  · subst h3
    simp at hnode
    have h5 := hnode.1.1.2.1
    unfold numB at h5
    simp only [Bool.and_eq_true, decide_eq_true_eq] at h5
    have := h5.2
    omega
  by_cases h7 : k = 7
  · subst h7
    simp at hnode
    have h5 := hnode.1.1.2
    unfold stampB at h5
    simp only [Bool.and_eq_true, decide_eq_true_eq] at h5
    omega
  have he : s.toList.isEmpty = true → s.data.toList.length = 0 := fun h => by rw [Lib.toList_data] at h; rw [List.isEmpty_iff.1 h]; rfl
  by_cases h0 : k = 0
  · subst h0; simp at hnode; have := he (by simpa using hnode.1.1.2); omega
  by_cases h5 : k = 5
  · subst h5; simp at hnode; have := he (by simpa using hnode.1.2); omega
  by_cases h6 : k = 6
  · subst h6; simp at hnode; have := he (by simpa using hnode.1.1.2); omega
  simp [h0, h1, h2, h3, h4, h7, h5, h6] at hnode
set_option maxRecDepth 100000 in
set_option maxHeartbeats 4000000 in
theorem tvalue_leaf (k n : Int) (s : ByteArray) (L V : List VT) (K : List ByteArray) (x y : Value) (b : Nat) (l : List UInt8) (w : World) (hg : GlobW w) (hn : -9223372036854775808 ≤ n ∧ n < 9223372036854775808) (hnode : nodeB (.mk k n s L K V) = true) (h5 : ¬ k = 5) (h6 : ¬ k = 6) (h : Tr w b l) (hl : l.length ≤ 1000000000000) :
    Calls Tryz.prog 53 #[.pointer (some ⟨b, 0, none⟩), .agg #[.int .i64 k, .int .i64 n, .string s, x, y]] w (Wt b (l ++ sgS k n s) w) := by
  have hlt := h.lt
  have hz := sg_len hnode hn
  have CS := hid (fun X (hX : Below w.heap.size w X) => tsingle_any k n s L V K x y X (hg.on hX) hn hnode h5 h6)
  obtain ⟨m, hm⟩ : ∃ m, mkS (sgS k n s) = m := ⟨_, rfl⟩
  rw [hm] at CS
  have hms : m.size ≤ 30000 := by rw [← hm, mkS_size]; omega
  have HM := hid (show sgS k n s = m.data.toList by rw [← hm, mkS_list])
  have CW := hid (fun X (hX : Tr X b l) => twrite_any b l m X hX (by omega))
  have k5 : (k == 5) = false := by simpa using h5
  have k6 : (k == 6) = false := by simpa using h6
  have hB : Below w.heap.size w ((w.alloc (.cells #[.pointer (some ⟨b, 0, none⟩)] 51)).alloc (.cells #[.int .i64 k, .int .i64 n, .string s, x, y] 27)) := valloc_bel (valloc_bel (Below.refl _ _) _) _
  have HP := hid (h.on hB)
  have HB := hid hB
  have HK0 := hid (Kt.of (b := b) hB (Nat.le_of_lt hlt))
  have BX : Hid (∀ X, Kt b ((w.alloc (.cells #[.pointer (some ⟨b, 0, none⟩)] 51)).alloc (.cells #[.int .i64 k, .int .i64 n, .string s, x, y] 27)) X → _) := fun X hX => tbox_facts hlt hX
  clear hg hnode h hm hz hB
  go_enter Tryz.func53, Tryz.ntmps53
  go_upto_region 2 with fail
  generalize hW3 : ((w.alloc (.cells #[.pointer (some ⟨b, 0, none⟩)] 51)).alloc (.cells #[.int .i64 k, .int .i64 n, .string s, x, y] 27)) = W3 at HP HB HK0 BX ⊢
  clear hW3
  refine wp_region_h (S := fun X => Kt b W3 X) 6 (by kernel_rfl) (by kernel_rfl) ?_
  have hS0 : Kt b W3 W3.drew := Kt.drew W3
  refine take_h (i := 0) (v := ?_) rfl (by kernel_rfl) (by kernel_rfl) (by kernel_rfl) (fun _ _ _ h => h) (by rfl) ?_ hS0 ?_
  rotate_left
  · (intro X hX; obtain ⟨y0, y1⟩ := BX.out X hX; have z0 := y1 0 _ rfl; have z1 := y1 1 _ rfl; have z2 := y1 2 _ rfl; have z3 := y1 3 _ rfl; have z4 := y1 4 _ rfl; clear y1; go_simp; try with_reducible rfl)
  simp only [Act.put, List.setIfInBounds_toArray, List.set_cons_zero, List.set_cons_succ]
  refine take_h (i := 1) (v := ?_) rfl (by kernel_rfl) (by kernel_rfl) (by kernel_rfl) (fun _ _ _ h => h) (by rfl) ?_ hS0 ?_
  rotate_left
  · (intro X hX; obtain ⟨y0, y1⟩ := BX.out X hX; have z0 := y1 0 _ rfl; have z1 := y1 1 _ rfl; have z2 := y1 2 _ rfl; have z3 := y1 3 _ rfl; have z4 := y1 4 _ rfl; clear y1; go_simp; try with_reducible rfl)
  simp only [Act.put, List.setIfInBounds_toArray, List.set_cons_zero, List.set_cons_succ]
  refine take_h (i := 2) (v := ?_) rfl (by kernel_rfl) (by kernel_rfl) (by kernel_rfl) (fun _ _ _ h => h) (by rfl) ?_ hS0 ?_
  rotate_left
  · (intro X hX; obtain ⟨y0, y1⟩ := BX.out X hX; have z0 := y1 0 _ rfl; have z1 := y1 1 _ rfl; have z2 := y1 2 _ rfl; have z3 := y1 3 _ rfl; have z4 := y1 4 _ rfl; clear y1; go_simp; try with_reducible rfl)
  simp only [Act.put, List.setIfInBounds_toArray, List.set_cons_zero, List.set_cons_succ]
  refine take_h (i := 3) (v := ?_) rfl (by kernel_rfl) (by kernel_rfl) (by kernel_rfl) (fun _ _ _ h => h) (by rfl) ?_ hS0 ?_
  rotate_left
  · (intro X hX; obtain ⟨y0, y1⟩ := BX.out X hX; have z0 := y1 0 _ rfl; have z1 := y1 1 _ rfl; have z2 := y1 2 _ rfl; have z3 := y1 3 _ rfl; have z4 := y1 4 _ rfl; clear y1; go_simp; try with_reducible rfl)
  simp only [Act.put, List.setIfInBounds_toArray, List.set_cons_zero, List.set_cons_succ]
  refine step_h (i := 4) rfl (by kernel_rfl) ?_
  intro KK hKK
  go_simp
  go_wp2_with (go_at_call 78; go_must (refine (CS.out _ HB.out.drew).mono ?_; rintro e w1 ⟨rfl, hb1⟩))
  have hS1 : Kt b W3 w1 := hS0.trans (Kt.of hb1 (Nat.le_of_lt HP.out.drew.lt))
  have HP1 := hid (HP.out.drew.on hb1)
  refine hKK.out _ _ hS1 (fun _ => ?_)
  clear hKK KK
  refine step_h (i := 5) rfl (by kernel_rfl) ?_
  intro KK hKK
  go_simp
  go_wp2_with (go_at_call 31; go_must (refine (CW.out _ HP1.out).mono ?_; rintro e w2 ⟨rfl, hp2, hk2⟩))
  have hS2 : Kt b W3 w2 := hS1.trans hk2
  refine hKK.out _ _ hS2 (fun _ => ?_)
  clear hKK KK
  refine wpAnyH_done (by kernel_rfl) ?_ _
  go_wp2
  first | go_end0 | refine bodyPost_ret (results_none rfl _ _ _) rfl ?_
  rw [← HM.out] at hp2
  exact ⟨rfl, hp2, HK0.out.trans hS2⟩
theorem Tryz.teL : ∀ args w, (callFunc 76 args).run Tryz.prog w = .ok (.enter 76 args) w := enters_of Tryz.func76 (by kernel_rfl) rfl
theorem Tryz.teM : ∀ args w, (callFunc 77 args).run Tryz.prog w = .ok (.enter 77 args) w := enters_of Tryz.func77 (by kernel_rfl) rfl
set_option maxRecDepth 100000 in
set_option maxHeartbeats 4000000 in
theorem tvalue_list (N : Nat) (ih : TvOk N) (n : Int) (s : ByteArray) (L : List VT) (x : Value) (o' : Option Addr) (c' : Nat) (b : Nat) (l : List UInt8) (u w : World) (hN : szT (.mk 5 n s L [] []) ≤ N + 1) (hT : HV u (.mk 5 n s L [] []) x (.slice o' 0 c')) (hu : Below u.heap.size u w) (hub : u.heap.size ≤ b) (hg : GlobW u) (hpL : plainL L = true) (h : Tr w b l) (hz : szT (.mk 5 n s L [] []) ≤ 100000)
    (hlen : (ivT (.mk 5 n s L [] [])).length ≤ 300000000) (hl : l.length + 400000000 * hgT (.mk 5 n s L [] []) ≤ 300000000000) :
    Calls Tryz.prog 53 #[.pointer (some ⟨b, 0, none⟩), .agg #[.int .i64 5, .int .i64 n, .string s, x, .slice o' 0 c']] w (Wt b (l ++ ivT (.mk 5 n s L [] [])) w) := by
  have hlt := h.lt
  cases hT with
  | mk a b' f g p q hk' hn hs hL hM hK cL cK cM rL rM =>
  obtain ⟨oL, capL, rfl, hL1, hL2, hL3⟩ := hL
  have hsz : szT (.mk 5 n s L [] []) = 1 + szL L := by simp [szT, szL]
  have hhg : hgT (.mk 5 n s L [] []) = 1 + hgL L := by simp [hgT, hgL]
  rw [hsz] at hN hz
  rw [hhg] at hl
  have hE := tpt_list_end n s L [] []
  have hEl := congrArg List.length hE
  rw [List.length_cons, List.length_append] at hEl
  have hLs : L.length ≤ szL L := len_szL L
  unfold maxLen at hL2
  have hB : Below w.heap.size w ((w.alloc (.cells #[.pointer (some ⟨b, 0, none⟩)] 51)).alloc (.cells #[.int .i64 5, .int .i64 n, .string s, .slice oL L.length capL, .slice o' 0 c'] 27)) := valloc_bel (valloc_bel (Below.refl _ _) _) _
  have HP := hid (h.on hB)
  have HK0 := hid (Kt.of (b := b) hB (Nat.le_of_lt hlt))
  have hB3 : Below u.heap.size u ((w.alloc (.cells #[.pointer (some ⟨b, 0, none⟩)] 51)).alloc (.cells #[.int .i64 5, .int .i64 n, .string s, .slice oL L.length capL, .slice o' 0 c'] 27)) := vonto hu hB
  have BX : ∀ X, Kt b ((w.alloc (.cells #[.pointer (some ⟨b, 0, none⟩)] 51)).alloc (.cells #[.int .i64 5, .int .i64 n, .string s, .slice oL L.length capL, .slice o' 0 c'] 27)) X → _ := fun X hX => tbox_facts hlt hX
  have y0 := (BX _ (Kt.refl _ _)).1
  have y1 := (BX _ (Kt.refl _ _)).2 0 _ rfl
  have y3 := (BX _ (Kt.refl _ _)).2 3 _ rfl
  have CP : Hid (Calls Tryz.prog 75 #[.pointer (some ⟨b, 0, none⟩), .string ⟨#[91]⟩, .string ⟨#[93]⟩, .int .i64 (L.length : Int), .func (.func 76) #[] #[.pointer (some ⟨w.heap.size, 0, none⟩), .pointer (some ⟨w.heap.size + 1, 0, none⟩)]] ((w.alloc (.cells #[.pointer (some ⟨b, 0, none⟩)] 51)).alloc (.cells #[.int .i64 5, .int .i64 n, .string s, .slice oL L.length capL, .slice o' 0 c'] 27)) (Wt b (l ++ ivT (.mk 5 n s L [] [])) ((w.alloc (.cells #[.pointer (some ⟨b, 0, none⟩)] 51)).alloc (.cells #[.int .i64 5, .int .i64 n, .string s, .slice oL L.length capL, .slice o' 0 c'] 27)))) := by
    rw [← hE]
    refine tparts_any 76 _ b 91 93 L.length (gTl L) l _ Tryz.teL ?_ HP.out (by omega) (by omega)
    intro j l' X hj hX hPX hl'
    obtain ⟨t, ht⟩ : ∃ t, L[j]? = some t := ⟨L[j], List.getElem?_eq_getElem hj⟩
    obtain rfl := hL3 (by omega)
    have hsub := il_sub (n := n) (s := s) (K := []) (V := []) ht
    have hht := (hgL_get L _).1 (Nat.le_refl _) j t ht
    have hst := szL_get L j t ht
    have hmul : 400000000 * hgT t + 400000000 ≤ 400000000 * (1 + hgL L) := by omega
    have e : gTl L j = ivT t := by unfold gTl; rw [ht]; rfl
    rw [e]
    obtain ⟨o1, n1, c1, o2, n2, c2, hf, hg2⟩ := hv_slices (rL j t ht)
    refine tclos_list b l' _ t o1 o2 n1 c1 n2 c2 w.heap.size (w.heap.size + 1) a L.length capL j X hj hPX (fun Y hY => (BX Y (hX.trans hY)).1) (fun Y hY => (BX Y (hX.trans hY)).2 3 _ rfl) (fun Y hY => ?_) (fun Y hY hPY => ?_)
    · have := (cL j t ht).onto (hB3.trans ((hX.trans hY).1.mono hub))
      rw [hf, hg2] at this
      exact this
    · have hr := rL j t ht
      rw [hf, hg2] at hr
      exact ih t _ _ b _ u Y (by omega) hr (hB3.trans ((hX.trans hY).1.mono hub)) hub hg ((plainL_get L).1 hpL j t ht) hPY (by omega) (by omega) (by omega)
  clear BX ih hg hpL hu hE hEl hlen hl hN hz hsz hhg cL cK cM rL rM hB hB3 h HP
  go_enter Tryz.func53, Tryz.ntmps53
  go_upto_region 4 with fail
  generalize ((w.alloc (.cells #[.pointer (some ⟨b, 0, none⟩)] 51)).alloc (.cells #[.int .i64 5, .int .i64 n, .string s, .slice oL L.length capL, .slice o' 0 c'] 27)) = W3 at y0 y1 y3 CP HK0 ⊢
  go_wp2_with fail
  go_at_call 75
  refine CP.out.mono ?_
  rintro e w1 ⟨rfl, hp1, hk1⟩
  go_wp2_with fail
  first | go_end0 | refine bodyPost_ret (results_none rfl _ _ _) rfl ?_
  exact ⟨rfl, hp1, HK0.out.trans hk1⟩
set_option maxRecDepth 100000 in
set_option maxHeartbeats 4000000 in
theorem tvalue_map (N : Nat) (ih : TvOk N) (n : Int) (s : ByteArray) (V : List VT) (K : List ByteArray) (x : Value) (o' : Option Addr) (c' : Nat) (b : Nat) (l : List UInt8) (u w : World) (hN : szT (.mk 6 n s [] K V) ≤ N + 1) (hT : HV u (.mk 6 n s [] K V) (.slice o' 0 c') x) (hu : Below u.heap.size u w) (hub : u.heap.size ≤ b) (hg : GlobW u) (hpL : plainL V = true) (hks : ∀ c ∈ K, c.size ≤ 4096) (h : Tr w b l) (hz : szT (.mk 6 n s [] K V) ≤ 100000)
    (hlen : (ivT (.mk 6 n s [] K V)).length ≤ 300000000) (hl : l.length + 400000000 * hgT (.mk 6 n s [] K V) ≤ 300000000000) :
    Calls Tryz.prog 53 #[.pointer (some ⟨b, 0, none⟩), .agg #[.int .i64 6, .int .i64 n, .string s, .slice o' 0 c', x]] w (Wt b (l ++ ivT (.mk 6 n s [] K V)) w) := by
  have hlt := h.lt
  cases hT with
  | mk a b' f g p q hk' hn hs hL hM hK cL cK cM rL rM =>
  obtain ⟨oL, capL, rfl, hL1, hL2, hL3⟩ := hM
  have hsz : szT (.mk 6 n s [] K V) = 1 + szL V := by simp [szT, szL]
  have hhg : hgT (.mk 6 n s [] K V) = 1 + hgL V := by simp [hgT, hgL]
  rw [hsz] at hN hz
  rw [hhg] at hl
  have hE := tpt_map_end n s [] K V hK
  have hEl := congrArg List.length hE
  rw [List.length_cons, List.length_append] at hEl
  have hLs : V.length ≤ szL V := len_szL V
  unfold maxLen at hL2
  have hB : Below w.heap.size w ((w.alloc (.cells #[.pointer (some ⟨b, 0, none⟩)] 51)).alloc (.cells #[.int .i64 6, .int .i64 n, .string s, .slice o' 0 c', .slice oL V.length capL] 27)) := valloc_bel (valloc_bel (Below.refl _ _) _) _
  have HP := hid (h.on hB)
  have HK0 := hid (Kt.of (b := b) hB (Nat.le_of_lt hlt))
  have hB3 : Below u.heap.size u ((w.alloc (.cells #[.pointer (some ⟨b, 0, none⟩)] 51)).alloc (.cells #[.int .i64 6, .int .i64 n, .string s, .slice o' 0 c', .slice oL V.length capL] 27)) := vonto hu hB
  have BX : ∀ X, Kt b ((w.alloc (.cells #[.pointer (some ⟨b, 0, none⟩)] 51)).alloc (.cells #[.int .i64 6, .int .i64 n, .string s, .slice o' 0 c', .slice oL V.length capL] 27)) X → _ := fun X hX => tbox_facts hlt hX
  have y0 := (BX _ (Kt.refl _ _)).1
  have y1 := (BX _ (Kt.refl _ _)).2 0 _ rfl
  have y3 := (BX _ (Kt.refl _ _)).2 4 _ rfl
  have CP : Hid (Calls Tryz.prog 75 #[.pointer (some ⟨b, 0, none⟩), .string ⟨#[123]⟩, .string ⟨#[125]⟩, .int .i64 (V.length : Int), .func (.func 77) #[] #[.pointer (some ⟨w.heap.size, 0, none⟩), .pointer (some ⟨w.heap.size + 1, 0, none⟩)]] ((w.alloc (.cells #[.pointer (some ⟨b, 0, none⟩)] 51)).alloc (.cells #[.int .i64 6, .int .i64 n, .string s, .slice o' 0 c', .slice oL V.length capL] 27)) (Wt b (l ++ ivT (.mk 6 n s [] K V)) ((w.alloc (.cells #[.pointer (some ⟨b, 0, none⟩)] 51)).alloc (.cells #[.int .i64 6, .int .i64 n, .string s, .slice o' 0 c', .slice oL V.length capL] 27)))) := by
    rw [← hE]
    refine tparts_any 77 _ b 123 125 V.length (gTm V K) l _ Tryz.teM ?_ HP.out (by omega) (by omega)
    intro j l' X hj hX hPX hl'
    obtain ⟨t, ht⟩ : ∃ t, V[j]? = some t := ⟨V[j], List.getElem?_eq_getElem hj⟩
    obtain ⟨c, hc⟩ : ∃ c, K[j]? = some c := ⟨K[j]'(by omega), List.getElem?_eq_getElem (by omega)⟩
    obtain rfl := hL3 (by omega)
    have hcs := hks c (List.mem_of_getElem? hc)
    have hql := pk_len hcs
    have hsub := im_sub (n := n) (s := s) (L := []) hK ht hc
    have hht := (hgL_get V _).1 (Nat.le_refl _) j t ht
    have hst := szL_get V j t ht
    have hmul : 400000000 * hgT t + 400000000 ≤ 400000000 * (1 + hgL V) := by omega
    rw [gTm_at ht hc]
    obtain ⟨o1, n1, c1, o2, n2, c2, hf, hg2⟩ := hv_slices (rM j t ht)
    have hr := rM j t ht
    rw [hf, hg2] at hr
    refine tclos_map b l' _ t c o1 o2 n1 c1 n2 c2 w.heap.size (w.heap.size + 1) b' V.length capL j X hj hPX (fun Y hY => (BX Y (hX.trans hY)).1) (fun Y hY => (BX Y (hX.trans hY)).2 4 _ rfl) (fun Y hY => ?_) (fun Y hY => ?_) (fun Y hY hPY => ?_)
    · exact keepCell (hB3.trans ((hX.trans hY).1.mono hub)) (cK j c hc).1
    · have := (cM j t ht).onto (hB3.trans ((hX.trans hY).1.mono hub))
      rw [hf, hg2] at this
      exact this
    · have hp := tpair_any b l' (ivT t) c t o1 o2 n1 c1 n2 c2 Y hcs (by omega) hPY (fun Z hZ hPZ => ih t _ _ b _ u Z (by omega) hr (hB3.trans (((hX.trans hY).trans hZ).1.mono hub)) hub hg ((plainL_get V).1 hpL j t ht) hPZ (by omega) (by omega) (by rw [List.length_append, List.length_append]; show _ + (_ + 3) + _ ≤ _; omega))
      rw [show l' ++ (pkB c.data.toList ++ [32, 61, 32] ++ ivT t) = l' ++ (pkB c.data.toList ++ [32, 61, 32]) ++ ivT t by simp]
      exact hp
  clear BX ih hg hpL hks hu hE hEl hlen hl hN hz hsz hhg cL cK cM rL rM hB hB3 h HP
  go_enter Tryz.func53, Tryz.ntmps53
  go_upto_region 6 with fail
  generalize ((w.alloc (.cells #[.pointer (some ⟨b, 0, none⟩)] 51)).alloc (.cells #[.int .i64 6, .int .i64 n, .string s, .slice o' 0 c', .slice oL V.length capL] 27)) = W3 at y0 y1 y3 CP HK0 ⊢
  go_wp2_with fail
  go_at_call 75
  refine CP.out.mono ?_
  rintro e w1 ⟨rfl, hp1, hk1⟩
  go_wp2_with fail
  first | go_end0 | refine bodyPost_ret (results_none rfl _ _ _) rfl ?_
  exact ⟨rfl, hp1, HK0.out.trans hk1⟩
theorem tvalue_any : ∀ N : Nat, TvOk N
  | 0 => fun T x y b l u w h => by have := szT_pos T; omega
  | N + 1 => by
    intro T x y b l u w hN hT hu hub hg hp hP hz hlen hl
    cases T with
    | mk kd n s L K V =>
      rw [plainT, Bool.and_eq_true, Bool.and_eq_true] at hp
      obtain ⟨⟨hnode, hpL⟩, hpV⟩ := hp
      have hnl := node_len hnode
      have hnb := hnode
      unfold nodeB nodeC at hnb
      simp only [VT.kd, VT.nm, VT.st, VT.ls, VT.ks, VT.vs] at hnb
      obtain ⟨oL, nL, cL, oM, nM, cM, rfl, rfl, rfl, rfl, hKV, hwn⟩ : ∃ oL nL cL oM nM cM, x = .slice oL nL cL ∧ y = .slice oM nM cM ∧ nL = L.length ∧ nM = V.length ∧ K.length = V.length ∧ -9223372036854775808 ≤ n ∧ n < 9223372036854775808 := by
        cases hT with
        | mk a b f g p q hk hn hs hL hM hK cL cK cM rL rM =>
          obtain ⟨oL, capL, rfl, -, -, -⟩ := hL
          obtain ⟨oM, capM, rfl, -, -, -⟩ := hM
          have := hn
          simp [Lit.wf, IntKind.min, IntKind.max, IntKind.signed, IntKind.bits] at this
          exact ⟨_, _, _, _, _, _, rfl, rfl, rfl, rfl, hK, by omega⟩
      by_cases h5 : kd = 5
      · subst h5
        obtain rfl : V = [] := hnl.2.resolve_left (by decide)
        obtain rfl : K = [] := List.eq_nil_of_length_eq_zero hKV
        exact tvalue_list N (tvalue_any N) n s L _ oM cM b l u w hN hT hu hub hg hpL hP hz hlen hl
      by_cases h6 : kd = 6
      · subst h6
        obtain rfl : L = [] := hnl.1.resolve_left (by decide)
        have hks : ∀ c ∈ K, c.size ≤ 4096 := by
          simp at hnb
          exact keys_small hnb.2
        exact tvalue_map N (tvalue_any N) n s V K _ oL cL b l u w hN hT hu hub hg hpV hks hP hz hlen hl
      have hE : ivT (.mk kd n s L K V) = sgS kd n s := by rw [ivT, if_neg h5, if_neg h6]
      rw [hE]
      exact tvalue_leaf kd n s L V K _ _ b l w (hg.on hu) hwn hnode h5 h6 hP (by omega)
end Go.Proofs.YtiaepihdfbahaaaGreatDoor
