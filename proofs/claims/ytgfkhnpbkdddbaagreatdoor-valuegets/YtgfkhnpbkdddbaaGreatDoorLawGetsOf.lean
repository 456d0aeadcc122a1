/- ValueGets, walked over what its callees answer. -/
import Derived.Test.YtgfkhnpbkdddbaaGreatDoorVPairs
import Derived.Test.YtgfkhnpbkdddbaaGreatDoorRefVal8
import Derived.Test.YtgfkhnpbkdddbaaGreatDoorVPlus
import Derived.Test.YtgfkhnpbkdddbaaGreatDoorVLike
import Derived.Test.YtgfkhnpbkdddbaaGreatDoorVAwaken
import Derived.Test.YtgfkhnpbkdddbaaGreatDoorAbove
import Derived.Deep.RegionHeld
import Derived.Deep.AppendLies
namespace Go.Proofs.YtgfkhnpbkdddbaaGreatDoor
open Go.RowKit

/-- value.Get of a key that is there, with or without a box made ahead -/
theorem get_there (K : List ByteArray) (V : List VT) (x y : Value) (i : Nat) (c : ByteArray) (t : VT) (W : World) (hT : HV W (.mk 6 0 ⟨#[]⟩ [] K V) x y) (hm : szT (.mk 6 0 ⟨#[]⟩ [] K V) ≤ 1000000) (hK : keysB K = true) (hc : K[i]? = some c) (ht : V[i]? = some t) (X : World) (hX : Below W.heap.size W X) :
    Calls Tryz.prog 34 #[.agg #[.int .i64 6, .int .i64 0, .string ⟨#[]⟩, x, y], .string c] X fun e w' => ∃ o n c o' n' c', e = .returned (.tuple #[.agg #[.int .i64 t.kd, .int .i64 t.nm, .string t.st, .slice o n c, .slice o' n' c'], .bool true]) ∧ HF w' X.heap.size w'.heap.size t (.slice o n c) (.slice o' n' c') ∧ Below X.heap.size X w' ∧ Below W.heap.size W w' := by
  refine (vget_any _ x y c X (hT.onto hX) hm).mono ?_
  rintro e w' ⟨R, X', Y', rfl, hR, hf, hb⟩
  have hg : getO (.mk 6 0 ⟨#[]⟩ [] K V) c = some t := by
    unfold getO
    rw [if_pos (show VT.kd _ = 6 from rfl)]
    exact (keys_strict hK).find hc ht
  rw [hg] at hR ⊢
  obtain rfl : R = t := hR
  obtain ⟨o, n, c, o', n', c', rfl, rfl⟩ := hv_slices hf.hv
  exact ⟨o, n, c, o', n', c', rfl, hf, hb, vonto hX hb⟩
theorem get_key (K : List ByteArray) (V : List VT) (x y : Value) (key : ByteArray) (W : World) (hT : HV W (.mk 6 0 ⟨#[]⟩ [] K V) x y) (hm : szT (.mk 6 0 ⟨#[]⟩ [] K V) ≤ 1000000) (b : Bool) (hb : (findK key K V).isSome = b) :
    Calls Tryz.prog 34 #[.agg #[.int .i64 6, .int .i64 0, .string ⟨#[]⟩, x, y], .string key] W fun e w' => ∃ (r1 r2 : Int) (r3 : ByteArray) (o : Option Addr) (n c : Nat) (o' : Option Addr) (n' c' : Nat), e = .returned (.tuple #[.agg #[.int .i64 r1, .int .i64 r2, .string r3, .slice o n c, .slice o' n' c'], .bool b]) ∧ Below W.heap.size W w' := by
  refine (vget_any _ x y key W hT hm).mono ?_
  rintro e w' ⟨R, X', Y', rfl, hR, hf, hb'⟩
  have hg : getO (.mk 6 0 ⟨#[]⟩ [] K V) key = findK key K V := by
    unfold getO
    rw [if_pos (show VT.kd _ = 6 from rfl)]; rfl
  rw [hg, hb]
  obtain ⟨o, n, c, o', n', c', rfl, rfl⟩ := hv_slices hf.hv
  exact ⟨_, _, _, o, n, c, o', n', c', rfl, hb'⟩
theorem put_box {w : World} {b : Nat} {t : VT} {x y : Value} {lo : Nat} (h : Z5 w b) (hb : b < lo) (hf : HF w lo w.heap.size t x y) : Bx (put5 w b 0 (.int .i64 t.kd) (.int .i64 t.nm) (.string t.st) x y) b t x y :=
  ⟨z5_put h t _ _, (hf.onto (fun k g1 g2 => put5_heap _ _ _ _ _ _ _ _ _ (by omega))).hv⟩
theorem map_again {W : World} {base : Nat} {m : Value} {A : List (ByteArray × VT × Value × Value)} (hown : W.ownsRow base 42 6 m A.length ((backs A A.length).flatMap pc)) (hnil : A.length = 0 → m = .slice none 0 0) (hA : ∀ a ∈ A, a.1.size ≤ maxLen ∧ HV W a.2.1 a.2.2.1 a.2.2.2) (hK : keysB (A.map (·.1)) = true) (hsz : szL (A.map (·.2.1)) ≤ 999999) :
    Calls Tryz.prog 25 #[m] W fun e w' => ∃ o n c o' n' c', e = .returned (.tuple #[.agg #[.int .i64 6, .int .i64 0, .string ⟨#[]⟩, .slice o n c, .slice o' n' c'], .int .i64 0]) ∧ HV w' (.mk 6 0 ⟨#[]⟩ [] (A.map (·.1)) (A.map (·.2.1))) (.slice o n c) (.slice o' n' c') ∧ Below W.heap.size W w' := by
  have hl := backs_len (Nat.le_refl A.length)
  by_cases h0 : A.length = 0
  · have hA0 : A = [] := List.eq_nil_of_length_eq_zero h0
    subst hA0
    have hm := hnil rfl
    subst hm
    refine (vmap_nil W).mono ?_
    rintro e w' ⟨X, Y, rfl, hf, hb⟩
    obtain ⟨o, n, c, o', n', c', rfl, rfl⟩ := hv_slices hf.hv
    exact ⟨o, n, c, o', n', c', rfl, hf.hv, hb⟩
  · obtain ⟨g, cap, rfl, -, -⟩ := hown.form (by omega)
    have hin := own_in (A := backs A A.length) (by rw [hl]; exact hown) (fun a ha => hA a (backs_mem ha))
    have e1 : (backs A A.length).map (·.1) = ((backs A A.length).map fun a => (a.1, a.2.1)).map (·.1) := by rw [List.map_map]; rfl
    have e2 : (backs A A.length).map (·.2.1) = ((backs A A.length).map fun a => (a.1, a.2.1)).map (·.2) := by rw [List.map_map]; rfl
    rw [e1, e2] at hin
    have e3 : ((backs A A.length).map fun a => (a.1, a.2.1)).length = A.length := by rw [List.length_map, hl]
    have hsz2 : szL (((backs A A.length).map fun a => (a.1, a.2.1)).map (·.2)) ≤ 999999 := by
      rw [← e2, backs_all, List.map_reverse, szL_perm (List.reverse_perm _)]; exact hsz
    have hM := vmap_any ((backs A A.length).map fun a => (a.1, a.2.1)) W g 0 cap (by rw [e3]; exact hin) (by rw [e3]; omega) hsz2
    rw [e3] at hM
    refine hM.mono ?_
    rintro e w' ⟨A', X, Y, hp, hr, rfl, hf, hb⟩
    obtain ⟨m1, m2⟩ := map_back hK hp hr
    rw [m2] at hf ⊢
    rw [m1, keys_ke hK]
    obtain ⟨o, n, c, o', n', c', rfl, rfl⟩ := hv_slices hf.hv
    exact ⟨o, n, c, o', n', c', rfl, hf.hv, hb⟩
theorem backs_zero (A : List (ByteArray × VT × Value × Value)) : backs A 0 = [] := by unfold backs; simp
theorem hasB_zero (A : List (ByteArray × VT × Value × Value)) (key : ByteArray) : hasB A key 0 = false := by unfold hasB; rw [backs_zero]; rfl
theorem map_lists {A : List (ByteArray × VT × Value × Value)} {i : Nat} {a : ByteArray × VT × Value × Value} (h : A[i]? = some a) : (A.map (·.1))[i]? = some a.1 ∧ (A.map (·.2.1))[i]? = some a.2.1 := by
  rw [List.getElem?_map, List.getElem?_map, h]; exact ⟨rfl, rfl⟩
set_option maxRecDepth 100000 in
set_option maxHeartbeats 8000000 in
theorem gets_of (AW : ∀ w, Glob w → Calls Tryz.prog 13 #[] w fun e w' => e = .returned (.bool true) ∧ Below w.heap.size w w')
    (T : VT) (x y : Value) (key : ByteArray) (w : World) (hg : Glob w) (hT : HV w T x y) (_hkey : key.size ≤ maxLen) :
    Calls Tryz.prog 5 #[vv T x y, .string key] w fun e w' => e = .returned (.bool true) ∧ Below w.heap.size w w' := by
  have HAW := hid AW
  have HG := hid hg
  have HT := hid hT
  clear AW hg
  obtain ⟨o1, n1, c1, o2, n2, c2, rfl, rfl⟩ := hv_slices hT
  clear hT
  simp only [vv]
  go_enter Tryz.func5, Tryz.ntmps5
  go_wp2_with fail
  have a3 := bx_new HT.out 28
  have aw : Below w.heap.size w _ := valloc_bel (Below.refl _ _) (.cells #[.int .i64 T.kd, .int .i64 T.nm, .string T.st, .slice o1 n1 c1, .slice o2 n2 c2] 28)
  clear HT
  generalize w.alloc (.cells #[.int .i64 T.kd, .int .i64 T.nm, .string T.st, .slice o1 n1 c1, .slice o2 n2 c2] 28) = V0 at a3 aw ⊢
  go_at_call 13
  refine (HAW.out _ (HG.out.on aw)).mono ?_
  rintro e wa ⟨rfl, hba⟩
  have B3 := hid (a3.onto hba)
  have HW := hid (vonto aw hba)
  clear a3 aw hba HAW HG
  obtain ⟨q0, q1, q2, q3, q4⟩ := B3.out.cells
  have HH1 := hid (heavy_any T _ _ 300 32 wa B3.out.2 (by omega) (by omega))
  simp only [vv] at HH1
  cases hf : fitB T 32 300 with
  | false =>
    rw [hf] at HH1
    simp only [Bool.not_false] at HH1
    go_wp2_with (go_at_call 28; go_must (refine HH1.out.mono ?_; rintro e w1 ⟨rfl, hb1⟩))
    go_ret
    exact ⟨rfl, vonto HW.out hb1⟩
  | true =>
  rw [hf] at HH1
  simp only [Bool.not_true] at HH1
  go_wp2_with fail
  go_at_call 28
  refine HH1.out.mono ?_
  rintro e w1 ⟨rfl, hb1⟩
  have C3 := hid (B3.out.onto hb1)
  have HW1 := hid (vonto HW.out hb1)
  clear q0 q1 q2 q3 q4 HH1 B3 HW hb1
  obtain ⟨q0, q1, q2, q3, q4⟩ := C3.out.cells
  have HV1 := hid (rvalue_any T _ _ w1 C3.out.2)
  simp only [vv] at HV1
  cases hm : mayB 0 1 T with
  | false =>
    rw [hm] at HV1
    go_wp2_with (go_at_call 33; go_must (refine HV1.out.mono ?_; rintro e w2 ⟨rfl, hb2⟩))
    go_ret
    exact ⟨rfl, vonto HW1.out hb2⟩
  | true =>
  rw [hm] at HV1
  go_wp2_with fail
  go_at_call 33
  refine HV1.out.mono ?_
  rintro e V ⟨rfl, hb2⟩
  have E3 := hid (C3.out.onto hb2)
  have EW := hid (vonto HW1.out hb2)
  clear q0 q1 q2 q3 q4 HV1 C3 HW1 hb2 hf
  obtain ⟨q0, q1, q2, q3, q4⟩ := E3.out.cells
  by_cases h6 : T.kd = 6
  case neg =>
    have t6 : (T.kd != 6) = true := by simpa using h6
    go_wp2_with fail
    go_ret
    exact ⟨rfl, EW.out⟩
  by_cases hk : key.size > 100
  case pos =>
    rw [h6] at q0
    go_wp2_with fail
    go_ret
    exact ⟨rfl, EW.out⟩
  have hsz : szT T ≤ 1000000 := by have := (good_sz hm).1; omega
  obtain ⟨hTe, hKB⟩ := map_node hm h6
  obtain ⟨K, hKe⟩ : ∃ K, T.ks = K := ⟨_, rfl⟩
  obtain ⟨VV, hVe⟩ : ∃ K, T.vs = K := ⟨_, rfl⟩
  rw [hKe, hVe] at hTe
  rw [hKe] at hKB
  clear hKe hVe hm h6
  subst hTe
  have HKB := hid hKB
  have HSZ := hid hsz
  obtain ⟨A, b, o, cap, hsl, hcap, hmx, ho, hAK, hAV, hA⟩ := ents E3.out.2.inM
  injection hsl with e1 e2 e3
  subst e1 e2 e3
  unfold maxLen at hmx
  simp only [VT.ks, VT.vs] at hAK hAV
  have hlen : A.length ≤ 1000000 := by
    have h1 := len_szL VV
    have h2 : A.length = VV.length := by rw [← hAV]; simp
    simp only [szT] at hsz
    omega
  have HAK := hid hAK
  have HAV := hid hAV
  have HA := hid hA
  have E4 := hid E3.out.2
  have hmx2 : A.length ≤ 9223372036854775807 := by omega
  simp only [VT.kd, VT.nm, VT.st] at q0 q1 q2
  have E0 := hid (show (V.cell? ⟨w.heap.size, 0, none⟩ = some (.int .i64 6) ∧ V.cell? ⟨w.heap.size, 1, none⟩ = some (.int .i64 0) ∧ V.cell? ⟨w.heap.size, 2, none⟩ = some (.string ⟨#[]⟩) ∧ V.cell? ⟨w.heap.size, 3, none⟩ = some (.slice o1 n1 c1) ∧ V.cell? ⟨w.heap.size, 4, none⟩ = some (.slice o2 A.length c2)) from ⟨q0, q1, q2, q3, q4⟩)
  clear hAK hAV hA hKB hsz E3
  obtain ⟨i0, hi, hz0, hz1, hz2⟩ := info_parts Tryz.info34
  go_wp2_with fail
  clear q0 q1 q2 q3 q4
  go_loopw [5, 6, 7] (fun m t i wr => ∃ j : Nat, j ≤ A.length ∧ i = .int .i64 ((A.length : Int) - 1 - j) ∧ t = .bool (hasB A key j) ∧ Hid (wr.ownsRow V.heap.size 42 6 m j ((backs A j).flatMap pc)) ∧ Below V.heap.size V wr ∧ Hid (j = 0 → m = .slice none 0 0)) (fun _ _ i _ => (intOf i + 1).toNat)
  case atStart => exact ⟨0, Nat.zero_le _, val_int (by omega), by rw [hasB_zero], hid (by rw [backs_zero]; exact World.ownsRow_nil _ _ _ _), Below.refl _ _, fun _ => rfl⟩
  case round =>
    obtain ⟨j, hj, rfl, rfl, HO, hbw, HNI⟩ := hrel
    have hbz := hbw.size
    by_cases hlt : j < A.length
    · obtain ⟨d, hd⟩ : ∃ d : Nat, A.length = d + j + 1 := ⟨A.length - j - 1, by omega⟩
      have hdI : (A.length : Int) - 1 - j = d := by omega
      have hdA : d < A.length := by omega
      obtain ⟨a, ha⟩ : ∃ a, A[d]? = some a := ⟨A[d], List.getElem?_eq_getElem hdA⟩
      have HSU := hid (backs_succ (A := A) (j := j) (a := a) hlt (by rw [show A.length - 1 - j = d by omega]; exact ha))
      have HHS := hid (hasB_succ (A := A) (key := key) (j := j) (a := a) hlt (by rw [show A.length - 1 - j = d by omega]; exact ha))
      have HMA := hid (map_lists ha)
      rw [HAK.out, HAV.out] at HMA
      obtain rfl := ho (by omega)
      rw [hdI]
      have HD := hid hd
      have HDI := hid hdI
      have hdA2 : (d : Int) < A.length := by omega
      clear hd hdI
      obtain ⟨⟨ck, cks⟩, cn, cv⟩ := HA.out d a ha
      obtain ⟨p1, p2, p3, p4, p5, p6, hp, hq⟩ := hv_slices cv
      obtain ⟨ak, at', ap, aq⟩ := a
      simp only at hp hq ck cks cn cv HMA HHS
      subst hp hq
      have HCV := hid cv
      have HCN := hid cn
      have HCK := hid ck
      clear ck cn cv ha
      obtain ⟨z0, z1, z2, z3, z4⟩ := E0.out
      have zz0 := keepCell hbw z0; have zz1 := keepCell hbw z1; have zz2 := keepCell hbw z2; have zz3 := keepCell hbw z3; have zz4 := keepCell hbw z4
      have kk0 := keepCell hbw HCK.out
      clear z0 z1 z2 z3 z4
      have HGT := hid (fun (X : World) (hX : Below wr.heap.size wr X) => get_there K VV _ _ d ak at' wr (E4.out.onto hbw) HSZ.out HKB.out HMA.out.1 HMA.out.2 X hX)
      have hltI : (0 : Int) ≤ d := by omega
      generalize hhb : hasB A key j = hb0 at HHS ⊢
      clear hhb
      go_wp2_with fail
      go_cut [8, 9] from 37 to 83 (fun v8 v9 wx => ∃ b8 o n c o' n' c', v8 = .pointer (some ⟨b8, 0, none⟩) ∧ v9 = .bool true ∧ Hid (Bx wx b8 at' (.slice o n c) (.slice o' n' c')) ∧ Hid (Below wr.heap.size wr wx))
      case first =>
        have HS : Hid (∀ X, Below wr.heap.size wr X → Below wr.heap.size wr X ∧ X.cell? ⟨w.heap.size, 0, none⟩ = some (.int .i64 6) ∧ X.cell? ⟨w.heap.size, 1, none⟩ = some (.int .i64 0) ∧ X.cell? ⟨w.heap.size, 2, none⟩ = some (.string ⟨#[]⟩) ∧ X.cell? ⟨w.heap.size, 3, none⟩ = some (.slice o1 n1 c1) ∧ X.cell? ⟨w.heap.size, 4, none⟩ = some (.slice (some b) A.length c2) ∧ X.cell? (b.add (d * 6)) = some (.string ak)) := fun X hX => ⟨hX, keepCell hX zz0, keepCell hX zz1, keepCell hX zz2, keepCell hX zz3, keepCell hX zz4, keepCell hX kk0⟩
        have HGA := hid (HGT.out _ (valloc_bel (Below.refl wr.heap.size wr) (.cells #[.int .i64 0, .int .i64 0, .string ⟨#[]⟩, .slice none 0 0, .slice none 0 0] 28)).drew)
        have HGB := hid (HGT.out _ (valloc_bel (Below.refl wr.heap.size wr).drew (.cells #[.int .i64 0, .int .i64 0, .string ⟨#[]⟩, .slice none 0 0, .slice none 0 0] 28)))
        have HGD := hid (HGT.out _ (Below.refl wr.heap.size wr).drew)
        go_region_held (fun X => Below wr.heap.size wr X ∧ X.cell? ⟨w.heap.size, 0, none⟩ = some (.int .i64 6) ∧ X.cell? ⟨w.heap.size, 1, none⟩ = some (.int .i64 0) ∧ X.cell? ⟨w.heap.size, 2, none⟩ = some (.string ⟨#[]⟩) ∧ X.cell? ⟨w.heap.size, 3, none⟩ = some (.slice o1 n1 c1) ∧ X.cell? ⟨w.heap.size, 4, none⟩ = some (.slice (some b) A.length c2) ∧ X.cell? (b.add (d * 6)) = some (.string ak))
          ((refine HS.out _ ?_; first | exact (Below.refl _ _).drew | exact hbB | exact valloc_bel hbB _ | exact (valloc_bel (Below.refl _ _) _).drew | exact valloc_bel (Below.refl _ _).drew _ | (refine vset_bel (vset_bel (vset_bel (vset_bel (vset_bel hbB ?_) ?_) ?_) ?_) ?_ <;> exact Nat.le_refl _) | (trace_state; fail)))
          ((first
            | (go_at_call 34; first
              | ((with_reducible refine (HGA.out).mono ?_); rintro e w1 ⟨o8, n8, c8, o9, n9, c9, rfl, hf1, hb1, hbB⟩; obtain ⟨⟨y0, y1, y2, y3, y4⟩, yf⟩ := (z5_new wr).onto (vonto (Below.refl _ _).drew hb1))
              | ((with_reducible refine (HGB.out).mono ?_); rintro e w1 ⟨o8, n8, c8, o9, n9, c9, rfl, hf1, hb1, hbB⟩; obtain ⟨⟨y0, y1, y2, y3, y4⟩, yf⟩ := (z5_new wr.drew).onto hb1)
              | ((with_reducible refine (HGD.out).mono ?_); rintro e w1 ⟨o8, n8, c8, o9, n9, c9, rfl, hf1, hb1, hbB⟩))))
        · go_wp2_with fail
          go_meet
          exact ⟨w1.heap.size, o8, n8, c8, o9, n9, c9, rfl, rfl, bx_new hf1.hv _, valloc_bel hbB _⟩
        · go_wp2_with fail
          go_meet
          exact ⟨wr.heap.size, o8, n8, c8, o9, n9, c9, rfl, rfl, put_box (lo := wr.heap.size + 1) ⟨⟨y0, y1, y2, y3, y4⟩, yf⟩ (by omega) (by simpa using hf1), vset_bel (vset_bel (vset_bel (vset_bel (vset_bel hbB (Nat.le_refl _)) (Nat.le_refl _)) (Nat.le_refl _)) (Nat.le_refl _)) (Nat.le_refl _)⟩
      case rest =>
        obtain ⟨b8, o8, n8, c8, o9, n9, c9, rfl, rfl, B8, HB8⟩ := hcut
        have HBC := hid (vonto hbw HB8.out)
        have y0 := above_cell (keepCell HB8.out zz0); have y1 := above_cell (keepCell HB8.out zz1); have y2 := above_cell (keepCell HB8.out zz2); have y3 := above_cell (keepCell HB8.out zz3); have y4 := above_cell (keepCell HB8.out zz4)
        have ky := above_cell (keepCell HB8.out kk0)
        obtain ⟨x0, x1, x2, x3, x4⟩ := B8.out.cells
        have xa0 := above_cell x0; have xa1 := above_cell x1; have xa2 := above_cell x2; have xa3 := above_cell x3; have xa4 := above_cell x4
        have hnode := HCN.out.onto HBC.out
        simp only [Node, nx] at hnode
        obtain ⟨d0, d1, d2, d3, d4⟩ := hnode
        have da0 := above_cell d0; have da1 := above_cell d1; have da2 := above_cell d2; have da3 := above_cell d3; have da4 := above_cell d4
        clear x0 x1 x2 x3 x4 d0 d1 d2 d3 d4 zz0 zz1 zz2 zz3 zz4 kk0 HGT
        have sm := hid (fun X : Abv wc => vsame_any at' at' _ _ _ _ X.u (B8.out.2.onto X.h) ((HCV.out.onto HBC.out).onto X.h))
        rw [like_self] at sm
        simp only [vv] at sm
        have hinh := abv_some wc
        go_wp2_with fail
        refine wp_region_above (by kernel_rfl) (by kernel_rfl) ?_
        repeat (go_big_quiet_step ((go_at_call 35; with_reducible exact above_of (sm.out _))))
        refine wpQuiet_nil ?_
        intro _ hw'
        obtain ⟨X, hX⟩ := hw'
        subst hX
        have HXV := hid (vonto HBC.out X.h)
        have HO2 := hid (ownsRow_below (ownsRow_below HO.out HB8.out) X.h)
        have hsX := (vonto HBC.out X.h).size
        have t4 := y4 X; have t5 := ky X; have t6 := da0 X; have t7 := da1 X; have t8 := da2 X; have t9 := da3 X; have t10 := da4 X
        clear y0 y1 y2 y3 y4 ky xa0 xa1 xa2 xa3 xa4 da0 da1 da2 da3 da4 sm hinh B8
        cases hb0 with
        | true =>
          go_wp2_with (at_builtin; go_must (refine wpList_append_own _ rfl (.tmp 65) (.tmp 71) 26 rfl V.heap.size 42 i0 (.agg #[.string ⟨#[]⟩, .int .i64 0, .int .i64 0, .string ⟨#[]⟩, .slice none 0 0, .slice none 0 0]) 6 96 Tryz.underlying26 hi hz0 hz1 hz2 rfl (by decide) _ j _ rfl (HO2.out.alloc _) ⟨X.u.heap.size, 0, none⟩ 1 1 (pc (ak, at', .slice p1 p2 p3, .slice p4 p5 p6)) rfl rfl (new_cells X.u _ 42) (pc_one rfl rfl) (by unfold maxLen; omega) (by omega) (by simp; omega) ?_; intro v1 w2 hown1 hgr1 _))
          have hb2 : Below V.heap.size V w2 := (valloc_bel HXV.out _).grown hgr1 (by simp; omega) (fun q hq => (HO2.out.lt q hq).1)
          go_roundw
          case rel => exact ⟨j + 1, hlt, val_int (by have := HDI.out; omega), by rw [HHS.out]; rfl, hid (by rw [HSU.out, List.flatMap_append]; simpa using hown1), hb2, fun h => absurd h (by omega)⟩
          case measure => simp [intOf]
        | false =>
          by_cases he : ak.data.toList = key.data.toList
          · have te := txt_is ak key he
            have HHE := hid (decide_eq_true he)
            clear he
            go_wp2_with (at_builtin; go_must (refine wpList_append_own _ rfl (.tmp 65) (.tmp 71) 26 rfl V.heap.size 42 i0 (.agg #[.string ⟨#[]⟩, .int .i64 0, .int .i64 0, .string ⟨#[]⟩, .slice none 0 0, .slice none 0 0]) 6 96 Tryz.underlying26 hi hz0 hz1 hz2 rfl (by decide) _ j _ rfl (HO2.out.alloc _) ⟨X.u.heap.size, 0, none⟩ 1 1 (pc (ak, at', .slice p1 p2 p3, .slice p4 p5 p6)) rfl rfl (new_cells X.u _ 42) (pc_one rfl rfl) (by unfold maxLen; omega) (by omega) (by simp; omega) ?_; intro v1 w2 hown1 hgr1 _; have hb2 : Below V.heap.size V w2 := (valloc_bel HXV.out _).grown hgr1 (by simp; omega) (fun q hq => (HO2.out.lt q hq).1); have s4 := keepCell hb2 E0.out.2.2.2.2; have s5 := keepCell hb2 HCK.out; have HB2 := hid hb2; have HOW := hid hown1; clear hb2 hown1 hgr1 t4 t5 t6 t7 t8 t9 t10; go_wp2_with fail))
            go_roundw
            case rel => exact ⟨j + 1, hlt, val_int (by have := HDI.out; omega), by rw [HHS.out, HHE.out]; rfl, hid (by rw [HSU.out, List.flatMap_append]; simpa using HOW.out), HB2.out, fun h => absurd h (by omega)⟩
            case measure => simp [intOf]
          · have te := txt_no ak key he
            have HHE := hid (decide_eq_false he)
            clear he
            go_wp2_with (at_builtin; go_must (refine wpList_append_own _ rfl (.tmp 65) (.tmp 71) 26 rfl V.heap.size 42 i0 (.agg #[.string ⟨#[]⟩, .int .i64 0, .int .i64 0, .string ⟨#[]⟩, .slice none 0 0, .slice none 0 0]) 6 96 Tryz.underlying26 hi hz0 hz1 hz2 rfl (by decide) _ j _ rfl (HO2.out.alloc _) ⟨X.u.heap.size, 0, none⟩ 1 1 (pc (ak, at', .slice p1 p2 p3, .slice p4 p5 p6)) rfl rfl (new_cells X.u _ 42) (pc_one rfl rfl) (by unfold maxLen; omega) (by omega) (by simp; omega) ?_; intro v1 w2 hown1 hgr1 _; have hb2 : Below V.heap.size V w2 := (valloc_bel HXV.out _).grown hgr1 (by simp; omega) (fun q hq => (HO2.out.lt q hq).1); have s4 := keepCell hb2 E0.out.2.2.2.2; have s5 := keepCell hb2 HCK.out; have HB2 := hid hb2; have HOW := hid hown1; clear hb2 hown1 hgr1 t4 t5 t6 t7 t8 t9 t10; go_wp2_with fail))
            go_roundw
            case rel => exact ⟨j + 1, hlt, val_int (by have := HDI.out; omega), by rw [HHS.out, HHE.out]; rfl, hid (by rw [HSU.out, List.flatMap_append]; simpa using HOW.out), HB2.out, fun h => absurd h (by omega)⟩
            case measure => simp [intOf]
    · have hjA : j = A.length := by omega
      subst hjA
      have hneg : ¬ ((0 : Int) ≤ (A.length : Int) - 1 - A.length) := by omega
      obtain ⟨z0, z1, z2, z3, z4⟩ := E0.out
      have zz0 := keepCell hbw z0; have zz1 := keepCell hbw z1; have zz2 := keepCell hbw z2; have zz3 := keepCell hbw z3; have zz4 := keepCell hbw z4
      clear z0 z1 z2 z3 z4 E0
      have HGE := hid (get_key K VV _ _ key wr (E4.out.onto hbw) HSZ.out (hasB A key A.length) (by rw [hasB_all, HAK.out]; exact find_has key K VV (by rw [← HAK.out, ← HAV.out]; simp)))
      generalize hasB A key A.length = hb0 at HGE ⊢
      go_wp2_with fail
      go_at_call 34
      refine HGE.out.mono ?_
      rintro e w3 ⟨r1, r2, r3, o8, n8, c8, o9, n9, c9, rfl, hb3⟩
      have HB3 := hid hb3
      clear hb3 HGE
      have HB4 := hid (vonto HB3.out (valloc_bel (Below.refl _ _) (.cells #[.int .i64 r1, .int .i64 r2, .string r3, .slice o8 n8 c8, .slice o9 n9 c9] 28)))
      have zz0' := keepCell HB4.out zz0; have zz1' := keepCell HB4.out zz1; have zz2' := keepCell HB4.out zz2; have zz3' := keepCell HB4.out zz3; have zz4' := keepCell HB4.out zz4
      clear zz0 zz1 zz2 zz3 zz4
      have HMA := hid (map_again (ownsRow_below HO.out HB4.out) HNI.out (fun a ha => by
        obtain ⟨i, hi⟩ := List.getElem?_of_mem ha
        obtain ⟨⟨-, h1⟩, -, h2⟩ := HA.out i a hi
        exact ⟨h1, (h2.onto hbw).onto HB4.out⟩) (by rw [HAK.out]; exact HKB.out) (by rw [HAV.out]; have := HSZ.out; simp only [szT] at this; omega))
      rw [HAK.out, HAV.out] at HMA
      have HV4 := hid ((E4.out.onto hbw).onto HB4.out)
      have HW4 := hid (vonto EW.out (vonto hbw HB4.out))
      go_wp2_with fail
      clear HB3 HB4
      generalize w3.alloc (.cells #[.int .i64 r1, .int .i64 r2, .string r3, .slice o8 n8 c8, .slice o9 n9 c9] 28) = W4 at zz0' zz1' zz2' zz3' zz4' HMA HV4 HW4 ⊢
      go_at_call 25
      refine HMA.out.mono ?_
      rintro e w5 ⟨p1, p2, p3, p4, p5, p6, rfl, hv5, hb5⟩
      have hal := valloc_bel (Below.refl _ _) (w := w5) (.cells #[.int .i64 6, .int .i64 0, .string ⟨#[]⟩, .slice p1 p2 p3, .slice p4 p5 p6] 28)
      have HSM := hid (vsame_any _ _ _ _ _ _ _ ((HV4.out.onto hb5).onto hal) (hv5.onto hal))
      rw [like_self] at HSM
      simp only [vv, VT.kd, VT.nm, VT.st] at HSM
      have y0 := keepCell hal (keepCell hb5 zz0'); have y1 := keepCell hal (keepCell hb5 zz1'); have y2 := keepCell hal (keepCell hb5 zz2'); have y3 := keepCell hal (keepCell hb5 zz3'); have y4 := keepCell hal (keepCell hb5 zz4')
      have HW5 := hid (vonto (vonto HW4.out hb5) hal)
      clear zz0' zz1' zz2' zz3' zz4' hal hb5 hv5 HMA HV4 HW4
      go_wp2_with (go_at_call 35; go_must (refine HSM.out.mono ?_; rintro e w6 ⟨rfl, hb6⟩))
      go_ret
      exact ⟨by simp, vonto HW5.out hb6⟩
end Go.Proofs.YtgfkhnpbkdddbaaGreatDoor
