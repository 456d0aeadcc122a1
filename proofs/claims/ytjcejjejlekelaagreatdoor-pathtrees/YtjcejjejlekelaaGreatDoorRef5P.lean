import Derived.Test.YtjcejjejlekelaaGreatDoorMathOthers
import Derived.Test.YtjcejjejlekelaaGreatDoorPathDoc
import Derived.Test.YtjcejjejlekelaaGreatDoorRefVal7
import Derived.Test.YtjcejjejlekelaaGreatDoorVZero
import Derived.Test.YtjcejjejlekelaaGreatDoorRefMake
/- The document's side: what stands at a path. -/
/- The document's side: a tree, or nothing. -/
/- Plain mathematics: what is set, or dropped, at a path, told from its first step on. -/
/- With on a tree's pairs: the same keys with one value in its place, or one key more where it belongs. -/
/- The document's side: what is set at a path. -/
namespace Go.Proofs.YtjcejjejlekelaaGreatDoor
open Go.RowKit

theorem first_find (key : ByteArray) : ∀ (K : List ByteArray) (V : List VT), K.length = V.length → (firstI (keyIs key) K).bind (fun i => V[i]?) = findK key K V
  | [], [], _ => rfl
  | [], _ :: _, h => by simp at h
  | _ :: _, [], h => by simp at h
  | c :: K, t :: V, h => by
    unfold firstI findK
    by_cases hk : c.data.toList = key.data.toList
    · rw [if_pos (by unfold keyIs; exact decide_eq_true hk), if_pos hk]; rfl
    · rw [if_neg (by unfold keyIs; rw [decide_eq_false hk]; decide), if_neg hk, ← first_find key K V (by simpa using h)]
      cases firstI (keyIs key) K <;> simp
theorem key_get {T : VT} (h : T.ks.length = T.vs.length) {s : PStep} (hs : s.place = false) : (idxT T s).bind (kidT T s) = getO T s.key := by
  unfold idxT getO kidT
  rw [if_neg (by rw [hs]; decide)]
  by_cases h6 : T.kd = 6
  · rw [if_pos h6, if_pos h6]
    have e : (fun (i : Nat) => if s.place = true then T.ls[i]? else T.vs[i]?) = fun (i : Nat) => T.vs[i]? := by funext i; rw [if_neg (by rw [hs]; decide)]
    rw [e]
    exact first_find s.key T.ks T.vs h
  · rw [if_neg h6, if_neg h6]; rfl
set_option maxRecDepth 100000 in
set_option maxHeartbeats 1000000 in
theorem get_at (T : VT) (x y : Value) (key : ByteArray) (w0 w : World) (hT : HV w0 T x y) (hw0 : Below w0.heap.size w0 w) :
    Calls Tryz.prog 54 #[vv T x y, .string key] w fun e w' => ∃ R X Y, e = .returned (.tuple #[vv R X Y, .bool (getO T key).isSome]) ∧ R = (getO T key).getD zeroT ∧ HV w0 R X Y ∧ Below w.heap.size w w' := by
  cases hT with
  | mk a b f g p q hk hn hs hL hM hK cL cK cM rL rM =>
  rename_i k n s L K V
  replace cM := fun i t h => (cM i t h).onto hw0
  replace cK := fun i u h => And.intro (keepCell hw0 (cK i u h).1) (cK i u h).2
  clear hw0
  change Calls _ _ #[.agg #[.int .i64 k, .int .i64 n, .string s, _, _], _] _ _
  obtain ⟨oL, capL, rfl, hL1, hL2, hL3⟩ := hL
  obtain ⟨oM, capM, rfl, hM1, hM2, hM3⟩ := hM
  unfold maxLen at hL2 hM2
  by_cases h6 : k = 6
  · subst h6
    have HG := hid (show getO (.mk 6 n s L K V) key = findK key K V by unfold getO; rfl)
    go_enter Tryz.func54, Tryz.ntmps54
    go_wp2_with fail
    go_loop [6] (fun i => ∃ j : Nat, i = .int .i64 j ∧ j ≤ V.length ∧ Hid (∀ (i : Nat) (c : ByteArray), i < j → K[i]? = some c → ¬ c.data.toList = key.data.toList)) (fun i => V.length - (intOf i).toNat)
    case atStart => exact ⟨0, rfl, Nat.zero_le _, hid (fun i c h => absurd h (Nat.not_lt_zero _))⟩
    case round =>
      obtain ⟨j, rfl, hj, HJ⟩ := hrel
      by_cases hlt : j < V.length
      · obtain ⟨t, ht⟩ : ∃ t, V[j]? = some t := ⟨V[j], List.getElem?_eq_getElem hlt⟩
        obtain ⟨c, hc⟩ : ∃ c, K[j]? = some c := ⟨K[j], List.getElem?_eq_getElem (by omega)⟩
        obtain rfl := hM3 (by omega)
        have hbw : ∀ o o', Below w.heap.size w ((w.alloc o).alloc o') := fun o o' => ((Below.refl _ _).alloc (Nat.le_refl _) _).alloc (by simp) _
        have hnode := fun o o' => (cM j t ht).onto (hbw o o')
        simp only [Node, nx] at hnode
        have d0 := fun o o' => (hnode o o').1
        have d1 := fun o o' => (hnode o o').2.1
        have d2 := fun o o' => (hnode o o').2.2.1
        have d3 := fun o o' => (hnode o o').2.2.2.1
        have d4 := fun o o' => (hnode o o').2.2.2.2
        have e0 := fun o o' => keepCell (hbw o o') (cK j c hc).1
        clear hnode
        by_cases he : c.data.toList = key.data.toList
        · have te := txt_is c key he
          have HF := hid (findK_some key K V j c t hc ht he HJ.out)
          have HR := hid (rM j t ht)
          obtain ⟨o1, n1, c1, o2, n2, c2, hp, hq⟩ := hv_slices (rM j t ht)
          rw [hp] at HR
          rw [hq] at HR
          simp only [hp] at d3
          simp only [hq] at d4
          clear he hp hq
          go_wp2_with fail
          refine bodyPost_ret (v := .tuple #[vv t (.slice o1 n1 c1) (.slice o2 n2 c2), .bool true]) (by simp [results, Tryz.results54, go_sem, vv]) rfl ⟨t, _, _, ?_, ?_, HR.out, ?_⟩
          · rw [HG.out, HF.out]; rfl
          · rw [HG.out, HF.out]; rfl
          · repeat (first | exact Below.refl _ _ | apply valloc_bel | (refine vset_bel ?_ (by simp)))
        · have te := txt_no c key he
          have HE := hid he
          clear he
          go_wp2_with fail
          go_round
          case rel => exact ⟨j + 1, val_int (by omega), hlt, hid (fun i c' hi hc' => by
            by_cases hij : i = j
            · subst hij; rw [hc] at hc'; cases hc'; exact HE.out
            · exact HJ.out i c' (by omega) hc')⟩
          case measure => simp [intOf]; omega
      · have HF := hid (findK_none key K V (fun i c hi => HJ.out i c (by have := (List.getElem?_eq_some_iff.1 hi).1; omega) hi))
        go_wp2_with fail
        refine bodyPost_ret (v := .tuple #[vv zeroT (.slice none 0 0) (.slice none 0 0), .bool false]) (by simp [results, Tryz.results54, go_sem, vv, zeroT, VT.kd, VT.nm, VT.st]) rfl ⟨zeroT, _, _, ?_, ?_, hv_zero w0, ?_⟩
        · rw [HG.out, HF.out]; rfl
        · rw [HG.out, HF.out]; rfl
        · repeat (first | exact Below.refl _ _ | apply valloc_bel | (refine vset_bel ?_ (by simp)))
  · have HG := hid (show getO (.mk k n s L K V) key = none by unfold getO; rw [if_neg (by exact h6)])
    have t6 : (k == 6) = false := by simpa using h6
    clear h6
    go_enter Tryz.func54, Tryz.ntmps54
    go_wp2_with fail
    go_loop [6] (fun i => i = .int .i64 0) (fun i => 0)
    case atStart => rfl
    case round =>
      subst hrel
      by_cases hv : 0 < V.length
      · go_wp2_with fail
        refine bodyPost_ret (v := .tuple #[vv zeroT (.slice none 0 0) (.slice none 0 0), .bool false]) (by simp [results, Tryz.results54, go_sem, vv, zeroT, VT.kd, VT.nm, VT.st]) rfl ⟨zeroT, _, _, ?_, ?_, hv_zero w0, ?_⟩
        · rw [HG.out]; rfl
        · rw [HG.out]; rfl
        · repeat (first | exact Below.refl _ _ | apply valloc_bel | (refine vset_bel ?_ (by simp)))
      · go_wp2_with fail
        refine bodyPost_ret (v := .tuple #[vv zeroT (.slice none 0 0) (.slice none 0 0), .bool false]) (by simp [results, Tryz.results54, go_sem, vv, zeroT, VT.kd, VT.nm, VT.st]) rfl ⟨zeroT, _, _, ?_, ?_, hv_zero w0, ?_⟩
        · rw [HG.out]; rfl
        · rw [HG.out]; rfl
        · repeat (first | exact Below.refl _ _ | apply valloc_bel | (refine vset_bel ?_ (by simp)))
/-- a tree's box that may be written to, and a fresh one behind it -/
structure Twob (w : World) (b : Nat) (U : VT) (x y : Value) : Prop where
  node : Node w ⟨b, 0, none⟩ U x y
  soft : Row w b 31 5
  zero : Z5 w (b + 1)
theorem Twob.onto {w w' : World} {b : Nat} {U : VT} {x y : Value} (h : Twob w b U x y) (hb : Below w.heap.size w w') : Twob w' b U x y :=
  ⟨h.node.onto hb, h.soft.onto (hb.block b (World.block_lt_of_cell? w ⟨b, 0, none⟩ h.node.1)), h.zero.onto hb⟩
theorem twob_new (w : World) (T : VT) (x y : Value) : Twob ((w.alloc (.cells #[.int .i64 T.kd, .int .i64 T.nm, .string T.st, x, y] 31)).alloc (.cells #[.int .i64 0, .int .i64 0, .string ⟨#[]⟩, .slice none 0 0, .slice none 0 0] 31)) w.heap.size T x y := by
  have hb := valloc_bel (Below.refl (w.alloc (.cells #[.int .i64 T.kd, .int .i64 T.nm, .string T.st, x, y] 31)).heap.size (w.alloc (.cells #[.int .i64 T.kd, .int .i64 T.nm, .string T.st, x, y] 31))) (.cells #[.int .i64 0, .int .i64 0, .string ⟨#[]⟩, .slice none 0 0, .slice none 0 0] 31)
  have hz := z5_new (w.alloc (.cells #[.int .i64 T.kd, .int .i64 T.nm, .string T.st, x, y] 31))
  rw [World.size_alloc] at hz
  refine ⟨Node.onto ⟨?_, ?_, ?_, ?_, ?_⟩ hb, ?_, hz⟩
  · simp
  · simp
  · simp
  · simp
  · simp
  · exact (Row.new w #[.int .i64 T.kd, .int .i64 T.nm, .string T.st, x, y] 31).onto (hb.block w.heap.size (by simp))
theorem z5_far {w W : World} {b : Nat} (h : Z5 w b) (e : W.heap[b]? = w.heap[b]?) : Z5 W b := by
  obtain ⟨⟨h0, h1, h2, h3, h4⟩, hf⟩ := h
  have c : ∀ o, W.cell? ⟨b, o, none⟩ = w.cell? ⟨b, o, none⟩ := fun o => World.cell?_of_block (a := ⟨b, o, none⟩) e
  exact ⟨⟨(c 0).trans h0, (c 1).trans h1, (c 2).trans h2, (c 3).trans h3, (c 4).trans h4⟩, fun o => (World.frozen?_of_block (a := ⟨b, o, none⟩) e).trans (hf o)⟩
theorem twob_put {w : World} {b : Nat} {U T : VT} {x y x' y' : Value} (h : Twob w b U x y) : Twob (put5 w b 0 (.int .i64 T.kd) (.int .i64 T.nm) (.string T.st) x' y') b T x' y' :=
  ⟨put5_node h.soft 0 (by omega) T x' y', put5_row h.soft _ _ _ _ _ _ _, z5_far h.zero (put5_heap _ _ _ _ _ _ _ _ _ (by omega))⟩
set_option maxRecDepth 100000 in
set_option maxHeartbeats 4000000 in
theorem get5_any (T : VT) (x y : Value) (p : List PStep) (v : Value) (w : World) (hT : HV w T x y) (hp : InP w p v) (hf : ∀ s ∈ p, Frm s) (hl : p.length ≤ 1000000) :
    Calls Tryz.prog 27 #[vv T x y, v] w fun e w' => ∃ R X Y, e = .returned (.tuple #[vv R X Y, .bool (getP T p).isSome]) ∧ R = (getP T p).getD zeroT ∧ HV w R X Y ∧ Below w.heap.size w w' := by
  have HT := hid hT
  have HP := hid hp
  have HF := hid hf
  obtain ⟨a, ⟨op, cp, rfl, hp1, hp2, hp3⟩, hpc⟩ := hp
  have HPC := hid hpc
  unfold maxLen at hp2
  obtain ⟨o1, n1, c1, o2, n2, c2, rfl, rfl⟩ := hv_slices hT
  have h2 := hid (twob_new w T (.slice o1 n1 c1) (.slice o2 n2 c2))
  have hb2 := hid (valloc_bel (valloc_bel (Below.refl w.heap.size w) (.cells #[.int .i64 T.kd, .int .i64 T.nm, .string T.st, .slice o1 n1 c1, .slice o2 n2 c2] 31)) (.cells #[.int .i64 0, .int .i64 0, .string ⟨#[]⟩, .slice none 0 0, .slice none 0 0] 31))
  clear hT hf hpc
  simp only [vv]
  go_enter Tryz.func27, Tryz.ntmps27
  go_wp2_with fail
  go_loopw [6] (fun i wr => ∃ (j : Nat) (U : VT) (ox : Option Addr) (nx' cx : Nat) (oy : Option Addr) (ny cy : Nat), i = .int .i64 j ∧ j ≤ p.length ∧ Hid (getP T p = getP U (p.drop j)) ∧ Hid (HV w U (.slice ox nx' cx) (.slice oy ny cy)) ∧ Hid (Twob wr w.heap.size U (.slice ox nx' cx) (.slice oy ny cy)) ∧ Hid (Below w.heap.size w wr)) (fun i _ => p.length - (intOf i).toNat)
  case atStart => exact ⟨0, T, o1, n1, c1, o2, n2, c2, rfl, Nat.zero_le _, hid rfl, HT, h2, hb2⟩
  case round =>
    clear h2 hb2
    obtain ⟨j, U, ox, mx, cx, oy, my, cy, rfl, hj, HGE, HU, H2, HBW⟩ := hrel
    obtain ⟨n0, n1', n2', n3, n4⟩ := H2.out.node
    simp only [Nat.zero_add] at n0 n1' n2' n3 n4
    have sf := H2.out.soft.frozen
    obtain ⟨⟨q0, q1, q2, q3, q4⟩, qf⟩ := H2.out.zero
    by_cases hlt : j < p.length
    · obtain ⟨s, hs⟩ : ∃ s, p[j]? = some s := ⟨p[j], List.getElem?_eq_getElem hlt⟩
      obtain rfl := hp3 (by omega)
      obtain ⟨s0, s1, s2, s3⟩ := HPC.out j s hs
      have t0 := keepCell HBW.out s0; have t1 := keepCell HBW.out s1; have t2 := keepCell HBW.out s2
      have hfs := HF.out s (List.mem_of_getElem? hs)
      have HDR : Hid (p.drop j = s :: p.drop (j + 1)) := hid (by
        obtain ⟨h1, h2⟩ := List.getElem?_eq_some_iff.1 hs
        rw [List.drop_eq_getElem_cons h1, h2])
      clear hs
      obtain ⟨aL, bM, f, g, pp, qq, oL, oM, cL, cM, ex, ey, -, -, hoL, hoM, hK, -, hLc, hMc, cLn, -, -, rL, -, -, -⟩ := HU.out.parts
      injection ex with ex1 ex2 ex3
      subst ex1 ex2 ex3
      have CLN := hid cLn
      have RL := hid rL
      have HKK := hid hK
      clear ey cLn rL hoM hMc hK s0 s1 s2
      obtain ⟨key, at_, pl⟩ := s
      simp only at t0 t1 t2 s3
      rcases hfs with ⟨hpl, hky, ha0, ha1⟩ | ⟨hpl, hat⟩
      · simp only at hpl hky ha0 ha1
        subst hpl hky
        obtain ⟨i, rfl⟩ : ∃ i : Nat, at_ = i := ⟨at_.toNat, by omega⟩
        have hal := valloc_bel (Below.refl wr.heap.size wr) (.cells #[.string ⟨#[]⟩, .int .i64 (i : Int), .bool true] 79)
        have H2a := hid (H2.out.onto hal)
        have HBA := hid (vonto HBW.out hal)
        obtain ⟨m0, m1, m2, m3, m4⟩ := H2a.out.node
        simp only [Nat.zero_add] at m0 m1 m2 m3 m4
        have sa := H2a.out.soft.frozen
        obtain ⟨⟨p0, p1, p2, p3, p4⟩, pf⟩ := H2a.out.zero
        clear n0 n1' n2' n3 n4 sf q0 q1 q2 q3 q4 qf hal
        by_cases h5 : U.kd = 5
        · by_cases hin : i < U.ls.length
          · obtain ⟨t, ht⟩ : ∃ t, U.ls[i]? = some t := ⟨U.ls[i], List.getElem?_eq_getElem hin⟩
            obtain rfl := hoL (by omega)
            obtain ⟨e0', e1', e2', e3', e4'⟩ := CLN.out i t ht
            have HVT := hid (RL.out i t ht)
            obtain ⟨y1, z1, d1, y2, z2, d2, hf1, hg1⟩ := hv_slices HVT.out
            rw [hf1] at e3' HVT
            rw [hg1] at e4' HVT
            have e0 := keepCell HBA.out e0'; have e1 := keepCell HBA.out e1'; have e2 := keepCell HBA.out e2'; have e3 := keepCell HBA.out e3'; have e4 := keepCell HBA.out e4'
            have HGN := hid (show getP T p = getP t (p.drop (j + 1)) by
              rw [HGE.out, HDR.out]
              have h1 : idxT U ⟨⟨#[]⟩, (i : Int), true⟩ = some i := by unfold idxT; rw [if_pos rfl, if_pos ⟨h5, by simp, by simpa using hin⟩]; simp
              have h2 : kidT U ⟨⟨#[]⟩, (i : Int), true⟩ i = some t := by unfold kidT; rw [if_pos rfl]; exact ht
              simp only [getP, h1, h2, Option.bind_some])
            have H2n := hid (twob_put (T := t) (x' := .slice y1 z1 d1) (y' := .slice y2 z2 d2) H2a.out)
            have HBN := hid (put5_bel (o := 0) (v0 := .int .i64 t.kd) (v1 := .int .i64 t.nm) (v2 := .string t.st) (v3 := .slice y1 z1 d1) (v4 := .slice y2 z2 d2) HBA.out (Nat.le_refl w.heap.size))
            rw [h5] at m0
            simp only [put5, Nat.zero_add] at H2n HBN
            clear HGE HDR HKK e0' e1' e2' e3' e4' hf1 hg1 ht
            go_wp2_with fail
            go_roundw
            case rel => exact ⟨j + 1, t, y1, z1, d1, y2, z2, d2, val_int (by omega), hlt, HGN, HVT, H2n, HBN⟩
            case measure => simp [intOf]; omega
          · have hin2 : U.ls.length ≤ i := by omega
            have hno : idxT U ⟨⟨#[]⟩, (i : Int), true⟩ = none := by unfold idxT; rw [if_pos rfl, if_neg (by simp; omega)]
            rw [h5] at m0
            have HNO := hid (show getP T p = none by
              rw [HGE.out, HDR.out]
              simp only [getP, hno]
              rfl)
            obtain ⟨r0, r1, r2, r3, r4⟩ := z5_put H2a.out.zero zeroT (.slice none 0 0) (.slice none 0 0)
            simp only [put5, Nat.zero_add, zeroT, VT.kd, VT.nm, VT.st] at r0 r1 r2 r3 r4
            clear HGE HDR
            go_wp2_with fail
            refine bodyPost_ret (v := .tuple #[vv zeroT (.slice none 0 0) (.slice none 0 0), .bool false]) (by simp [results, Tryz.results27, go_sem, vv, zeroT, VT.kd, VT.nm, VT.st, r0, r1, r2, r3, r4]) rfl ⟨zeroT, _, _, by rw [HNO.out]; rfl, by rw [HNO.out]; rfl, hv_zero w, ?_⟩
            exact vset_bel (vset_bel (vset_bel (vset_bel (vset_bel HBA.out (Nat.le_succ _)) (Nat.le_succ _)) (Nat.le_succ _)) (Nat.le_succ _)) (Nat.le_succ _)
        · have hno : idxT U ⟨⟨#[]⟩, (i : Int), true⟩ = none := by unfold idxT; rw [if_pos rfl, if_neg (fun h => h5 h.1)]
          have h5b : (U.kd != 5) = true := by simpa using h5
          have HNO := hid (show getP T p = none by
            rw [HGE.out, HDR.out]
            simp only [getP, hno]
            rfl)
          obtain ⟨r0, r1, r2, r3, r4⟩ := z5_put H2a.out.zero zeroT (.slice none 0 0) (.slice none 0 0)
          simp only [put5, Nat.zero_add, zeroT, VT.kd, VT.nm, VT.st] at r0 r1 r2 r3 r4
          clear HGE HDR
          go_wp2_with fail
          refine bodyPost_ret (v := .tuple #[vv zeroT (.slice none 0 0) (.slice none 0 0), .bool false]) (by simp [results, Tryz.results27, go_sem, vv, zeroT, VT.kd, VT.nm, VT.st, r0, r1, r2, r3, r4]) rfl ⟨zeroT, _, _, by rw [HNO.out]; rfl, by rw [HNO.out]; rfl, hv_zero w, ?_⟩
          exact vset_bel (vset_bel (vset_bel (vset_bel (vset_bel HBA.out (Nat.le_succ _)) (Nat.le_succ _)) (Nat.le_succ _)) (Nat.le_succ _)) (Nat.le_succ _)
      · simp only at hpl hat
        subst hpl hat
        have hal := valloc_bel (Below.refl wr.heap.size wr) (.cells #[.string key, .int .i64 0, .bool false] 79)
        have H2a := hid (H2.out.onto hal)
        have HBA := hid (vonto HBW.out hal)
        obtain ⟨m0, m1, m2, m3, m4⟩ := H2a.out.node
        simp only [Nat.zero_add] at m0 m1 m2 m3 m4
        have sa := H2a.out.soft.frozen
        obtain ⟨⟨p0, p1, p2, p3, p4⟩, pf⟩ := H2a.out.zero
        clear n0 n1' n2' n3 n4 sf q0 q1 q2 q3 q4 qf hal
        have hkg := key_get (s := ⟨key, 0, false⟩) HKK.out rfl
        have CG := hid (fun X (hX : Below w.heap.size w X) => get_at U _ _ key w X HU.out hX)
        simp only [vv] at CG
        go_wp2_with fail
        go_at_call 54
        refine (CG.out _ HBA.out).mono ?_
        rintro e wg ⟨R, X, Y, rfl, hR, hvR, hbg⟩
        obtain ⟨y1, z1, d1, y2, z2, d2, rfl, rfl⟩ := hv_slices hvR
        have HVR := hid hvR
        have hal2 := valloc_bel (Below.refl wg.heap.size wg) (.cells #[.int .i64 R.kd, .int .i64 R.nm, .string R.st, .slice y1 z1 d1, .slice y2 z2 d2] 31)
        have H2b := hid ((H2a.out.onto hbg).onto hal2)
        have HBG := hid (vonto (vonto HBA.out hbg) hal2)
        obtain ⟨g0, g1, g2, g3, g4⟩ := H2b.out.node
        simp only [Nat.zero_add] at g0 g1 g2 g3 g4
        have sb := H2b.out.soft.frozen
        obtain ⟨⟨z0, z1', z2', z3, z4⟩, zf⟩ := H2b.out.zero
        clear m0 m1 m2 m3 m4 sa p0 p1 p2 p3 p4 pf hbg hal2 hvR CG
        cases hgo : getO U key with
        | none =>
          have HNO := hid (show getP T p = none by
            rw [HGE.out, HDR.out]
            have h1 := hkg
            rw [hgo] at h1
            simp only [getP, h1])
          obtain ⟨r0, r1, r2, r3, r4⟩ := z5_put H2b.out.zero zeroT (.slice none 0 0) (.slice none 0 0)
          simp only [put5, Nat.zero_add, zeroT, VT.kd, VT.nm, VT.st] at r0 r1 r2 r3 r4
          clear HGE HDR hkg hR hgo
          simp only [Option.isSome_none]
          go_wp2_with fail
          refine bodyPost_ret (v := .tuple #[vv zeroT (.slice none 0 0) (.slice none 0 0), .bool false]) (by simp [results, Tryz.results27, go_sem, vv, zeroT, VT.kd, VT.nm, VT.st, r0, r1, r2, r3, r4]) rfl ⟨zeroT, _, _, by rw [HNO.out]; rfl, by rw [HNO.out]; rfl, hv_zero w, ?_⟩
          exact vset_bel (vset_bel (vset_bel (vset_bel (vset_bel HBG.out (Nat.le_succ _)) (Nat.le_succ _)) (Nat.le_succ _)) (Nat.le_succ _)) (Nat.le_succ _)
        | some t =>
          have hRt : R = t := by rw [hR, hgo]; rfl
          subst hRt
          have HGN := hid (show getP T p = getP R (p.drop (j + 1)) by
            rw [HGE.out, HDR.out]
            have h1 := hkg
            rw [hgo] at h1
            simp only [getP, h1])
          have H2n := hid (twob_put (T := R) (x' := .slice y1 z1 d1) (y' := .slice y2 z2 d2) H2b.out)
          have HBN := hid (put5_bel (o := 0) (v0 := .int .i64 R.kd) (v1 := .int .i64 R.nm) (v2 := .string R.st) (v3 := .slice y1 z1 d1) (v4 := .slice y2 z2 d2) HBG.out (Nat.le_refl w.heap.size))
          simp only [put5, Nat.zero_add] at H2n HBN
          clear HGE HDR hkg hR hgo
          simp only [Option.isSome_some]
          go_wp2_with fail
          go_roundw
          case rel => exact ⟨j + 1, R, y1, z1, d1, y2, z2, d2, val_int (by omega), hlt, HGN, HVR, H2n, HBN⟩
          case measure => simp [intOf]; omega
    · have HE := hid (show getP T p = some U by rw [HGE.out, List.drop_eq_nil_of_le (by omega)]; rfl)
      clear HGE
      obtain ⟨r0, r1, r2, r3, r4⟩ := z5_put H2.out.zero U (.slice ox mx cx) (.slice oy my cy)
      simp only [put5, Nat.zero_add] at r0 r1 r2 r3 r4
      have hbf := vset_bel (vset_bel (vset_bel (vset_bel (vset_bel HBW.out (ad := ⟨w.heap.size + 1, 0, none⟩) (v := .int .i64 U.kd) (Nat.le_succ _)) (ad := ⟨w.heap.size + 1, 1, none⟩) (v := .int .i64 U.nm) (Nat.le_succ _)) (ad := ⟨w.heap.size + 1, 2, none⟩) (v := .string U.st) (Nat.le_succ _)) (ad := ⟨w.heap.size + 1, 3, none⟩) (v := .slice ox mx cx) (Nat.le_succ _)) (ad := ⟨w.heap.size + 1, 4, none⟩) (v := .slice oy my cy) (Nat.le_succ _)
      go_wp2_with fail
      exact bodyPost_ret (v := .tuple #[vv U (.slice ox mx cx) (.slice oy my cy), .bool true]) (by simp [results, Tryz.results27, go_sem, vv, r0, r1, r2, r3, r4]) rfl ⟨U, _, _, by rw [HE.out]; rfl, by rw [HE.out]; rfl, HU.out, hbf⟩
end Go.Proofs.YtjcejjejlekelaaGreatDoor
namespace Go.Proofs.YtjcejjejlekelaaGreatDoor
open Go.RowKit

set_option maxRecDepth 100000 in
set_option maxHeartbeats 1000000 in
theorem kept5_yes (T : VT) (o1 : Option Addr) (n1 c1 : Nat) (o2 : Option Addr) (n2 c2 : Nat) (w : World) :
    Calls Tryz.prog 56 #[vv T (.slice o1 n1 c1) (.slice o2 n2 c2), .bool true] w fun e w' => e = .returned (.tuple #[vv T (.slice o1 n1 c1) (.slice o2 n2 c2), .bool true]) ∧ Below w.heap.size w w' := by
  simp only [vv]
  go_enter Tryz.func56, Tryz.ntmps56
  go_wp2_with fail
  exact bodyPost_ret (v := .tuple #[.agg #[.int .i64 T.kd, .int .i64 T.nm, .string T.st, .slice o1 n1 c1, .slice o2 n2 c2], .bool true]) (by simp [results, Tryz.results56, go_sem]) rfl ⟨rfl, valloc_bel (valloc_bel (Below.refl _ _) _) _⟩
set_option maxRecDepth 100000 in
set_option maxHeartbeats 1000000 in
theorem kept5_no (T : VT) (o1 : Option Addr) (n1 c1 : Nat) (o2 : Option Addr) (n2 c2 : Nat) (w : World) :
    Calls Tryz.prog 56 #[vv T (.slice o1 n1 c1) (.slice o2 n2 c2), .bool false] w fun e w' => e = .returned (.tuple #[vv zeroT (.slice none 0 0) (.slice none 0 0), .bool false]) ∧ Below w.heap.size w w' := by
  simp only [vv, zeroT, VT.kd, VT.nm, VT.st]
  go_enter Tryz.func56, Tryz.ntmps56
  go_wp2_with fail
  exact bodyPost_ret (v := .tuple #[.agg #[.int .i64 0, .int .i64 0, .string ⟨#[]⟩, .slice none 0 0, .slice none 0 0], .bool false]) (by simp [results, Tryz.results56, go_sem]) rfl ⟨rfl, valloc_bel (valloc_bel (Below.refl _ _) _) _⟩
end Go.Proofs.YtjcejjejlekelaaGreatDoor
namespace Go.Proofs.YtjcejjejlekelaaGreatDoor
open Go.RowKit

theorem last_cons {α : Type} (s : α) {p : List α} (hp : p ≠ []) : (s :: p).getLast? = p.getLast? ∧ (s :: p).dropLast = s :: p.dropLast := by
  cases p with
  | nil => exact absurd rfl hp
  | cons a p => exact ⟨by simp [List.getLast?_cons_cons], rfl⟩
theorem last_some {α : Type} {p : List α} (hp : p ≠ []) : ∃ l, p.getLast? = some l := by
  cases h : p.getLast? with
  | none => rw [List.getLast?_eq_none_iff] at h; exact absurd h hp
  | some l => exact ⟨l, rfl⟩
theorem setP_one (T : VT) (s : PStep) (x : VT) : setP T [s] x = putT T s x := by
  unfold setP
  simp only [List.getLast?_singleton, List.dropLast_singleton, getP]
  cases putT T s x <;> rfl
theorem setP_cons (T : VT) (s : PStep) {p : List PStep} (hp : p ≠ []) (x : VT) : setP T (s :: p) x = match idxT T s with | none => none | some i => match kidT T s i with | none => none | some t => (setP t p x).map (repT T s i) := by
  obtain ⟨h1, h2⟩ := last_cons s hp
  obtain ⟨l, hl⟩ := last_some hp
  unfold setP
  rw [h1, h2, hl]
  simp only [getP]
  cases hi : idxT T s with
  | none => simp
  | some i =>
    cases hk : kidT T s i with
    | none => simp [hk]
    | some t =>
      simp only [Option.bind_some, hk]
      cases hg : getP t p.dropLast with
      | none => simp
      | some U =>
        simp only [Option.map_map]
        congr 1
        funext R
        simp only [Function.comp, replP, hi, hk]
theorem dropP_one (T : VT) (s : PStep) : dropP T [s] = match idxT T s with | none => none | some i => some (delT T s i) := by
  unfold dropP
  simp only [List.getLast?_singleton, List.dropLast_singleton, getP]
  cases idxT T s <;> rfl
theorem dropP_cons (T : VT) (s : PStep) {p : List PStep} (hp : p ≠ []) : dropP T (s :: p) = match idxT T s with | none => none | some i => match kidT T s i with | none => none | some t => (dropP t p).map (repT T s i) := by
  obtain ⟨h1, h2⟩ := last_cons s hp
  obtain ⟨l, hl⟩ := last_some hp
  unfold dropP
  rw [h1, h2, hl]
  simp only [getP]
  cases hi : idxT T s with
  | none => simp
  | some i =>
    cases hk : kidT T s i with
    | none => simp [hk]
    | some t =>
      simp only [Option.bind_some, hk]
      cases hg : getP t p.dropLast with
      | none => simp
      | some U =>
        simp only
        cases hx : idxT U l with
        | none => simp
        | some k => simp only [Option.map_some, replP, hi, hk]
end Go.Proofs.YtjcejjejlekelaaGreatDoor
namespace Go.Proofs.YtjcejjejlekelaaGreatDoor
open Go.RowKit

theorem ins_set (key : ByteArray) (x : VT) : ∀ (P : List (ByteArray × VT)) (i : Nat), Strict (P.map (·.1)) → firstI (keyIs key) (P.map (·.1)) = some i → insP key x false P = P.set i (key, x)
  | [], i, _, h => by simp [firstI] at h
  | a :: P, i, hs, h => by
    have hh := strict_head (by simpa using hs : Strict (a.1 :: P.map (·.1)))
    rw [List.map_cons, firstI] at h
    by_cases he : a.1.data.toList = key.data.toList
    · rw [if_pos (by unfold keyIs; exact decide_eq_true he)] at h
      injection h with h
      subst h
      have hl : ltB a.1.data.toList key.data.toList = false := by rw [he]; exact ltB_irr _
      rw [insP, hl, if_pos (by rfl), if_pos he]
      simp only [Bool.not_false, Bool.or_true, List.append_nil, List.set_cons_zero]
      rw [ins_done key x P (fun b hb e => by
        have := hh b.1 (List.mem_map_of_mem hb)
        rw [he, e, ltB_irr] at this; cases this)]
      rfl
    · rw [if_neg (by unfold keyIs; rw [decide_eq_false he]; decide)] at h
      cases hf : firstI (keyIs key) (P.map (·.1)) with
      | none => rw [hf] at h; simp at h
      | some j =>
        rw [hf] at h
        simp only [Option.map_some] at h
        injection h with h
        subst h
        obtain ⟨-, d, hd, e⟩ := firstI_lt hf
        unfold keyIs at e
        rw [decide_eq_true_eq] at e
        have hl : ltB a.1.data.toList key.data.toList = true := by
          have := hh d (List.mem_of_getElem? hd)
          rwa [e] at this
        rw [insP, hl, if_neg (by simp), if_neg he]
        simp only [Bool.not_true, Bool.or_false, List.nil_append, List.set_cons_succ]
        rw [ins_set key x P j (by have := hs; rw [List.map_cons] at this; exact this.tail) hf]
        rfl
theorem firstI_none {p : ByteArray → Bool} : ∀ {K : List ByteArray}, firstI p K = none → ∀ (i : Nat) (c : ByteArray), K[i]? = some c → p c = false
  | [], _, i, c, h => by simp at h
  | a :: K, hf, i, c, h => by
    unfold firstI at hf
    by_cases hp : p a = true
    · rw [if_pos hp] at hf; cases hf
    · rw [if_neg hp] at hf
      cases i with
      | zero => simp at h; subst h; simpa using hp
      | succ i => exact firstI_none (K := K) (by cases hk : firstI p K with | none => rfl | some j => rw [hk] at hf; cases hf) i c (by simpa using h)
theorem ins_mid (key : ByteArray) (x : VT) : ∀ (P : List (ByteArray × VT)), firstI (keyIs key) (P.map (·.1)) = none → insP key x false P = P.take (insI key (P.map (·.1))) ++ (key, x) :: P.drop (insI key (P.map (·.1)))
  | [], _ => by simp [insP, insI, firstI]
  | a :: P, h => by
    rw [List.map_cons, firstI] at h
    by_cases he : a.1.data.toList = key.data.toList
    · rw [if_pos (by unfold keyIs; exact decide_eq_true he)] at h; cases h
    · rw [if_neg (by unfold keyIs; rw [decide_eq_false he]; decide)] at h
      have hf : firstI (keyIs key) (P.map (·.1)) = none := by
        cases hf : firstI (keyIs key) (P.map (·.1)) with
        | none => rfl
        | some j => rw [hf] at h; simp at h
      have hne : ∀ b ∈ P, ¬ b.1.data.toList = key.data.toList := fun b hb e => by
        obtain ⟨i, hi⟩ := List.getElem?_of_mem (List.mem_map_of_mem (f := (·.1)) hb)
        have := firstI_none hf i b.1 hi
        unfold keyIs at this
        rw [decide_eq_false_iff_not] at this
        exact this e
      rcases ltB_tri a.1.data.toList key.data.toList with ⟨h1, h2, -⟩ | h1 | ⟨h1, h2, -⟩
      · have hi : insI key ((a :: P).map (·.1)) = insI key (P.map (·.1)) + 1 := by
          unfold insI
          rw [List.map_cons, firstI, if_neg (by rw [h2]; decide)]
          cases firstI (fun c => ltB key.data.toList c.data.toList) (P.map (·.1)) with
          | none => simp
          | some j => simp
        rw [hi, insP, h1, if_neg (by simp), if_neg he]
        simp only [Bool.not_true, Bool.or_false, List.nil_append, List.take_succ_cons, List.drop_succ_cons, List.cons_append]
        rw [ins_mid key x P hf]
      · exact absurd h1 he
      · have hi : insI key ((a :: P).map (·.1)) = 0 := by
          unfold insI
          rw [List.map_cons, firstI, if_pos h2]; rfl
        rw [hi, insP, h1, if_pos (by rfl), if_neg he]
        simp only [Bool.not_false, Bool.or_true, List.take_zero, List.nil_append, List.drop_zero, List.cons_append]
        rw [ins_done key x P hne]
theorem prs_parts (A : List (ByteArray × VT × Value × Value)) : (prs A).map (·.1) = A.map (·.1) ∧ (prs A).map (·.2) = A.map (·.2.1) := by
  unfold prs
  exact ⟨by rw [List.map_map]; rfl, by rw [List.map_map]; rfl⟩
theorem plain_map {T : VT} (h : plainT T = true) (h6 : T.kd = 6) : T.nm = 0 ∧ T.st = ⟨#[]⟩ ∧ T.ls = [] ∧ Strict T.ks := by
  rw [plainT_eq, Bool.and_eq_true, Bool.and_eq_true] at h
  have hn := h.1.1
  unfold nodeB nodeC at hn
  simp only [h6, show ¬ (6 : Int) = 0 by decide, show ¬ (6 : Int) = 1 by decide, show ¬ (6 : Int) = 2 by decide, show ¬ (6 : Int) = 3 by decide, show ¬ (6 : Int) = 4 by decide, show ¬ (6 : Int) = 7 by decide, show ¬ (6 : Int) = 5 by decide, if_false, if_true, Bool.and_eq_true] at hn
  obtain ⟨⟨⟨h1, h2⟩, h3⟩, h4⟩ := hn
  exact ⟨by simpa using h1, ba_nil h2, List.eq_nil_of_length_eq_zero (by have := of_decide_eq_true h3; simpa using this), keys_strict h4⟩
theorem plain_list {T : VT} (h : plainT T = true) (h5 : T.kd = 5) : T.nm = 0 ∧ T.st = ⟨#[]⟩ ∧ T.vs = [] := by
  rw [plainT_eq, Bool.and_eq_true, Bool.and_eq_true] at h
  have hn := h.1.1
  unfold nodeB nodeC at hn
  simp only [h5, show ¬ (5 : Int) = 0 by decide, show ¬ (5 : Int) = 1 by decide, show ¬ (5 : Int) = 2 by decide, show ¬ (5 : Int) = 3 by decide, show ¬ (5 : Int) = 4 by decide, show ¬ (5 : Int) = 7 by decide, if_false, if_true, Bool.and_eq_true] at hn
  obtain ⟨⟨h1, h2⟩, h3⟩ := hn
  exact ⟨by simpa using h1, ba_nil h2, List.eq_nil_of_length_eq_zero (by have := of_decide_eq_true h3; simpa using this)⟩
/-- With on a tree that may be: a key of its own, or a new one -/
theorem with_put {T : VT} (hp : plainT T = true) (h6 : T.kd = 6) {s : PStep} (hs : s.place = false) {A E : List (ByteArray × VT × Value × Value)} {x : VT} {p q : Value} (h1 : A.map (·.1) = T.ks) (h2 : A.map (·.2.1) = T.vs) (hE : E = withL s.key x p q A) :
    putT T s x = some (.mk 6 0 ⟨#[]⟩ [] (E.map (·.1)) (E.map (·.2.1))) := by
  obtain ⟨e1, e2, e3, e4⟩ := plain_map hp h6
  have hw := with_prs s.key x p q A
  rw [← hE] at hw
  obtain ⟨a1, a2⟩ := prs_parts A
  obtain ⟨b1, b2⟩ := prs_parts E
  rw [h1] at a1
  rw [h2] at a2
  rw [← b1, ← b2, hw]
  obtain ⟨k, n, st, L, K, V⟩ := T
  simp only [VT.kd, VT.nm, VT.st, VT.ls, VT.ks, VT.vs] at e1 e2 e3 e4 h6 a1 a2
  subst e1 e2 e3 h6
  unfold putT idxT
  rw [if_neg (by rw [hs]; decide), if_pos (show (VT.mk 6 0 ⟨#[]⟩ [] K V).kd = 6 from rfl)]
  simp only [VT.ks]
  cases hf : firstI (keyIs s.key) K with
  | some i =>
    simp only
    unfold repT
    simp only
    rw [if_neg (show ¬ s.place = true by rw [hs]; decide)]
    rw [ins_set s.key x (prs A) i (by rw [a1]; exact e4) (by rw [a1]; exact hf), List.map_set, List.map_set, a1, a2]
    obtain ⟨-, d, hd, e⟩ := firstI_lt hf
    unfold keyIs at e
    rw [decide_eq_true_eq] at e
    have : d = s.key := ba_ext _ _ e
    subst this
    congr 2
    refine List.ext_getElem? fun j => ?_
    rw [List.getElem?_set]
    split
    · subst_vars
      split
      · exact hd
      · rename_i hn; exact absurd (lt_of_some hd) hn
    · rfl
  | none =>
    simp only
    rw [if_neg (by rw [hs]; decide), if_pos (show (VT.mk 6 0 ⟨#[]⟩ [] K V).kd = 6 from rfl)]
    unfold insT
    rw [ins_mid s.key x (prs A) (by rw [a1]; exact hf), a1]
    simp only [List.map_append, List.map_cons, List.map_take, List.map_drop, a1, a2]
end Go.Proofs.YtjcejjejlekelaaGreatDoor
namespace Go.Proofs.YtjcejjejlekelaaGreatDoor
open Go.RowKit

theorem add_z5 (a : Addr) : a.add (0 * 3) = a := by unfold Addr.add; simp
theorem add_o5 (a : Addr) : a.add (1 * 3) = ⟨a.block, a.off + 3, none⟩ := by unfold Addr.add; simp
theorem add_add5 (a : Addr) (x y : Nat) : (a.add x).add y = a.add (x + y) := by
  unfold Addr.add
  by_cases hx : x = 0
  · subst hx; simp
  · by_cases hy : y = 0
    · subst hy; simp
    · simp [hx, hy, Nat.add_assoc]
theorem inp_tl {w : World} {ps : List PStep} {b : Addr} {n c m : Nat} (h : InP w ps (.slice (some b) n c)) (hm : m ≤ n) : InP w (ps.drop m) (.slice (if c = m then some b else some (b.add (m * 3))) (n - m) (c - m)) := by
  obtain ⟨a, ⟨o, cap, e, h1, h2, h3⟩, hc⟩ := h
  injection e with e1 e2 e3
  subst e2 e3
  by_cases hcm : c = m
  · have hl : ps.length = m := by omega
    rw [if_pos hcm, List.drop_eq_nil_of_le (by omega), hl]
    exact ⟨a, ⟨_, _, by rw [Nat.sub_self]; rfl, by simp, by omega, fun h0 => absurd h0 (by simp)⟩, fun i s hs => by simp at hs⟩
  · rw [if_neg hcm]
    by_cases hz : ps.length = m
    · rw [List.drop_eq_nil_of_le (by omega)]
      exact ⟨a, ⟨_, _, by rw [hz, Nat.sub_self]; rfl, by simp, by omega, fun h0 => absurd h0 (by simp)⟩, fun i s hs => by simp at hs⟩
    · have ha : o = some a := h3 (by omega)
      rw [← e1] at ha
      injection ha with ha
      subst ha
      refine ⟨b.add (m * 3), ⟨_, _, by rw [List.length_drop], by rw [List.length_drop]; omega, by omega, fun _ => rfl⟩, fun i s hs => ?_⟩
      rw [List.getElem?_drop] at hs
      rw [add_add5, ← Nat.add_mul]
      exact hc (m + i) s hs
theorem plain_zero : plainT zeroT = true := by
  unfold zeroT
  rw [plainT_eq]
  simp [nodeB, nodeC, plainL, VT.kd, VT.nm, VT.st, VT.ls, VT.vs, Lib.toList_data]
theorem hs_zero (w : World) (S : Nat → Prop) : HS w S zeroT (.slice none 0 0) (.slice none 0 0) :=
  .mk ⟨0, 0, none⟩ ⟨0, 0, none⟩ (fun _ => .int .i64 0) (fun _ => .int .i64 0) (fun _ => .int .i64 0) (fun _ => .int .i64 0) (by decide) (by decide) (by decide)
    ⟨none, 0, rfl, Nat.le_refl _, Nat.zero_le _, fun h => absurd h (Nat.lt_irrefl 0)⟩ ⟨none, 0, rfl, Nat.le_refl _, Nat.zero_le _, fun h => absurd h (Nat.lt_irrefl 0)⟩ rfl
    (fun h => absurd h (Nat.lt_irrefl 0)) (fun h => absurd h (Nat.lt_irrefl 0)) (fun i t h => by simp at h) (fun i t h => by simp at h) (fun i t h => by simp at h) (fun i t h => by simp at h) (fun i t h => by simp at h)
/-- the three boxes of Set: a tree, what is put in, the result -/
structure S5 (w wr : World) (T : VT) (x y : Value) (U : VT) (x' y' : Value) : Prop where
  node : Node wr ⟨w.heap.size, 0, none⟩ T x y
  nodx : Node wr ⟨w.heap.size + 1, 0, none⟩ U x' y'
  zero : Z5 wr (w.heap.size + 1 + 1)
  bel : Below w.heap.size w wr
  big : w.heap.size + 3 ≤ wr.heap.size
theorem S5.onto {w wr wr' : World} {T : VT} {x y : Value} {U : VT} {x' y' : Value} (h : S5 w wr T x y U x' y') (hb : Below (w.heap.size + 3) wr wr') : S5 w wr' T x y U x' y' := by
  have h1 := h.big
  have h2 := hb.size
  exact ⟨h.node.eqs (hb.block _ (by show w.heap.size < _; omega)), h.nodx.eqs (hb.block _ (by show w.heap.size + 1 < _; omega)), z5_far h.zero (hb.block _ (by omega)), h.bel.trans (hb.mono (by omega)), by omega⟩
theorem S5.on {w wr wr' : World} {T : VT} {x y : Value} {U : VT} {x' y' : Value} (h : S5 w wr T x y U x' y') (hb : Below wr.heap.size wr wr') : S5 w wr' T x y U x' y' := h.onto (hb.mono h.big)
theorem s5_new (w : World) (T : VT) (x y : Value) (U : VT) (x' y' : Value) : S5 w (((w.alloc (.cells #[.int .i64 T.kd, .int .i64 T.nm, .string T.st, x, y] 31)).alloc (.cells #[.int .i64 U.kd, .int .i64 U.nm, .string U.st, x', y'] 31)).alloc (.cells #[.int .i64 0, .int .i64 0, .string ⟨#[]⟩, .slice none 0 0, .slice none 0 0] 31)) T x y U x' y' := by
  obtain ⟨W1, hW1⟩ : ∃ W, W = w.alloc (.cells #[.int .i64 T.kd, .int .i64 T.nm, .string T.st, x, y] 31) := ⟨_, rfl⟩
  have s1 : W1.heap.size = w.heap.size + 1 := by rw [hW1, World.size_alloc]
  have h0 : Node W1 ⟨w.heap.size, 0, none⟩ T x y := by rw [hW1]; exact ⟨by simp, by simp, by simp, by simp, by simp⟩
  have b1 : Below w.heap.size w W1 := by rw [hW1]; exact valloc_bel (Below.refl _ _) _
  rw [← hW1]
  clear hW1
  obtain ⟨W2, hW2⟩ : ∃ W, W = W1.alloc (.cells #[.int .i64 U.kd, .int .i64 U.nm, .string U.st, x', y'] 31) := ⟨_, rfl⟩
  have s2 : W2.heap.size = w.heap.size + 1 + 1 := by rw [hW2, World.size_alloc, s1]
  have h1 : Node W2 ⟨w.heap.size + 1, 0, none⟩ U x' y' := by rw [hW2, ← s1]; exact ⟨by simp, by simp, by simp, by simp, by simp⟩
  have h0' : Node W2 ⟨w.heap.size, 0, none⟩ T x y := by rw [hW2]; exact h0.onto (valloc_bel (Below.refl _ _) _)
  have b2 : Below w.heap.size w W2 := by rw [hW2]; exact valloc_bel b1 _
  rw [← hW2]
  clear hW2
  have hz := z5_new W2
  rw [s2] at hz
  have hb := valloc_bel (Below.refl W2.heap.size W2) (.cells #[.int .i64 0, .int .i64 0, .string ⟨#[]⟩, .slice none 0 0, .slice none 0 0] 31)
  exact ⟨h0'.onto hb, h1.onto hb, hz, vonto b2 hb, by rw [World.size_alloc, s2]; omega⟩
/-- what Set answers -/
def Set5 (o : Option VT) (w : World) (e : Ending) (w' : World) : Prop := ∃ R X Y, e = .returned (.tuple #[vv R X Y, .bool o.isSome]) ∧ R = o.getD zeroT ∧ HS w' (fun k => w.heap.size ≤ k ∧ k < w'.heap.size) R X Y ∧ Below w.heap.size w w'
theorem put5_hs {w : World} {b lo : Nat} {T : VT} {x y v0 v1 v2 v3 v4 : Value} (hb : b < lo) (h : HS w (fun k => lo ≤ k ∧ k < w.heap.size) T x y) {lo' : Nat} (hl : lo' ≤ lo) : HS (put5 w b 0 v0 v1 v2 v3 v4) (fun k => lo' ≤ k ∧ k < (put5 w b 0 v0 v1 v2 v3 v4).heap.size) T x y := by
  rw [put5_size]
  exact h.onto (fun k hk => put5_heap _ _ _ _ _ _ _ _ _ (by omega)) (fun k hk => ⟨by omega, hk.2⟩)
theorem box5_bel {w W : World} (h : Below w.heap.size w W) (b : Nat) (hb : w.heap.size ≤ b) (v0 v1 v2 v3 v4 : Value) : Below w.heap.size w (put5 W b 0 v0 v1 v2 v3 v4) := put5_bel h hb
set_option maxRecDepth 100000 in
set_option maxHeartbeats 4000000 in
theorem set5_nil (T U : VT) (x y x' y' v : Value) (w : World) (hT : HV w T x y) (hU : HV w U x' y') (hz : szT U ≤ 1000000) (hp : InP w [] v) :
    Calls Tryz.prog 29 #[vv T x y, v, vv U x' y'] w fun e w' => Set5 (some U) w e w' := by
  obtain ⟨a, ⟨op, cp, rfl, hp1, hp2, hp3⟩, -⟩ := hp
  obtain ⟨o1, n1, c1, o2, n2, c2, rfl, rfl⟩ := hv_slices hT
  obtain ⟨o3, n3, c3, o4, n4, c4, rfl, rfl⟩ := hv_slices hU
  have ST := hid (s5_new w T (.slice o1 n1 c1) (.slice o2 n2 c2) U (.slice o3 n3 c3) (.slice o4 n4 c4))
  have CC := hid (rcopy_any (szT U) U (Nat.le_refl _) hz (.slice o3 n3 c3) (.slice o4 n4 c4) _ (hU.onto ST.out.bel))
  clear hT hU hp3 hp1 hp2
  simp only [vv] at CC ⊢
  simp only [List.length_nil]
  go_enter Tryz.func29, Tryz.ntmps29
  go_wp2_with fail
  go_at_call 26
  refine CC.out.mono ?_
  rintro e w1 ⟨X, Y, rfl, hx, hb⟩
  obtain ⟨y1, z1, d1, y2, z2, d2, rfl, rfl⟩ := hv_slices hx.hv
  have ST1 := hid (ST.out.on hb)
  have HX := hid hx
  have hbig := ST.out.big
  clear CC ST hx hb
  obtain ⟨⟨q0, q1, q2, q3, q4⟩, qf⟩ := ST1.out.zero
  obtain ⟨r0, r1, r2, r3, r4⟩ := z5_put ST1.out.zero U (.slice y1 z1 d1) (.slice y2 z2 d2)
  simp only [put5, Nat.zero_add] at r0 r1 r2 r3 r4
  go_wp2_with fail
  exact bodyPost_ret (v := .tuple #[vv U (.slice y1 z1 d1) (.slice y2 z2 d2), .bool true]) (by simp [results, Tryz.results29, go_sem, vv, r0, r1, r2, r3, r4]) rfl ⟨U, _, _, rfl, rfl, put5_hs (lo := w.heap.size + 3) (by omega) (HX.out.onto (fun _ _ => rfl) (fun k hk => ⟨by omega, hk.2⟩)) (by omega), box5_bel ST1.out.bel _ (by omega) _ _ _ _ _⟩
theorem own_soft {w : World} {base g n c m : Nat} {ty : TypeId} {xs : List Value} (h : w.ownsRow base ty 5 (.slice (some ⟨g, 0, none⟩) n c) m xs) : n = m ∧ base ≤ g ∧ m ≤ c ∧ c ≤ maxLen ∧ Row w g ty (c * 5) := by
  rcases h with ⟨-, ⟨h, -⟩ | ⟨g', cap, cur, e, h1, h2, h3, h4, h5, -⟩⟩
  · cases h
  · injection e with e1 e2 e3
    injection e1 with e1
    injection e1 with e1
    subst e1 e2 e3
    exact ⟨rfl, h1, h3, h4, cur, h2, h5⟩
/-- the parts of a row of one's own -/
theorem own_parts {w : World} {S : Nat → Prop} {base g n c : Nat} {E : List (VT × Value × Value)} {ty : TypeId} (h : w.ownsRow base ty 5 (.slice (some ⟨g, 0, none⟩) n c) E.length (E.flatMap vc)) (hE : ∀ e ∈ E, HS w S e.1 e.2.1 e.2.2) :
    ∃ f q : Nat → Value, ∀ (i : Nat) (t : VT), (E.map (·.1))[i]? = some t → Node w ⟨g, i * 5, none⟩ t (f i) (q i) ∧ HS w S t (f i) (q i) := by
  obtain ⟨rfl, -⟩ := own_soft h
  have key : ∀ (i : Nat) (a : VT × Value × Value), E[i]? = some a → ∀ (k : Nat) (u : Value), (vc a)[k]? = some u → w.cell? ⟨g, i * 5 + k, none⟩ = some u := by
    intro i a ha k u hu
    have hi := lt_of_some ha
    have hc : k < 5 := lt_of_some hu
    rw [h.cellAt (i * 5 + k) (by omega), flat_at vc 5 (fun _ => rfl) E i k a ha hc]
    exact hu
  refine ⟨fun i => ((E[i]?).map fun a => a.2.1).getD .nilIface, fun i => ((E[i]?).map fun a => a.2.2).getD .nilIface, fun i t ht => ?_⟩
  rw [List.getElem?_map] at ht
  obtain ⟨a, ha, rfl⟩ := Option.map_eq_some_iff.1 ht
  simp only [ha, Option.map_some, Option.getD_some]
  exact ⟨⟨key i a ha 0 _ rfl, key i a ha 1 _ rfl, key i a ha 2 _ rfl, key i a ha 3 _ rfl, key i a ha 4 _ rfl⟩, hE a (List.mem_of_getElem? ha)⟩
theorem own_far {w : World} {base : Nat} {ty : TypeId} {k n : Nat} {v : Value} {xs : List Value} (h : w.ownsRow base ty k v n xs) (b o : Nat) (u : Value) (hb : ∀ g, v.ownBlock = some g → ¬ g = b) : (w.setCell ⟨b, o, none⟩ u).ownsRow base ty k v n xs := by
  refine h.kept (set_grown w b o u) ?_
  cases hv : v.ownBlock with
  | none => exact Or.inl rfl
  | some g => exact Or.inr (fun e => by injection e with e; exact hb g hv e)
theorem own_far5 {w : World} {base : Nat} {ty : TypeId} {k n : Nat} {v : Value} {xs : List Value} (h : w.ownsRow base ty k v n xs) (b o : Nat) (v0 v1 v2 v3 v4 : Value) (hb : ∀ g, v.ownBlock = some g → ¬ g = b) : (put5 w b o v0 v1 v2 v3 v4).ownsRow base ty k v n xs := by
  unfold put5
  exact own_far (own_far (own_far (own_far (own_far h _ _ _ hb) _ _ _ hb) _ _ _ hb) _ _ _ hb) _ _ _ hb
theorem ls_nil (w : World) (S : Nat → Prop) : LS w S [] (.slice none 0 0) := ⟨⟨0, 0, none⟩, fun _ => .nilIface, fun _ => .nilIface, ⟨none, 0, rfl, Nat.le_refl _, Nat.zero_le _, fun h => absurd h (by simp)⟩, fun h => absurd h (by simp), fun i t h => by simp at h, fun i t h => by simp at h⟩
theorem ms_nil (w : World) (S : Nat → Prop) : MS w S [] [] (.slice none 0 0) := ⟨⟨0, 0, none⟩, fun _ => .nilIface, fun _ => .nilIface, ⟨none, 0, rfl, Nat.le_refl _, Nat.zero_le _, fun h => absurd h (by simp)⟩, rfl, fun h => absurd h (by simp), fun i t h => by simp at h, fun i t h => by simp at h, fun i t h => by simp at h⟩
/-- a copied row with one part more -/
theorem copied_add {W Wf : World} {lo g n : Nat} {v : Value} {L : List VT} {E : List (VT × Value × Value)} {U : VT} {xu yu : Value} {S : Nat → Prop} (hC : Copied W lo v L L.length E) (hown : Wf.ownsRow lo 31 5 (.slice (some ⟨g, 0, none⟩) (L.length + 1) n) (L.length + 1) (E.flatMap vc ++ vc (U, xu, yu)))
    (hfar : ∀ k, lo ≤ k ∧ k < W.heap.size ∧ ¬ v.ownBlock = some k → Wf.heap[k]? = W.heap[k]?) (hS : ∀ k, lo ≤ k ∧ k < W.heap.size ∧ ¬ v.ownBlock = some k → S k) (hg : S g) (hU : HS Wf S U xu yu) : LS Wf S (L ++ [U]) (.slice (some ⟨g, 0, none⟩) (L.length + 1) n) := by
  obtain ⟨h1, h2, h3, h4⟩ := hC
  rw [List.take_length] at h2
  have := own_ls (S := S) (E := E ++ [(U, xu, yu)]) (w := Wf) (v := .slice (some ⟨g, 0, none⟩) (L.length + 1) n) (base := lo) (ty := 31) (by rw [List.flatMap_append, List.length_append, h1]; simpa using hown) (fun e he => ?_) (fun g' hg' => by simp [Value.ownBlock] at hg'; subst hg'; exact hg)
  · rw [List.map_append, h2] at this; exact this
  · rcases List.mem_append.1 he with he | he
    · exact (h4 e he).onto hfar hS
    · rw [List.mem_singleton.1 he]; exact hU
/-- a copied row with another part at a place -/
theorem copied_put {W : World} {lo g n c i : Nat} {L : List VT} {E : List (VT × Value × Value)} {Z : VT} {xz yz : Value} (hC : Copied W lo (.slice (some ⟨g, 0, none⟩) n c) L L.length E) (hi : i < L.length) (hZ : HS W (fun k => lo ≤ k ∧ k < W.heap.size ∧ ¬ g = k) Z xz yz) :
    LS (put5 W g (i * 5) (.int .i64 Z.kd) (.int .i64 Z.nm) (.string Z.st) xz yz) (fun k => lo ≤ k ∧ k < W.heap.size) (L.set i Z) (.slice (some ⟨g, 0, none⟩) n c) := by
  obtain ⟨h1, h2, h3, h4⟩ := hC
  rw [List.take_length] at h2
  obtain ⟨e1, e2, e3, e4, hrow⟩ := own_soft h3
  have hgs := hrow.lt
  obtain ⟨f, q, hp⟩ := own_parts (by rw [h1]; exact h3) h4
  rw [h2] at hp
  have hfar : ∀ k, ¬ g = k → (put5 W g (i * 5) (.int .i64 Z.kd) (.int .i64 Z.nm) (.string Z.st) xz yz).heap[k]? = W.heap[k]? := fun k hk => put5_heap _ _ _ _ _ _ _ _ _ (fun e => hk e.symm)
  refine ⟨⟨g, 0, none⟩, fun j => if j = i then xz else f j, fun j => if j = i then yz else q j, ⟨_, c, by rw [List.length_set, e1], by rw [List.length_set]; exact e3, e4, fun _ => rfl⟩, fun _ => ⟨e2, hgs⟩, fun j t ht => ?_, fun j t ht => ?_⟩
  · rw [add_at]
    by_cases hj : j = i
    · subst hj
      rw [List.getElem?_set_self hi] at ht
      obtain rfl := Option.some.inj ht
      simp only [if_true]
      exact put5_node hrow _ (by omega) _ _ _
    · rw [List.getElem?_set_ne (fun e => hj e.symm)] at ht
      simp only [if_neg hj]
      exact node_at (hp j t ht).1 (fun k hk => put5_other _ _ _ _ _ _ _ _ _ (by rcases Nat.lt_or_ge j i with h | h <;> omega))
  · by_cases hj : j = i
    · subst hj
      rw [List.getElem?_set_self hi] at ht
      obtain rfl := Option.some.inj ht
      simp only [if_true]
      exact hZ.onto (fun k hk => hfar k hk.2.2) (fun k hk => ⟨hk.1, hk.2.1⟩)
    · rw [List.getElem?_set_ne (fun e => hj e.symm)] at ht
      simp only [if_neg hj]
      exact (hp j t ht).2.onto (fun k hk => hfar k (fun e => hk.2.2 (by rw [← e]; rfl))) (fun k hk => ⟨hk.1, hk.2.1⟩)
theorem setP_no {T : VT} {s : PStep} {r : List PStep} {x : VT} (h1 : idxT T s = none) (h2 : r = [] → putT T s x = none) : setP T (s :: r) x = none := by
  by_cases h : r = []
  · subst h; rw [setP_one]; exact h2 rfl
  · rw [setP_cons T s h, h1]
theorem setP_step {T t : VT} {s : PStep} {i : Nat} (r : List PStep) (x : VT) (h1 : idxT T s = some i) (h2 : kidT T s i = some t) : setP T (s :: r) x = (setP t r x).map (repT T s i) := by
  by_cases h : r = []
  · subst h
    rw [setP_one]
    unfold putT
    rw [h1]; rfl
  · rw [setP_cons T s h, h1]
    simp only [h2]
/-- Set at a path, whatever the tree -/
def Set5Ok (p : List PStep) : Prop := ∀ (T U : VT) (x y x' y' v : Value) (w : World), plainT T = true → szT T ≤ 100000 → szT U ≤ 1000000 → HV w T x y → HV w U x' y' → InP w p v → (∀ s ∈ p, Frm s) → p.length ≤ 1000000 →
    Calls Tryz.prog 29 #[vv T x y, v, vv U x' y'] w fun e w' => Set5 (setP T p U) w e w'
theorem Copied.on {w w' : World} {lo : Nat} {v : Value} {L : List VT} {j : Nat} {E : List (VT × Value × Value)} (h : Copied w lo v L j E) (hb : Below w.heap.size w w') : Copied w' lo v L j E := by
  have := hb.size
  exact ⟨h.1, h.2.1, ownsRow_below h.2.2.1 hb, fun e he => (h.2.2.2 e he).onto (fun k hk => hb.block k hk.2.1) (fun k hk => ⟨hk.1, by omega, hk.2.2⟩)⟩
theorem own_base5 {w : World} {base base' : Nat} {ty : TypeId} {k n : Nat} {v : Value} {xs : List Value} (h : w.ownsRow base ty k v n xs) (hb : base' ≤ base) : w.ownsRow base' ty k v n xs := by
  refine ⟨h.1, ?_⟩
  rcases h.2 with h1 | ⟨g, cap, cur, h1, h2, h3⟩
  · exact Or.inl h1
  · exact Or.inr ⟨g, cap, cur, h1, Nat.le_trans hb h2, h3⟩
theorem Copied.wide {w : World} {lo lo' : Nat} {v : Value} {L : List VT} {j : Nat} {E : List (VT × Value × Value)} (h : Copied w lo v L j E) (hl : lo' ≤ lo) : Copied w lo' v L j E :=
  ⟨h.1, h.2.1, own_base5 h.2.2.1 hl, fun e he => (h.2.2.2 e he).onto (fun _ _ => rfl) (fun k hk => ⟨by omega, hk.2⟩)⟩
theorem HS.on {w w' : World} {lo hi : Nat} {T : VT} {x y : Value} (h : HS w (fun k => lo ≤ k ∧ k < w.heap.size) T x y) (hb : Below w.heap.size w w') (hl : hi ≤ lo) : HS w' (fun k => hi ≤ k ∧ k < w'.heap.size) T x y := by
  have := hb.size
  exact h.onto (fun k hk => hb.block k hk.2) (fun k hk => ⟨by omega, by omega⟩)
/-- the step's box -/
structure Sb (wr : World) (b : Nat) (s : PStep) : Prop where
  c0 : wr.cell? ⟨b, 0, none⟩ = some (.string s.key)
  c1 : wr.cell? ⟨b, 1, none⟩ = some (.int .i64 s.at_)
  c2 : wr.cell? ⟨b, 2, none⟩ = some (.bool s.place)
theorem Sb.onto {wr wr' : World} {b : Nat} {s : PStep} (h : Sb wr b s) (hb : Below wr.heap.size wr wr') : Sb wr' b s := ⟨keepCell hb h.c0, keepCell hb h.c1, keepCell hb h.c2⟩
end Go.Proofs.YtjcejjejlekelaaGreatDoor
