/- The document's own reckoning of trees, walked: may a tree be? -/
import Derived.Test.YtadbeodeiijhdaaGreatDoorKRefVal6
import Derived.Test.YtadbeodeiijhdaaGreatDoorKRefVal2
import Derived.Test.YtadbeodeiijhdaaGreatDoorKVHold
import Derived.Test.YtadbeodeiijhdaaGreatDoorKMathFh
import Derived.Test.YtadbeodeiijhdaaGreatDoorKVBase
import Derived.Deep.LoopGhost
import Derived.Test.YtadbeodeiijhdaaGreatDoorKUnJ
/- value.Size and value.Deep, walked. -/
namespace Go.Proofs.YtadbeodeiijhdaaGreatDoor
open Go.RowKit

end Go.Proofs.YtadbeodeiijhdaaGreatDoor
/- FlatOrder, walked. -/
namespace Go.Proofs.YtadbeodeiijhdaaGreatDoor
open Go.RowKit

/-- a list being laid the other way round: its box, its parts -/
structure RvS (w wr : World) (v : Value) (E : List (VT × Value × Value)) : Prop where
  bel : Below w.heap.size w wr
  own : wr.ownsRow (w.heap.size + 1) 26 5 v E.length (E.flatMap vc)
  box : wr.heap[w.heap.size]? = some (.cells #[.int .i64 5, .int .i64 0, .string ⟨#[]⟩, v, .slice none 0 0] 26 (0, 0))
theorem RvS.cells {w wr : World} {v : Value} {E : List (VT × Value × Value)} (h : RvS w wr v E) : Cs wr w.heap.size [.int .i64 5, .int .i64 0, .string ⟨#[]⟩, v, .slice none 0 0] := fun i u hu => by
  rw [cell_of_row wr w.heap.size i _ _ _ h.box]
  simpa using hu
theorem RvS.more {w wr w9 : World} {v v' : Value} {E : List (VT × Value × Value)} (h : RvS w wr v E) (a : VT × Value × Value) (ho : w9.ownsRow (w.heap.size + 1) 26 5 v' (E.length + 1) (E.flatMap vc ++ vc a)) (hg : wr.grownBy w9 v.ownBlock) :
    RvS w (w9.setCell ⟨w.heap.size, 3, none⟩ v') v' (E ++ [a]) := by
  have hs := h.bel.size
  have hlt : w.heap.size < wr.heap.size := (Array.getElem?_eq_some_iff.1 h.box).1
  have hne : some w.heap.size ≠ v.ownBlock := fun e => by have := (h.own.lt _ e.symm).1; omega
  have hbx := (hg.block _ hlt hne).trans h.box
  refine ⟨vset_bel (h.bel.grown hg hs (fun q hq => by have := (h.own.lt q hq).1; omega)) (Nat.le_refl _), ?_, ?_⟩
  · have := ownsRow_setCell_below ho (a := ⟨w.heap.size, 3, none⟩) (by show w.heap.size < w.heap.size + 1; omega) v'
    rw [List.length_append, List.flatMap_append]
    simpa using this
  · rw [lbox_set hbx]; rfl
/-- the tree that such a list is -/
theorem RvS.hv {w wr : World} {v : Value} {E : List (VT × Value × Value)} (h : RvS w wr v E) (hE : ∀ e ∈ E, HV wr e.1 e.2.1 e.2.2) : HV wr (.mk 5 0 ⟨#[]⟩ (E.map (·.1)) [] []) v (.slice none 0 0) := by
  have hc := h.own
  rcases hc with ⟨-, ⟨rfl, h0⟩ | ⟨g, cap, cur, rfl, -, -, hn, hcm, -, -⟩⟩
  · have : E = [] := List.eq_nil_of_length_eq_zero h0
    subst this
    exact hv_leaf wr 5 0 _ (by decide) (by decide) (by decide)
  have key : ∀ (i : Nat) (e : VT × Value × Value), E[i]? = some e → ∀ (c : Nat) (u : Value), (vc e)[c]? = some u → wr.cell? ⟨g, i * 5 + c, none⟩ = some u := by
    intro i e he c u hu
    have hi := lt_of_some he
    have hc : c < 5 := lt_of_some hu
    rw [h.own.cellAt (i * 5 + c) (by omega), flat_at vc 5 (fun _ => rfl) E i c e he hc]
    exact hu
  refine hv_in (by decide) (by decide) (by decide) ⟨⟨g, 0, none⟩, fun i => ((E[i]?).map (·.2.1)).getD (.slice none 0 0), fun i => ((E[i]?).map (·.2.2)).getD (.slice none 0 0), ⟨_, cap, by rw [List.length_map], by simpa using hn, hcm, fun _ => rfl⟩, fun i t ht => ?_, fun i t ht => ?_⟩ (mf_nil wr 0 0).inM
  · rw [List.getElem?_map] at ht
    obtain ⟨e, he, rfl⟩ := Option.map_eq_some_iff.1 ht
    rw [add_at]
    simp only [he, Option.map_some, Option.getD_some]
    exact ⟨key i e he 0 _ rfl, key i e he 1 _ rfl, key i e he 2 _ rfl, key i e he 3 _ rfl, key i e he 4 _ rfl⟩
  · rw [List.getElem?_map] at ht
    obtain ⟨e, he, rfl⟩ := Option.map_eq_some_iff.1 ht
    simp only [he, Option.map_some, Option.getD_some]
    exact hE e (List.mem_of_getElem? he)
end Go.Proofs.YtadbeodeiijhdaaGreatDoor
namespace Go.Proofs.YtadbeodeiijhdaaGreatDoor
open Go.RowKit

set_option maxRecDepth 100000 in
set_option maxHeartbeats 1000000 in
theorem vsize_any : ∀ (N : Nat) (T : VT) (x y : Value) (w : World), szT T ≤ N → HV w T x y → szT T ≤ 1000000 →
    Calls Tryz.prog 48 #[vv T x y] w fun e w' => e = .returned (.int .i64 (szT T)) ∧ Below w.heap.size w w' := by
  intro N
  induction N with
  | zero => intro T x y w h; have := szT_pos T; omega
  | succ N ih =>
  intro T x y w hN hT hm
  cases hT with
  | mk a b f g p q hk hn hs hL hM hK cL cK cM rL rM =>
  rename_i k n s L K V
  simp only [vv, VT.kd, VT.nm, VT.st]
  obtain ⟨oL, capL, rfl, hL1, hL2, hL3⟩ := hL
  obtain ⟨oM, capM, rfl, hM1, hM2, hM3⟩ := hM
  unfold maxLen at hL2 hM2
  have hsz : szT (.mk k n s L K V) = 1 + szL L + szL V := by simp only [szT]
  rw [hsz] at hN hm ⊢
  go_enter Tryz.func48, Tryz.ntmps48
  go_wp2_with fail
  go_loopw [3, 11] (fun u i wr => ∃ j : Nat, j ≤ L.length ∧ u = .int .i64 (1 + (szL (L.take j) : Int)) ∧ i = .int .i64 j ∧ Below (w.heap.size + 1) (w.alloc (.cells #[.int .i64 k, .int .i64 n, .string s, .slice oL L.length capL, .slice oM V.length capM] 26)) wr) (fun _ i _ => L.length - (intOf i).toNat)
  case atStart => exact ⟨0, Nat.zero_le _, rfl, rfl, Below.refl _ _⟩
  case round =>
    obtain ⟨j, hj, rfl, rfl, hbel⟩ := hrel
    have hbw : Below w.heap.size w wr := ((Below.refl _ _).alloc (Nat.le_refl _) _).trans (hbel.mono (by omega))
    have hB4 := box_cell w wr _ _ _ _ _ _ hbel 4 _ rfl
    have hsl := szL_take_le L j
    by_cases hlt : j < L.length
    · obtain ⟨t, ht⟩ : ∃ t, L[j]? = some t := ⟨L[j], List.getElem?_eq_getElem hlt⟩
      obtain rfl := hL3 (by omega)
      obtain ⟨d0, d1, d2, d3, d4⟩ := (cL j t ht).onto hbw
      obtain ⟨o1, n1, c1, o2, n2, c2, hp, hq⟩ := hv_slices (rL j t ht)
      have HR := hid ((rL j t ht).onto hbw)
      rw [hp, hq] at HR
      rw [hp] at d3
      rw [hq] at d4
      have hszs := szL_take_succ L j t ht
      have hsl1 := szL_take_le L (j + 1)
      have HSTEP := hid (fun (X : World) (hX : Below wr.heap.size wr X) => call_above hX (ih t _ _ X (by omega) (HR.out.onto hX) (by omega)))
      simp only [vv] at HSTEP
      have htz : (szT t : Int) ≤ 1000000 := by omega
      clear hp hq
      go_wp2_with (go_at_call 48; go_must (refine (HSTEP.out _ ?_).mono ?_; (repeat (first | exact Below.refl _ _ | apply valloc_bel | (refine vset_bel ?_ (by simp)))); rintro e w1 ⟨rfl, hb1⟩))
      go_roundw
      case rel => exact ⟨j + 1, hlt, val_int (by rw [hszs]; omega), val_int (by omega), hbel.trans (hb1.mono (by have := hbel.size; simp at this; omega))⟩
      case measure => simp [intOf]; omega
    · have hjL : j = L.length := by omega
      subst hjL
      rw [List.take_length]
      go_wp2_with fail
      clear hB4 hsl
      go_loopw [3, 23] (fun u i wr => ∃ j : Nat, j ≤ V.length ∧ u = .int .i64 (1 + (szL L : Int) + (szL (V.take j) : Int)) ∧ i = .int .i64 j ∧ Below (w.heap.size + 1) (w.alloc (.cells #[.int .i64 k, .int .i64 n, .string s, .slice oL L.length capL, .slice oM V.length capM] 26)) wr) (fun _ i _ => V.length - (intOf i).toNat)
      case atStart => exact ⟨0, Nat.zero_le _, val_int (by simp [szL]), rfl, hbel⟩
      case round =>
        clear hbw hbel hj hlt
        obtain ⟨j, hj, rfl, rfl, hbel⟩ := hrel
        have hbw : Below w.heap.size w wr := ((Below.refl _ _).alloc (Nat.le_refl _) _).trans (hbel.mono (by omega))
        have hsl := szL_take_le V j
        by_cases hlt : j < V.length
        · obtain ⟨t, ht⟩ : ∃ t, V[j]? = some t := ⟨V[j], List.getElem?_eq_getElem hlt⟩
          obtain ⟨c, hc⟩ : ∃ c, K[j]? = some c := ⟨K[j], List.getElem?_eq_getElem (by omega)⟩
          obtain rfl := hM3 (by omega)
          have hnode := (cM j t ht).onto hbw
          simp only [Node, nx] at hnode
          obtain ⟨d0, d1, d2, d3, d4⟩ := hnode
          have e0 := keepCell hbw (cK j c hc).1
          obtain ⟨o1, n1, c1, o2, n2, c2, hp, hq⟩ := hv_slices (rM j t ht)
          have HR := hid ((rM j t ht).onto hbw)
          rw [hp, hq] at HR
          rw [hp] at d3
          rw [hq] at d4
          have hszs := szL_take_succ V j t ht
          have hsl1 := szL_take_le V (j + 1)
          have HSTEP := hid (fun (X : World) (hX : Below wr.heap.size wr X) => call_above hX (ih t _ _ X (by omega) (HR.out.onto hX) (by omega)))
          simp only [vv] at HSTEP
          have htz : (szT t : Int) ≤ 1000000 := by omega
          clear hp hq
          go_wp2_with (go_at_call 48; go_must (refine (HSTEP.out _ ?_).mono ?_; (repeat (first | exact Below.refl _ _ | apply valloc_bel | (refine vset_bel ?_ (by simp)))); rintro e w1 ⟨rfl, hb1⟩))
          go_roundw
          case rel => exact ⟨j + 1, hlt, val_int (by rw [hszs]; omega), val_int (by omega), hbel.trans (hb1.mono (by have := hbel.size; simp at this; omega))⟩
          case measure => simp [intOf]; omega
        · have hjV : j = V.length := by omega
          subst hjV
          rw [List.take_length]
          go_wp2_with fail
          go_ret
          exact ⟨ret_int (by omega), hbw⟩
end Go.Proofs.YtadbeodeiijhdaaGreatDoor
/- unflat's Unflat, walked. -/
namespace Go.Proofs.YtadbeodeiijhdaaGreatDoor
open Go.RowKit Go.Maps

inductive UP (K : List ByteArray) (Rs : List (List ByteArray)) : Int → Nat → Nat → VT → Prop
  | col (k : Int) (i : Nat) (C : List (List PStep)) (h : CP K k i C) (hk : k ≠ 0) : UP K Rs k 0 i zeroT
  | row (C : List (List PStep)) (i : Nat) (R : List ByteArray) (h : CP K 0 0 C) (h1 : Rs[i]? = some R) (h2 : R.length ≠ K.length) (h3 : ∀ (k : Nat) (R' : List ByteArray), k < i → Rs[k]? = some R' → R'.length = K.length) : UP K Rs 7 (i + 1) 0 zeroT
  | none (C : List (List PStep)) (h : CP K 0 0 C) (h1 : Rs = []) : UP K Rs 1 0 0 zeroT
  | bad (C : List (List PStep)) (i : Nat) (R : List ByteArray) (k : Int) (c : Nat) (T : VT) (h : CP K 0 0 C) (hl : ∀ R ∈ Rs, R.length = K.length) (h1 : Rs[i]? = some R) (h2 : MP C R k c T) (hk : k ≠ 0) (h3 : ∀ (j : Nat) (R' : List ByteArray), j < i → Rs[j]? = some R' → ∃ T, MP C R' 0 0 T) : UP K Rs k (i + 1) c zeroT
  | great (C : List (List PStep)) (Ts : List VT) (h : CP K 0 0 C) (hl : ∀ R ∈ Rs, R.length = K.length) (hn : Rs ≠ []) (ht : Ts.length = Rs.length) (h1 : ∀ (i : Nat) (R : List ByteArray), Rs[i]? = some R → ∃ T, Ts[i]? = some T ∧ MP C R 0 0 T) (h2 : mayB 0 1 (.mk 5 0 ⟨#[]⟩ Ts [] []) = false) : UP K Rs 2 0 0 zeroT
  | ok (C : List (List PStep)) (Ts : List VT) (h : CP K 0 0 C) (hl : ∀ R ∈ Rs, R.length = K.length) (hn : Rs ≠ []) (ht : Ts.length = Rs.length) (h1 : ∀ (i : Nat) (R : List ByteArray), Rs[i]? = some R → ∃ T, Ts[i]? = some T ∧ MP C R 0 0 T) (h2 : mayB 0 1 (.mk 5 0 ⟨#[]⟩ Ts [] []) = true) : UP K Rs 0 0 0 (.mk 5 0 ⟨#[]⟩ Ts [] [])
def UnP (K : List ByteArray) (Rs : List (List ByteArray)) (w : World) (e : Ending) (w' : World) : Prop := ∃ T x y k r c, e = .returned (.tuple #[vv T x y, .int .i64 k, .int .i64 ((r : Nat) : Int), .int .i64 ((c : Nat) : Int)]) ∧ UP K Rs k r c T ∧ HV w' T x y ∧ Below w.heap.size w w'
theorem szL_snoc : ∀ (L : List VT) (t : VT), szL (L ++ [t]) = szL L + szT t
  | [], t => by simp [szL]
  | a :: L, t => by rw [List.cons_append]; simp only [szL]; rw [szL_snoc L t]; omega
theorem MP.small {C : List (List PStep)} {R : List ByteArray} {T : VT} (h : MP C R 0 0 T) : szT T ≤ 4096 ∧ mayB 0 1 T = true := by
  generalize hk : (0 : Int) = k at h
  generalize hc : (0 : Nat) = c at h
  cases h with
  | bad i h1 h2 => exact absurd hk.symm h2
  | none _ _ => cases hk
  | fault k i T c h1 h2 h3 h4 h5 => exact absurd hk.symm h4
  | nomap T _ _ _ _ => cases hk
  | ok T h1 h2 h3 h4 =>
    generalize hk2 : (0 : Int) = k2 at h3
    cases h3 with
    | none h => exact absurd h h2
    | bad i h1 h2 => exact absurd hk2.symm h2
    | gap i _ _ _ _ => cases hk2
    | great _ _ _ _ => cases hk2
    | ok _ _ _ _ _ h5 =>
      have := (good_sz h5).1
      exact ⟨by omega, h5⟩
theorem MP.zero {C : List (List PStep)} {R : List ByteArray} {i : Nat} {T : VT} (h : MP C R 0 i T) : i = 0 := by
  generalize hk : (0 : Int) = k at h
  cases h with
  | bad i h1 h2 => exact absurd hk.symm h2
  | none _ _ => cases hk
  | fault k i T c h1 h2 h3 h4 h5 => exact absurd hk.symm h4
  | nomap T _ _ _ _ => cases hk
  | ok T h1 h2 h3 h4 => rfl
theorem one1_any (n : Nat) (R : List ByteArray) (u : Value) (W : World) (hR : InS W R u) (b : Nat) (o : Option Addr) (cn : Nat) (hb : W.cell? ⟨b, 0, none⟩ = some (.slice o n cn)) :
    Calls Tryz.prog 46 #[u, .pointer (some ⟨b, 0, none⟩)] W fun e w' => e = .returned (.bool (decide (R.length ≠ n))) ∧ Below W.heap.size W w' := by
  obtain ⟨a, ⟨o1, c1, rfl, h1, h2, -⟩, -⟩ := hR
  unfold maxLen at h2
  by_cases h : R.length = n
  · have ht : ((R.length : Int) != (n : Int)) = false := by simp [h]
    have hd : decide (R.length ≠ n) = false := by simpa using h
    rw [hd]
    have HH := hid h
    clear h hd
    go_enter Tryz.func46, Tryz.ntmps46
    go_wp2_with fail
    go_ret
    exact ⟨rfl, Below.refl _ _⟩
  · have ht : ((R.length : Int) != (n : Int)) = true := bne_iff_ne.2 (by omega)
    have hd : decide (R.length ≠ n) = true := by simpa using h
    rw [hd]
    have HH := hid h
    clear h hd
    go_enter Tryz.func46, Tryz.ntmps46
    go_wp2_with fail
    go_ret
    exact ⟨rfl, Below.refl _ _⟩
/-- the first row that has not so many cells -/
def OddP (n : Nat) (Rs : List (List ByteArray)) (w : World) (e : Ending) (w' : World) : Prop := Below w.heap.size w w' ∧ ((∃ (i : Nat) (R : List ByteArray), Rs[i]? = some R ∧ R.length ≠ n ∧ (∀ (k : Nat) (R' : List ByteArray), k < i → Rs[k]? = some R' → R'.length = n) ∧ e = .returned (.int .i64 (i : Int))) ∨ ((∀ R ∈ Rs, R.length = n) ∧ e = .returned (.int .i64 (-1))))
set_option maxRecDepth 100000 in
set_option maxHeartbeats 2000000 in
theorem uidx_any (G : Nat) (lb : Array Value) (eg : ∀ args w, (callFunc G args).run Tryz.prog w = .ok (.enter G args) w) (n : Nat) (Rs : List (List ByteArray)) (v : Value) (w : World) (hR : InRs w Rs v)
    (hG : ∀ (W : World) (R : List ByteArray) (u : Value), InS W R u → Below w.heap.size w W → Calls Tryz.prog G (#[u] ++ lb) W fun e w' => e = .returned (.bool (decide (R.length ≠ n))) ∧ Below W.heap.size W w') :
    Calls Tryz.prog 45 #[v, .func (.func G) #[] lb] w (OddP n Rs w) := by
  obtain ⟨a, ⟨ov, cap, rfl, h1, h2, h3⟩, hk⟩ := hR
  unfold maxLen at h2
  have HK := hid hk
  have H3 := hid h3
  have HGG := hid hG
  obtain ⟨m, hm⟩ : ∃ m, Rs.length = m := ⟨_, rfl⟩
  rw [hm] at h1 h3 ⊢
  have HM := hid hm
  clear hk hG h3 hm
  go_enter Tryz.func45, Tryz.ntmps45
  go_wp2_with fail
  go_loopw [8] (fun x wr => ∃ j : Nat, x = .int .i64 j ∧ j ≤ m ∧ Hid (∀ (k : Nat) (R' : List ByteArray), k < j → Rs[k]? = some R' → R'.length = n) ∧ Hid (Below w.heap.size w wr)) (fun x _ => m - (intOf x).toNat)
  case atStart => exact ⟨0, rfl, Nat.zero_le _, hid (fun k R h => absurd h (Nat.not_lt_zero k)), hid (Below.refl _ _)⟩
  case round =>
    obtain ⟨j, rfl, hj, HJ, HB⟩ := hrel
    by_cases hlt : j < m
    · obtain ⟨R, hR⟩ : ∃ R, Rs[j]? = some R := ⟨Rs[j]'(by rw [HM.out]; exact hlt), List.getElem?_eq_getElem _⟩
      obtain rfl := H3.out (by rw [HM.out]; omega)
      obtain ⟨u, hu, hin⟩ := HK.out j R hR
      have k0 := keepCell HB.out hu
      have HSN := hid (HGG.out wr R u (hin.onto HB.out) HB.out)
      obtain ⟨au, ⟨ou, cu, rfl, -⟩, -⟩ := hin
      have HRR := hid hR
      clear hR hu
      by_cases hne : R.length = n
      · rw [show decide (R.length ≠ n) = false by simpa using hne] at HSN
        have HJ2 := hid (show ∀ (k : Nat) (R' : List ByteArray), k < j + 1 → Rs[k]? = some R' → R'.length = n from fun k R' hk hR' => by
          by_cases e : k = j
          · subst e; rw [HRR.out] at hR'; cases hR'; exact hne
          · exact HJ.out k R' (by omega) hR')
        have HNE := hid hne
        clear hne
        go_wp2_with (go_at_fn G; go_must (refine HSN.out.mono ?_; rintro e w1 ⟨rfl, hb1⟩))
        go_roundw
        case rel => exact ⟨j + 1, val_int (by omega), hlt, HJ2, hid (vonto HB.out hb1)⟩
        case measure => simp [intOf]; omega
      · rw [show decide (R.length ≠ n) = true by simpa using hne] at HSN
        have HNE := hid hne
        clear hne
        go_wp2_with (go_at_fn G; go_must (refine HSN.out.mono ?_; rintro e w1 ⟨rfl, hb1⟩))
        go_ret
        exact ⟨vonto HB.out hb1, .inl ⟨j, R, HRR.out, HNE.out, HJ.out, rfl⟩⟩
    · have HALL := hid (show ∀ R ∈ Rs, R.length = n from fun R hR => by
        obtain ⟨i, hi⟩ := List.getElem?_of_mem hR
        exact HJ.out i R (by have := lt_of_some hi; have := HM.out; omega) hi)
      go_wp2_with fail
      go_ret
      exact ⟨HB.out, .inr ⟨HALL.out, rfl⟩⟩
theorem catV (base : Nat) (X : World) (v : Value) (E : List (VT × Value × Value)) (n : Nat) (hn : E.length = n) (hown : X.ownsRow base 26 5 v n (E.flatMap vc)) (nb : Nat) (a : VT × Value × Value) (h1 : a.2.1.oneCell' = true) (h2 : a.2.2.oneCell' = true) (hc : ∀ (i : Nat) (u : Value), (vc a)[i]? = some u → X.cell? ⟨nb, i, none⟩ = some u) (hb : base ≤ X.heap.size) (hl : n ≤ 100000) :
    ∃ g cap Y, (Builtin.append_ #[23, 23] 23 #[v, .slice (some ⟨nb, 0, none⟩) 1 1]).run Tryz.prog X = .ok (.slice (some ⟨g, 0, none⟩) (n + 1) cap) Y ∧ Y.ownsRow base 26 5 (.slice (some ⟨g, 0, none⟩) (n + 1) cap) (n + 1) (E.flatMap vc ++ vc a) ∧ X.grownBy Y v.ownBlock ∧ (v.ownBlock = some g ∨ g = X.heap.size) := by
  obtain ⟨i1, hi', hz0', hz1', hz2'⟩ := info_parts Tryz.infoVal
  obtain ⟨g, cp, Y, hr, h2, h3, h4, h5⟩ := run_append_lies (P := Tryz.prog) X 23 23 base 26 i1 (.agg #[.int .i64 0, .int .i64 0, .string ⟨#[]⟩, .slice none 0 0, .slice none 0 0]) 5 80 Tryz.underlying23 hi' hz0' hz1' hz2' rfl (by decide) v n _ hown ⟨nb, 0, none⟩ 1 1 (vc a) rfl (fun j u hj => by
    rw [add_at]; exact hc j u hj) (fun u hu => by
    simp only [vc, List.mem_cons, List.not_mem_nil, or_false] at hu
    rcases hu with rfl | rfl | rfl | rfl | rfl
    · rfl
    · rfl
    · rfl
    · exact h1
    · exact h2) (by decide) (by unfold maxLen; omega) (by omega) hb X.heap.size rfl
  exact ⟨g, cp, Y, hr, h2, h3, h4⟩
end Go.Proofs.YtadbeodeiijhdaaGreatDoor
