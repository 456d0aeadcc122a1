import Derived.Test.YtjcejjejlekelaaGreatDoorPathTwo
import Derived.Deep.RegionHeld
import Derived.Test.YtjcejjejlekelaaGreatDoorPathTree
import Derived.Test.YtjcejjejlekelaaGreatDoorVSameT
/- path.index at a place, walked. -/
/- slices.IndexFunc at pairs; path.index; path.find, walked. -/
/- path.find, walked: over any way of going down. -/
/- path.Get, walked. -/
namespace Go.Proofs.YtjcejjejlekelaaGreatDoor
open Go.RowKit
set_option maxRecDepth 100000 in
set_option maxHeartbeats 1000000 in
theorem index_place (T : VT) (o1 o2 : Option Addr) (n1 c1 n2 c2 : Nat) (a : Addr) (s : PStep) (w : World) (hn : Node w a T (.slice o1 n1 c1) (.slice o2 n2 c2)) (hs : s.place = true) :
    Calls Tryz.prog 64 #[.pointer (some a), pv s] w fun e w' => e = .returned (.int .i64 (if T.kd = 5 ∧ 0 ≤ s.at_ ∧ s.at_ < n1 then s.at_ else -1)) ∧ Below w.heap.size w w' := by
  obtain ⟨d0, d1, d2, d3, d4⟩ := hn
  obtain ⟨key, at_, place⟩ := s
  subst hs
  simp only [pv]
  have HB := fun o => valloc_bel (Below.refl w.heap.size w) o
  replace d0 := keepCell (HB (.cells #[.string key, .int .i64 at_, .bool true] 36)) d0
  replace d3 := keepCell (HB (.cells #[.string key, .int .i64 at_, .bool true] 36)) d3
  clear d1 d2 d4
  by_cases hk : T.kd = 5
  · by_cases ha : 0 ≤ at_
    · by_cases hb : at_ < n1
      · rw [if_pos ⟨hk, ha, hb⟩]
        rw [hk] at d0
        go_enter Tryz.func64, Tryz.ntmps64
        go_wp2_with fail
        go_region
        go_wp2_with fail
        all_goals go_ret
        all_goals exact ⟨rfl, (HB _).drew⟩
      · rw [if_neg (fun h => hb h.2.2)]
        rw [hk] at d0
        go_enter Tryz.func64, Tryz.ntmps64
        go_wp2_with fail
        go_region
        go_wp2_with fail
        all_goals go_ret
        all_goals exact ⟨rfl, (HB _).drew⟩
    · rw [if_neg (fun h => ha h.2.1)]
      rw [hk] at d0
      obtain ⟨m, rfl⟩ : ∃ m, at_ = Int.negSucc m := by
        cases at_ with
        | ofNat m => exact absurd (Int.natCast_nonneg m) ha
        | negSucc m => exact ⟨m, rfl⟩
      go_enter Tryz.func64, Tryz.ntmps64
      go_wp2_with fail
      go_region
      go_wp2_with fail
      all_goals go_ret
      all_goals exact ⟨rfl, (HB _).drew⟩
  · rw [if_neg (fun h => hk h.1)]
    have hk' : (T.kd == 5) = false := by rw [beq_eq_false_iff_ne]; exact hk
    go_enter Tryz.func64, Tryz.ntmps64
    go_wp2_with fail
    go_region
    go_wp2_with fail
    all_goals go_ret
    all_goals exact ⟨rfl, (HB _).drew⟩
end Go.Proofs.YtjcejjejlekelaaGreatDoor
namespace Go.Proofs.YtjcejjejlekelaaGreatDoor
open Go.RowKit

theorem hv_inm {w : World} {T : VT} {x y : Value} (h : HV w T x y) : InM w T.ks T.vs y := by
  cases h with
  | mk a b f g p q hk hn hs hL hM hK cL cK cM rL rM => exact ⟨b, p, q, hM, hK, cK, cM, rM⟩
theorem inm_onto {w w' : World} {K : List ByteArray} {V : List VT} {y : Value} (h : InM w K V y) (hb : Below w.heap.size w w') : InM w' K V y := by
  obtain ⟨b, p, q, h1, h2, h3, h4, h5⟩ := h
  exact ⟨b, p, q, h1, h2, fun i u h => ⟨keepCell hb (h3 i u h).1, (h3 i u h).2⟩, fun i t h => (h4 i t h).onto hb, fun i t h => (h5 i t h).onto hb⟩
set_option maxRecDepth 100000 in
set_option maxHeartbeats 1000000 in
theorem idxf_any (G : Nat) (lb : Array Value) (eg : ∀ args w, (callFunc G args).run Tryz.prog w = .ok (.enter G args) w) (pr : ByteArray → Bool) (K : List ByteArray) (V : List VT) (y : Value) (w : World) (hM : InM w K V y)
    (hG : ∀ (W : World) (c : ByteArray) (t : VT) (o1 : Option Addr) (n1 c1 : Nat) (o2 : Option Addr) (n2 c2 : Nat), Below w.heap.size w W → Calls Tryz.prog G (#[.agg #[.string c, .int .i64 t.kd, .int .i64 t.nm, .string t.st, .slice o1 n1 c1, .slice o2 n2 c2]] ++ lb) W fun e w' => e = .returned (.bool (pr c)) ∧ Below W.heap.size W w') :
    Calls Tryz.prog 91 #[y, .func (.func G) #[] lb] w fun e w' => e = .returned (.int .i64 (oI (firstI pr K))) ∧ Below w.heap.size w w' := by
  obtain ⟨b, p, q, ⟨o, cap, rfl, h1, h2, h3⟩, hK, cK, cM, rM⟩ := hM
  unfold maxLen at h2
  have HG := hid hG
  have HA : Hid (∀ (j : Nat) (c : ByteArray), K[j]? = some c → pr c = true → (∀ (i : Nat) (d : ByteArray), i < j → K[i]? = some d → pr d = false) → firstI pr K = some j) := fun j c a b c' => firstI_at a b c'
  have HN : Hid ((∀ (i : Nat) (d : ByteArray), K[i]? = some d → pr d = false) → firstI pr K = none) := fun h => firstI_no h
  have CK := hid cK
  have CM := hid cM
  have RM := hid rM
  obtain ⟨R, hR⟩ : ∃ R, firstI pr K = R := ⟨_, rfl⟩
  rw [hR] at HA HN ⊢
  clear hR hG cK cM rM
  go_enter Tryz.func91, Tryz.ntmps91
  go_wp2_with fail
  go_loopw [8] (fun x wr => ∃ j : Nat, x = .int .i64 j ∧ j ≤ V.length ∧ Hid (∀ (i : Nat) (d : ByteArray), i < j → K[i]? = some d → pr d = false) ∧ Hid (Below w.heap.size w wr)) (fun x _ => V.length - (intOf x).toNat)
  case atStart => exact ⟨0, rfl, Nat.zero_le _, fun i d h => absurd h (Nat.not_lt_zero _), Below.refl _ _⟩
  case round =>
    obtain ⟨j, rfl, hj, HJ, HB⟩ := hrel
    by_cases hlt : j < V.length
    · obtain ⟨t, ht⟩ : ∃ t, V[j]? = some t := ⟨V[j], List.getElem?_eq_getElem hlt⟩
      obtain ⟨c, hc⟩ : ∃ c, K[j]? = some c := ⟨K[j], List.getElem?_eq_getElem (by omega)⟩
      obtain rfl := h3 (by omega)
      have hnode := (CM.out j t ht).onto HB.out
      simp only [Node, nx] at hnode
      obtain ⟨d0, d1, d2, d3, d4⟩ := hnode
      have k0 := keepCell HB.out (CK.out j c hc).1
      obtain ⟨o1, n1, c1, o2, n2, c2, hp, hq⟩ := hv_slices (RM.out j t ht)
      rw [hp] at d3
      rw [hq] at d4
      clear hp hq
      have HS := hid (HG.out wr c t o1 n1 c1 o2 n2 c2 HB.out)
      have HC := hid hc
      cases hpr : pr c with
      | true =>
        have HR := hid (HA.out j c hc hpr HJ.out)
        rw [hpr] at HS
        clear hpr hc ht
        go_wp2_with (go_at_fn G; go_must (refine HS.out.mono ?_; rintro e w1 ⟨rfl, hb1⟩))
        go_ret
        exact ⟨ret_int (by rw [HR.out]; rfl), vonto HB.out hb1⟩
      | false =>
        have HJ2 := hid (show ∀ (i : Nat) (d : ByteArray), i < j + 1 → K[i]? = some d → pr d = false from fun i d hi hd => by
          by_cases e : i = j
          · subst e; rw [hc] at hd; cases hd; exact hpr
          · exact HJ.out i d (by omega) hd)
        rw [hpr] at HS
        clear hpr hc ht
        go_wp2_with (go_at_fn G; go_must (refine HS.out.mono ?_; rintro e w1 ⟨rfl, hb1⟩))
        go_roundw
        case rel => exact ⟨j + 1, val_int (by omega), hlt, HJ2.out, vonto HB.out hb1⟩
        case measure => simp [intOf]; omega
    · have HR := hid (HN.out (fun i d hd => HJ.out i d (by have := lt_of_some hd; omega) hd))
      go_wp2_with fail
      go_ret
      exact ⟨ret_int (by rw [HR.out]; rfl), HB.out⟩
set_option maxRecDepth 100000 in
set_option maxHeartbeats 1000000 in
theorem index1_any (key : ByteArray) (B : Nat) (W : World) (hB : W.cell? ⟨B, 0, none⟩ = some (.string key)) (c : ByteArray) (t : VT) (o1 : Option Addr) (n1 c1 : Nat) (o2 : Option Addr) (n2 c2 : Nat) :
    Calls Tryz.prog 92 #[.agg #[.string c, .int .i64 t.kd, .int .i64 t.nm, .string t.st, .slice o1 n1 c1, .slice o2 n2 c2], .pointer (some ⟨B, 0, none⟩)] W fun e w' => e = .returned (.bool (keyIs key c)) ∧ Below W.heap.size W w' := by
  have k0 := keepCell (valloc_bel (Below.refl W.heap.size W) (.cells #[.string c, .int .i64 t.kd, .int .i64 t.nm, .string t.st, .slice o1 n1 c1, .slice o2 n2 c2] 69)) hB
  clear hB
  by_cases he : c.data.toList = key.data.toList
  · have te := txt_is c key he
    have HE := hid (show keyIs key c = true from decide_eq_true he)
    clear he
    go_enter Tryz.func92, Tryz.ntmps92
    go_wp2_with fail
    go_ret
    exact ⟨ret_bool (by rw [HE.out]), valloc_bel (Below.refl _ _) _⟩
  · have te := txt_no c key he
    have HE := hid (show keyIs key c = false from decide_eq_false he)
    clear he
    go_enter Tryz.func92, Tryz.ntmps92
    go_wp2_with fail
    go_ret
    exact ⟨ret_bool (by rw [HE.out]), valloc_bel (Below.refl _ _) _⟩
set_option maxRecDepth 100000 in
set_option maxHeartbeats 1000000 in
theorem index_any (T : VT) (x y : Value) (a : Addr) (s : PStep) (w : World) (hn : Node w a T x y) (hv : HV w T x y) :
    Calls Tryz.prog 64 #[.pointer (some a), pv s] w fun e w' => e = .returned (.int .i64 (oI (idxT T s))) ∧ Below w.heap.size w w' := by
  have hinm := hv_inm hv
  obtain ⟨al, bl, f, g, p, q, oL, oM, cL, cM, rfl, rfl, hl1, hl2, hL3, hM3, hK, hs, hc1, hc2, kL, kK, kM, rL, rM, -, -⟩ := hv.parts
  cases hpl : s.place with
  | true =>
    have := index_place T oL oM _ cL _ cM a s w hn hpl
    have e : (if T.kd = 5 ∧ 0 ≤ s.at_ ∧ s.at_ < (T.ls.length : Nat) then s.at_ else -1) = oI (idxT T s) := by
      unfold idxT
      rw [if_pos hpl]
      split
      · next h => simp only [oI]; omega
      · rfl
    rw [e] at this
    exact this
  | false =>
    obtain ⟨d0, d1, d2, d3, d4⟩ := hn
    obtain ⟨key, at_, place⟩ := s
    simp only at hpl
    subst hpl
    simp only [pv]
    have HB := fun o => valloc_bel (Below.refl w.heap.size w) o
    replace d0 := keepCell (HB (.cells #[.string key, .int .i64 at_, .bool false] 36)) d0
    replace d4 := keepCell (HB (.cells #[.string key, .int .i64 at_, .bool false] 36)) d4
    clear d1 d2 d3
    by_cases hk : T.kd = 6
    · have HE := hid (show idxT T ⟨key, at_, false⟩ = firstI (keyIs key) T.ks by unfold idxT; simp only [Bool.false_eq_true, if_false]; rw [if_pos hk])
      rw [hk] at d0
      have hIn := inm_onto hinm (HB (.cells #[.string key, .int .i64 at_, .bool false] 36))
      have kk : (w.alloc (.cells #[.string key, .int .i64 at_, .bool false] 36)).cell? ⟨w.heap.size, 0, none⟩ = some (.string key) := by simp
      have C := hid (idxf_any 92 #[.pointer (some ⟨w.heap.size, 0, none⟩)] (enters_of Tryz.func92 (by kernel_rfl) rfl) (keyIs key) T.ks T.vs _ _ hIn (fun W c t o1 n1 c1 o2 n2 c2 hW => index1_any key w.heap.size W (keepCell hW kk) c t o1 n1 c1 o2 n2 c2))
      clear hIn kk
      go_enter Tryz.func64, Tryz.ntmps64
      go_wp2_with fail
      go_at_call 91
      refine C.out.mono ?_
      rintro e w1 ⟨rfl, hb1⟩
      go_wp2_with fail
      go_ret
      exact ⟨ret_int (by rw [HE.out]), vonto (HB _) hb1⟩
    · have HE := hid (show idxT T ⟨key, at_, false⟩ = none by unfold idxT; simp only [Bool.false_eq_true, if_false]; rw [if_neg hk])
      have hk' : (T.kd != 6) = true := by rw [bne_iff_ne]; exact hk
      go_enter Tryz.func64, Tryz.ntmps64
      go_wp2_with fail
      go_ret
      exact ⟨ret_int (by rw [HE.out]; rfl), HB _⟩
end Go.Proofs.YtjcejjejlekelaaGreatDoor
namespace Go.Proofs.YtjcejjejlekelaaGreatDoor
open Go.RowKit

/-- what holds of each node that one comes by -/
structure Desc (w : World) (Q : List PStep → Addr → VT → Value → Value → Prop) : Prop where
  node : ∀ p a T x y, Q p a T x y → Node w a T x y ∧ HV w T x y
  stepL : ∀ p a T x y s i t, Q p a T x y → s.place = true → idxT T s = some i → kidT T s i = some t → ∃ al n c x' y', x = .slice (some al) n c ∧ i < n ∧ n ≤ 1000000000000 ∧ Q (p ++ [s]) (al.add (i * 5)) t x' y'
  stepM : ∀ p a T x y s i t, Q p a T x y → s.place = false → idxT T s = some i → kidT T s i = some t → ∃ bl n c x' y', y = .slice (some bl) n c ∧ i < n ∧ n ≤ 1000000000000 ∧ Q (p ++ [s]) (nx (bl.add (i * 6))) t x' y'
theorem idx_kid {T : VT} {s : PStep} {i : Nat} (hK : T.ks.length = T.vs.length) (h : idxT T s = some i) : ∃ t, kidT T s i = some t := by
  unfold idxT at h
  unfold kidT
  cases hp : s.place with
  | true =>
    rw [if_pos hp] at h
    split at h
    · next hc =>
      injection h with h
      simp only [if_true]
      exact ⟨T.ls[i]'(by omega), List.getElem?_eq_getElem (by omega)⟩
    · cases h
  | false =>
    rw [if_neg (by rw [hp]; decide)] at h
    split at h
    · obtain ⟨h1, -⟩ := firstI_lt h
      simp only [Bool.false_eq_true, if_false]
      exact ⟨T.vs[i]'(by omega), List.getElem?_eq_getElem (by omega)⟩
    · cases h
theorem hv_ks {w : World} {T : VT} {x y : Value} (h : HV w T x y) : T.ks.length = T.vs.length := by
  cases h with
  | mk a b f g p q hk hn hs hL hM hK cL cK cM rL rM => exact hK
set_option maxRecDepth 100000 in
set_option maxHeartbeats 2000000 in
theorem find_of (Q : List PStep → Addr → VT → Value → Value → Prop) (w : World) (hQ : Desc w Q) (A : Addr) (T : VT) (x y : Value) (h0 : Q [] A T x y) (ps : List PStep) (v : Value) (hp : InP w ps v) :
    Calls Tryz.prog 37 #[.pointer (some A), v] w fun e w' => ((getP T ps = none ∧ e = .returned (.pointer none)) ∨ ∃ a U x' y', Q ps a U x' y' ∧ getP T ps = some U ∧ e = .returned (.pointer (some a))) ∧ Below w.heap.size w w' := by
  obtain ⟨pa, ⟨o, cap, rfl, g1, g2, g3⟩, gc⟩ := hp
  unfold maxLen at g2
  have GC := hid gc
  have HQ := hid hQ
  clear gc hQ
  have HP : Hid (∀ j s, ps[j]? = some s → getP T (ps.take (j + 1)) = (getP T (ps.take j)).bind fun t => (idxT t s).bind (kidT t s)) := fun j s h => getP_take T h
  go_enter Tryz.func37, Tryz.ntmps37
  go_wp2_with fail
  go_loopw [0, 10] (fun u i wr => ∃ (j : Nat) (a : Addr) (U : VT) (x' y' : Value), u = .pointer (some a) ∧ i = .int .i64 j ∧ j ≤ ps.length ∧ Hid (Q (ps.take j) a U x' y') ∧ Hid (getP T (ps.take j) = some U) ∧ Hid (Below w.heap.size w wr)) (fun _ i _ => ps.length - (intOf i).toNat)
  case atStart => exact ⟨0, A, T, x, y, rfl, rfl, Nat.zero_le _, h0, rfl, Below.refl _ _⟩
  case round =>
    obtain ⟨j, a, U, x', y', rfl, rfl, hj, HU, HGP, HB⟩ := hrel
    by_cases hlt : j < ps.length
    · obtain ⟨s, hs⟩ : ∃ s, ps[j]? = some s := ⟨ps[j], List.getElem?_eq_getElem hlt⟩
      obtain rfl := g3 (by omega)
      obtain ⟨c0, c1, c2, -⟩ := GC.out j s hs
      replace c0 := keepCell HB.out c0
      replace c1 := keepCell HB.out c1
      replace c2 := keepCell HB.out c2
      obtain ⟨hn, hv⟩ := HQ.out.node _ _ _ _ _ HU.out
      have HV' := hid hv
      have HN' := hid hn
      have hks := hv_ks hv
      have hnext := HP.out j s hs
      rw [HGP.out] at hnext
      simp only [Option.bind_some] at hnext
      have htk : ps.take (j + 1) = ps.take j ++ [s] := by
        obtain ⟨q1, q2⟩ := List.getElem?_eq_some_iff.1 hs
        rw [List.take_succ_eq_append_getElem q1, q2]
      have C := hid (fun (X : World) (hX : Below wr.heap.size wr X) => index_any U x' y' a s X ((hn.onto HB.out).onto hX) ((hv.onto HB.out).onto hX))
      cases hix : idxT U s with
      | none =>
        rw [hix] at C hnext
        simp only [Option.bind_none] at hnext
        have HN2 := hid (show getP T ps = none by
          have := getP_none (p := ps.take (j + 1)) (q := ps.drop (j + 1)) hnext
          rwa [List.take_append_drop] at this)
        clear hnext htk hix hn hv hs
        obtain ⟨key, at_, pl⟩ := s
        simp only [pv] at C
        simp only at c0 c1 c2
        go_wp2_with fail
        go_at_call 64
        refine (C.out _ (valloc_bel (Below.refl _ _) _)).mono ?_
        rintro e w1 ⟨rfl, hb1⟩
        have HB1 := hid (vonto (valloc_bel HB.out _) hb1)
        simp only [oI]
        clear hb1
        go_wp2_with fail
        go_ret
        exact ⟨.inl ⟨HN2.out, rfl⟩, HB1.out⟩
      | some i =>
        obtain ⟨t, hkt⟩ := idx_kid hks hix
        rw [hix] at C hnext
        simp only [Option.bind_some, hkt] at hnext
        have HN2 := hid hnext
        cases hpl : s.place with
        | true =>
          obtain ⟨al, n, c, x2, y2, rfl, hin, hnb, hq2⟩ := HQ.out.stepL _ _ _ _ _ s i t HU.out hpl hix hkt
          rw [← htk] at hq2
          have HQ2 := hid hq2
          obtain ⟨-, -, -, d3, -⟩ := hn.onto HB.out
          clear hnext htk hix hn hv hs hq2 hkt
          obtain ⟨key, at_, pl⟩ := s
          simp only at hpl
          subst hpl
          simp only [pv] at C
          simp only at c0 c1 c2
          go_wp2_with fail
          go_at_call 64
          refine (C.out _ (valloc_bel (Below.refl _ _) _)).mono ?_
          rintro e w1 ⟨rfl, hb1⟩
          have HB1 := hid (vonto (valloc_bel HB.out _) hb1)
          have f3 := keepCell (vonto (valloc_bel (Below.refl _ wr) _) hb1) d3
          have b2 : w1.cell? ⟨wr.heap.size, 2, none⟩ = some (.bool true) := keepCell hb1 (by simp)
          simp only [oI]
          clear hb1 d3
          go_wp2_with fail
          go_roundw
          case rel => exact ⟨j + 1, _, t, x2, y2, rfl, val_int (by omega), hlt, HQ2.out, HN2.out, HB1.out⟩
          case measure => simp [intOf]; omega
        | false =>
          obtain ⟨bl, n, c, x2, y2, rfl, hin, hnb, hq2⟩ := HQ.out.stepM _ _ _ _ _ s i t HU.out hpl hix hkt
          rw [← htk] at hq2
          have HQ2 := hid hq2
          obtain ⟨-, -, -, -, d4⟩ := hn.onto HB.out
          clear hnext htk hix hn hv hs hq2 hkt
          obtain ⟨key, at_, pl⟩ := s
          simp only at hpl
          subst hpl
          simp only [pv] at C
          simp only at c0 c1 c2
          go_wp2_with fail
          go_at_call 64
          refine (C.out _ (valloc_bel (Below.refl _ _) _)).mono ?_
          rintro e w1 ⟨rfl, hb1⟩
          have HB1 := hid (vonto (valloc_bel HB.out _) hb1)
          have f4 := keepCell (vonto (valloc_bel (Below.refl _ wr) _) hb1) d4
          have b2 : w1.cell? ⟨wr.heap.size, 2, none⟩ = some (.bool false) := keepCell hb1 (by simp)
          simp only [oI]
          clear hb1 d4
          go_wp2_with fail
          go_roundw
          case rel => exact ⟨j + 1, _, t, x2, y2, rfl, val_int (by omega), hlt, HQ2.out, HN2.out, HB1.out⟩
          case measure => simp [intOf]; omega
    · have htk : ps.take j = ps := List.take_of_length_le (by omega)
      rw [htk] at HU HGP
      clear htk
      go_wp2_with fail
      go_ret
      exact ⟨.inr ⟨a, U, x', y', HU.out, HGP.out, rfl⟩, HB.out⟩
end Go.Proofs.YtjcejjejlekelaaGreatDoor
namespace Go.Proofs.YtjcejjejlekelaaGreatDoor
open Go.RowKit

theorem szL_len : ∀ (L : List VT), L.length ≤ szL L
  | [] => Nat.le_refl _
  | t :: r => by have := szL_len r; have := szT_pos t; simp only [szL, List.length_cons]; omega
theorem szT_len (T : VT) : T.ls.length ≤ szT T ∧ T.vs.length ≤ szT T := by
  cases T with
  | mk k n s L K V =>
    have h1 := szL_len L
    have h2 := szL_len V
    simp only [szT, VT.ls, VT.vs]; omega
theorem kid_small {T t : VT} {s : PStep} {i : Nat} (h : kidT T s i = some t) : szT t < szT T := by
  unfold kidT at h
  split at h
  · exact szT_ls T i t h
  · exact szT_vs T i t h
/-- a node and what hangs below it, to be read -/
def QV (w : World) (_ : List PStep) (a : Addr) (T : VT) (x y : Value) : Prop := Node w a T x y ∧ HV w T x y ∧ szT T ≤ 1000000
theorem QV.desc (w : World) : Desc w (QV w) where
  node := fun p a T x y h => ⟨h.1, h.2.1⟩
  stepL := fun p a T x y s i t h hp hi hk => by
    obtain ⟨hn, hv, hm⟩ := h
    have hsz := kid_small hk
    have hl := szT_len T
    obtain ⟨al, bl, f, g, p', q, oL, oM, cL, cM, rfl, rfl, -, -, hL3, -, -, -, -, -, kL, -, -, rL, -⟩ := hv.parts
    have hkt : T.ls[i]? = some t := by unfold kidT at hk; rw [if_pos hp] at hk; exact hk
    have hlt := lt_of_some hkt
    obtain rfl := hL3 (by omega)
    exact ⟨al, _, _, f i, g i, rfl, hlt, by omega, kL i t hkt, rL i t hkt, by omega⟩
  stepM := fun p a T x y s i t h hp hi hk => by
    obtain ⟨hn, hv, hm⟩ := h
    have hsz := kid_small hk
    have hl := szT_len T
    obtain ⟨al, bl, f, g, p', q, oL, oM, cL, cM, rfl, rfl, -, -, -, hM3, -, -, -, -, -, -, kM, -, rM, -⟩ := hv.parts
    have hkt : T.vs[i]? = some t := by unfold kidT at hk; rw [if_neg (by rw [hp]; decide)] at hk; exact hk
    have hlt := lt_of_some hkt
    obtain rfl := hM3 (by omega)
    exact ⟨bl, _, _, p' i, q i, rfl, hlt, by omega, kM i t hkt, rM i t hkt, by omega⟩
set_option maxRecDepth 100000 in
set_option maxHeartbeats 1000000 in
theorem pget_any (T : VT) (x y : Value) (ps : List PStep) (v : Value) (w : World) (hT : HV w T x y) (hm : szT T ≤ 1000000) (hp : InP w ps v) :
    Calls Tryz.prog 12 #[vv T x y, v] w fun e w' => ∃ R X Y, e = .returned (.tuple #[vv R X Y, .bool (getP T ps).isSome]) ∧ R = (getP T ps).getD zeroT ∧ HF w' w.heap.size w'.heap.size R X Y ∧ Below w.heap.size w w' := by
  have HC : Hid (∀ t : VT, szT t ≤ 1000000 → CopyOk t) := fun t h => vcopy_any (szT t) t (Nat.le_refl _) h
  obtain ⟨o1, n1, c1, o2, n2, c2, rfl, rfl⟩ := hv_slices hT
  have hV : ∀ c, HV ((w.alloc (.cells #[.int .i64 T.kd, .int .i64 T.nm, .string T.st, .slice o1 n1 c1, .slice o2 n2 c2] 31)).alloc (.cells c 31)) T (.slice o1 n1 c1) (.slice o2 n2 c2) := fun c => hT.onto (valloc_bel (valloc_bel (Below.refl _ _) _) _)
  have hN : ∀ c, Node ((w.alloc (.cells #[.int .i64 T.kd, .int .i64 T.nm, .string T.st, .slice o1 n1 c1, .slice o2 n2 c2] 31)).alloc (.cells c 31)) ⟨w.heap.size, 0, none⟩ T (.slice o1 n1 c1) (.slice o2 n2 c2) := fun c => (bx_new hT 31).1.onto (valloc_bel (Below.refl _ _) _)
  have CF := hid (fun c => find_of _ _ (QV.desc _) ⟨w.heap.size, 0, none⟩ T _ _ ⟨hN c, hV c, hm⟩ ps v (hp.onto (valloc_bel (valloc_bel (Below.refl _ _) _) _)))
  clear hN hV
  have hzl := Row.new (w.alloc (.cells #[.int .i64 T.kd, .int .i64 T.nm, .string T.st, .slice o1 n1 c1, .slice o2 n2 c2] 31)) #[.int .i64 0, .int .i64 0, .string ⟨#[]⟩, .slice none 0 0, .slice none 0 0] 31
  have HZ := hid hzl
  clear hzl
  simp only [vv]
  go_enter Tryz.func12, Tryz.ntmps12
  go_wp2_with fail
  go_at_call 37
  refine (CF.out _).mono ?_
  rintro e w1 ⟨hc, hb1⟩
  have R0 := hid (HZ.out.onto (hb1.block _ (by simp)))
  rw [World.size_alloc] at R0
  have HB1 := hid (vonto (valloc_bel (valloc_bel (Below.refl _ w) _) _) hb1)
  have hs1 : w.heap.size + 1 < w1.heap.size := by have := hb1.size; simp at this; omega
  rcases hc with ⟨hg, rfl⟩ | ⟨a, U, x', y', hq, hg, rfl⟩
  · obtain ⟨u0, e0⟩ := R0.out.cell (o := 0) (by decide)
    obtain ⟨u1, e1⟩ := R0.out.cell (o := 1) (by decide)
    obtain ⟨u2, e2⟩ := R0.out.cell (o := 2) (by decide)
    obtain ⟨u3, e3⟩ := R0.out.cell (o := 3) (by decide)
    obtain ⟨u4, e4⟩ := R0.out.cell (o := 4) (by decide)
    have z0 := R0.out.frozen
    have HG := hid hg
    clear hb1 hg
    go_wp2_with fail
    refine bodyPost_ret (v := .tuple #[vv zeroT (.slice none 0 0) (.slice none 0 0), .bool false]) (by simp [results, Tryz.results12, go_sem, vv, zeroT, VT.kd, VT.nm, VT.st, e0, e1, e2, e3, e4]) rfl ⟨zeroT, .slice none 0 0, .slice none 0 0, ?_, ?_, hf_zero _ _ _ (by simp; omega), ?_⟩
    · rw [HG.out]; rfl
    · rw [HG.out]; rfl
    · exact vset_bel (vset_bel (vset_bel (vset_bel (vset_bel HB1.out (by simp)) (by simp)) (by simp)) (by simp)) (by simp)
  · obtain ⟨hn, hv, hmm⟩ := hq
    obtain ⟨p1, m1, k1, p2, m2, k2, rfl, rfl⟩ := hv_slices hv
    obtain ⟨d0, d1, d2, d3, d4⟩ := hn.onto hb1
    have HCP := hid (HC.out U hmm _ _ w1 (hv.onto hb1))
    have HG := hid hg
    simp only [vv] at HCP
    clear hb1 hg hn hv
    go_wp2_with fail
    go_at_call 38
    refine HCP.out.mono ?_
    rintro e w2 ⟨X, Y, rfl, hf2, hb2⟩
    obtain ⟨p1', m1', k1', p2', m2', k2', rfl, rfl⟩ := hv_slices hf2.hv
    have R2 := hid (R0.out.onto (hb2.block _ hs1))
    have HF2 := hid hf2
    have HB2 := hid (vonto HB1.out hb2)
    have hs2 := hb2.size
    clear hf2 hb2
    obtain ⟨u0, e0⟩ := R2.out.cell (o := 0) (by decide)
    obtain ⟨u1, e1⟩ := R2.out.cell (o := 1) (by decide)
    obtain ⟨u2, e2⟩ := R2.out.cell (o := 2) (by decide)
    obtain ⟨u3, e3⟩ := R2.out.cell (o := 3) (by decide)
    obtain ⟨u4, e4⟩ := R2.out.cell (o := 4) (by decide)
    have z0 := R2.out.frozen
    go_wp2_with fail
    refine bodyPost_ret (v := .tuple #[vv U (.slice p1' m1' k1') (.slice p2' m2' k2'), .bool true]) (by simp [results, Tryz.results12, go_sem, vv, e0, e1, e2, e3, e4]) rfl ⟨U, .slice p1' m1' k1', .slice p2' m2' k2', ?_, ?_, ?_, ?_⟩
    · rw [HG.out]; rfl
    · rw [HG.out]; rfl
    · change HF (put5 w2 (w.heap.size + 1) 0 (.int .i64 U.kd) (.int .i64 U.nm) (.string U.st) (.slice p1' m1' k1') (.slice p2' m2' k2')) w.heap.size (put5 w2 (w.heap.size + 1) 0 (.int .i64 U.kd) (.int .i64 U.nm) (.string U.st) (.slice p1' m1' k1') (.slice p2' m2' k2')).heap.size _ _ _
      rw [put5_size]
      exact (HF2.out.onto (fun k g1 g2 => put5_heap _ _ _ _ _ _ _ _ _ (by omega))).wide (by omega) (Nat.le_refl _)
    · exact vset_bel (vset_bel (vset_bel (vset_bel (vset_bel HB2.out (by simp)) (by simp)) (by simp)) (by simp)) (by simp)
end Go.Proofs.YtjcejjejlekelaaGreatDoor
