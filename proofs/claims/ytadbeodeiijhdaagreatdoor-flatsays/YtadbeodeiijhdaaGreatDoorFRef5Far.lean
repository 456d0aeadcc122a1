
import Derived.Test.YtadbeodeiijhdaaGreatDoorFRef5P
/- The document's Get, what it finds seen from an elder world. -/
namespace Go.Proofs.YtadbeodeiijhdaaGreatDoor
open Go.RowKit

set_option maxRecDepth 100000 in
set_option maxHeartbeats 4000000 in
theorem get5_far (T : VT) (x y : Value) (p : List PStep) (v : Value) (W0 w : World) (hW : Below W0.heap.size W0 w) (hT : HV W0 T x y) (hp : InP w p v) (hf : ∀ s ∈ p, Frm s) (hl : p.length ≤ 1000000) :
    Calls Tryz.prog 42 #[vv T x y, v] w fun e w' => ∃ R X Y, e = .returned (.tuple #[vv R X Y, .bool (getP T p).isSome]) ∧ R = (getP T p).getD zeroT ∧ HV W0 R X Y ∧ Below w.heap.size w w' := by
  have HT := hid hT
  have HW := hid hW
  have HP := hid hp
  have HF := hid hf
  obtain ⟨a, ⟨op, cp, rfl, hp1, hp2, hp3⟩, hpc⟩ := hp
  have HPC := hid hpc
  unfold maxLen at hp2
  obtain ⟨o1, n1, c1, o2, n2, c2, rfl, rfl⟩ := hv_slices hT
  have h2 := hid (twob_new w T (.slice o1 n1 c1) (.slice o2 n2 c2))
  have hb2 := hid (valloc_bel (valloc_bel (Below.refl w.heap.size w) (.cells #[.int .i64 T.kd, .int .i64 T.nm, .string T.st, .slice o1 n1 c1, .slice o2 n2 c2] 26)) (.cells #[.int .i64 0, .int .i64 0, .string ⟨#[]⟩, .slice none 0 0, .slice none 0 0] 26))
  clear hT hf hpc hW
  simp only [vv]
  go_enter Tryz.func42, Tryz.ntmps42
  go_wp2_with fail
  go_loopw [6] (fun i wr => ∃ (j : Nat) (U : VT) (ox : Option Addr) (nx' cx : Nat) (oy : Option Addr) (ny cy : Nat), i = .int .i64 j ∧ j ≤ p.length ∧ Hid (getP T p = getP U (p.drop j)) ∧ Hid (HV W0 U (.slice ox nx' cx) (.slice oy ny cy)) ∧ Hid (Twob wr w.heap.size U (.slice ox nx' cx) (.slice oy ny cy)) ∧ Hid (Below w.heap.size w wr)) (fun i _ => p.length - (intOf i).toNat)
  case atStart => exact ⟨0, T, o1, n1, c1, o2, n2, c2, rfl, Nat.zero_le _, hid rfl, HT, h2, hb2⟩
  case round =>
    clear h2 hb2
    obtain ⟨j, U, ox, mx, cx, oy, my, cy, rfl, hj, HGE, HU, H2, HBW⟩ := hrel
    obtain ⟨n0, n1', n2', n3, n4⟩ := H2.out.node
    simp only [Nat.zero_add] at n0 n1' n2' n3 n4
    have sf := H2.out.soft.frozen
    obtain ⟨⟨q0, q1, q2, q3, q4⟩, qf⟩ := H2.out.zero
    by_cases hlt : j < p.length
    · obtain ⟨s, hs⟩ : ∃ s, p[j]? = some s := ⟨p[j], List.getElem?_eq_getElem hlt⟩
      obtain rfl := hp3 (by omega)
      obtain ⟨s0, s1, s2, s3⟩ := HPC.out j s hs
      have t0 := keepCell HBW.out s0; have t1 := keepCell HBW.out s1; have t2 := keepCell HBW.out s2
      have hfs := HF.out s (List.mem_of_getElem? hs)
      have HDR : Hid (p.drop j = s :: p.drop (j + 1)) := hid (by
        obtain ⟨h1, h2⟩ := List.getElem?_eq_some_iff.1 hs
        rw [List.drop_eq_getElem_cons h1, h2])
      clear hs
      obtain ⟨aL, bM, f, g, pp, qq, oL, oM, cL, cM, ex, ey, -, -, hoL, hoM, hK, -, hLc, hMc, cLn, -, -, rL, -, -, -⟩ := HU.out.parts
      injection ex with ex1 ex2 ex3
      subst ex1 ex2 ex3
      have CLN := hid (fun i t ht => (cLn i t ht).onto HW.out)
      have RL := hid rL
      have HKK := hid hK
      clear ey cLn rL hoM hMc hK s0 s1 s2
      obtain ⟨key, at_, pl⟩ := s
      simp only at t0 t1 t2 s3
      rcases hfs with ⟨hpl, hky, ha0, ha1⟩ | ⟨hpl, hat⟩
      · simp only at hpl hky ha0 ha1
        subst hpl hky
        obtain ⟨i, rfl⟩ : ∃ i : Nat, at_ = i := ⟨at_.toNat, by omega⟩
        have hal := valloc_bel (Below.refl wr.heap.size wr) (.cells #[.string ⟨#[]⟩, .int .i64 (i : Int), .bool true] 75)
        have H2a := hid (H2.out.onto hal)
        have HBA := hid (vonto HBW.out hal)
        obtain ⟨m0, m1, m2, m3, m4⟩ := H2a.out.node
        simp only [Nat.zero_add] at m0 m1 m2 m3 m4
        have sa := H2a.out.soft.frozen
        obtain ⟨⟨p0, p1, p2, p3, p4⟩, pf⟩ := H2a.out.zero
        clear n0 n1' n2' n3 n4 sf q0 q1 q2 q3 q4 qf hal
        by_cases h5 : U.kd = 5
        · by_cases hin : i < U.ls.length
          · obtain ⟨t, ht⟩ : ∃ t, U.ls[i]? = some t := ⟨U.ls[i], List.getElem?_eq_getElem hin⟩
            obtain rfl := hoL (by omega)
            obtain ⟨e0', e1', e2', e3', e4'⟩ := CLN.out i t ht
            have HVT := hid (RL.out i t ht)
            obtain ⟨y1, z1, d1, y2, z2, d2, hf1, hg1⟩ := hv_slices HVT.out
            rw [hf1] at e3' HVT
            rw [hg1] at e4' HVT
            have e0 := keepCell HBA.out e0'; have e1 := keepCell HBA.out e1'; have e2 := keepCell HBA.out e2'; have e3 := keepCell HBA.out e3'; have e4 := keepCell HBA.out e4'
            have HGN := hid (show getP T p = getP t (p.drop (j + 1)) by
              rw [HGE.out, HDR.out]
              have h1 : idxT U ⟨⟨#[]⟩, (i : Int), true⟩ = some i := by unfold idxT; rw [if_pos rfl, if_pos ⟨h5, by simp, by simpa using hin⟩]; simp
              have h2 : kidT U ⟨⟨#[]⟩, (i : Int), true⟩ i = some t := by unfold kidT; rw [if_pos rfl]; exact ht
              simp only [getP, h1, h2, Option.bind_some])
            have H2n := hid (twob_put (T := t) (x' := .slice y1 z1 d1) (y' := .slice y2 z2 d2) H2a.out)
            have HBN := hid (put5_bel (o := 0) (v0 := .int .i64 t.kd) (v1 := .int .i64 t.nm) (v2 := .string t.st) (v3 := .slice y1 z1 d1) (v4 := .slice y2 z2 d2) HBA.out (Nat.le_refl w.heap.size))
            rw [h5] at m0
            simp only [put5, Nat.zero_add] at H2n HBN
            clear HGE HDR HKK e0' e1' e2' e3' e4' hf1 hg1 ht
            go_wp2_with fail
            go_roundw
            case rel => exact ⟨j + 1, t, y1, z1, d1, y2, z2, d2, val_int (by omega), hlt, HGN, HVT, H2n, HBN⟩
            case measure => simp [intOf]; omega
          · have hin2 : U.ls.length ≤ i := by omega
            have hno : idxT U ⟨⟨#[]⟩, (i : Int), true⟩ = none := by unfold idxT; rw [if_pos rfl, if_neg (by simp; omega)]
            rw [h5] at m0
            have HNO := hid (show getP T p = none by
              rw [HGE.out, HDR.out]
              simp only [getP, hno]
              rfl)
            obtain ⟨r0, r1, r2, r3, r4⟩ := z5_put H2a.out.zero zeroT (.slice none 0 0) (.slice none 0 0)
            simp only [put5, Nat.zero_add, zeroT, VT.kd, VT.nm, VT.st] at r0 r1 r2 r3 r4
            clear HGE HDR
            go_wp2_with fail
            refine bodyPost_ret (v := .tuple #[vv zeroT (.slice none 0 0) (.slice none 0 0), .bool false]) (by simp [results, Tryz.results42, go_sem, vv, zeroT, VT.kd, VT.nm, VT.st, r0, r1, r2, r3, r4]) rfl ⟨zeroT, _, _, by rw [HNO.out]; rfl, by rw [HNO.out]; rfl, hv_zero W0, ?_⟩
            exact vset_bel (vset_bel (vset_bel (vset_bel (vset_bel HBA.out (Nat.le_succ _)) (Nat.le_succ _)) (Nat.le_succ _)) (Nat.le_succ _)) (Nat.le_succ _)
        · have hno : idxT U ⟨⟨#[]⟩, (i : Int), true⟩ = none := by unfold idxT; rw [if_pos rfl, if_neg (fun h => h5 h.1)]
          have h5b : (U.kd != 5) = true := by simpa using h5
          have HNO := hid (show getP T p = none by
            rw [HGE.out, HDR.out]
            simp only [getP, hno]
            rfl)
          obtain ⟨r0, r1, r2, r3, r4⟩ := z5_put H2a.out.zero zeroT (.slice none 0 0) (.slice none 0 0)
          simp only [put5, Nat.zero_add, zeroT, VT.kd, VT.nm, VT.st] at r0 r1 r2 r3 r4
          clear HGE HDR
          go_wp2_with fail
          refine bodyPost_ret (v := .tuple #[vv zeroT (.slice none 0 0) (.slice none 0 0), .bool false]) (by simp [results, Tryz.results42, go_sem, vv, zeroT, VT.kd, VT.nm, VT.st, r0, r1, r2, r3, r4]) rfl ⟨zeroT, _, _, by rw [HNO.out]; rfl, by rw [HNO.out]; rfl, hv_zero W0, ?_⟩
          exact vset_bel (vset_bel (vset_bel (vset_bel (vset_bel HBA.out (Nat.le_succ _)) (Nat.le_succ _)) (Nat.le_succ _)) (Nat.le_succ _)) (Nat.le_succ _)
      · simp only at hpl hat
        subst hpl hat
        have hal := valloc_bel (Below.refl wr.heap.size wr) (.cells #[.string key, .int .i64 0, .bool false] 75)
        have H2a := hid (H2.out.onto hal)
        have HBA := hid (vonto HBW.out hal)
        obtain ⟨m0, m1, m2, m3, m4⟩ := H2a.out.node
        simp only [Nat.zero_add] at m0 m1 m2 m3 m4
        have sa := H2a.out.soft.frozen
        obtain ⟨⟨p0, p1, p2, p3, p4⟩, pf⟩ := H2a.out.zero
        clear n0 n1' n2' n3 n4 sf q0 q1 q2 q3 q4 qf hal
        have hkg := key_get (s := ⟨key, 0, false⟩) HKK.out rfl
        have CG := hid (fun X (hX : Below w.heap.size w X) => get_at U _ _ key W0 X HU.out (vonto HW.out hX))
        simp only [vv] at CG
        go_wp2_with fail
        go_at_call 75
        refine (CG.out _ HBA.out).mono ?_
        rintro e wg ⟨R, X, Y, rfl, hR, hvR, hbg⟩
        obtain ⟨y1, z1, d1, y2, z2, d2, rfl, rfl⟩ := hv_slices hvR
        have HVR := hid hvR
        have hal2 := valloc_bel (Below.refl wg.heap.size wg) (.cells #[.int .i64 R.kd, .int .i64 R.nm, .string R.st, .slice y1 z1 d1, .slice y2 z2 d2] 26)
        have H2b := hid ((H2a.out.onto hbg).onto hal2)
        have HBG := hid (vonto (vonto HBA.out hbg) hal2)
        obtain ⟨g0, g1, g2, g3, g4⟩ := H2b.out.node
        simp only [Nat.zero_add] at g0 g1 g2 g3 g4
        have sb := H2b.out.soft.frozen
        obtain ⟨⟨z0, z1', z2', z3, z4⟩, zf⟩ := H2b.out.zero
        clear m0 m1 m2 m3 m4 sa p0 p1 p2 p3 p4 pf hbg hal2 hvR CG
        cases hgo : getO U key with
        | none =>
          have HNO := hid (show getP T p = none by
            rw [HGE.out, HDR.out]
            have h1 := hkg
            rw [hgo] at h1
            simp only [getP, h1])
          obtain ⟨r0, r1, r2, r3, r4⟩ := z5_put H2b.out.zero zeroT (.slice none 0 0) (.slice none 0 0)
          simp only [put5, Nat.zero_add, zeroT, VT.kd, VT.nm, VT.st] at r0 r1 r2 r3 r4
          clear HGE HDR hkg hR hgo
          simp only [Option.isSome_none]
          go_wp2_with fail
          refine bodyPost_ret (v := .tuple #[vv zeroT (.slice none 0 0) (.slice none 0 0), .bool false]) (by simp [results, Tryz.results42, go_sem, vv, zeroT, VT.kd, VT.nm, VT.st, r0, r1, r2, r3, r4]) rfl ⟨zeroT, _, _, by rw [HNO.out]; rfl, by rw [HNO.out]; rfl, hv_zero W0, ?_⟩
          exact vset_bel (vset_bel (vset_bel (vset_bel (vset_bel HBG.out (Nat.le_succ _)) (Nat.le_succ _)) (Nat.le_succ _)) (Nat.le_succ _)) (Nat.le_succ _)
        | some t =>
          have hRt : R = t := by rw [hR, hgo]; rfl
          subst hRt
          have HGN := hid (show getP T p = getP R (p.drop (j + 1)) by
            rw [HGE.out, HDR.out]
            have h1 := hkg
            rw [hgo] at h1
            simp only [getP, h1])
          have H2n := hid (twob_put (T := R) (x' := .slice y1 z1 d1) (y' := .slice y2 z2 d2) H2b.out)
          have HBN := hid (put5_bel (o := 0) (v0 := .int .i64 R.kd) (v1 := .int .i64 R.nm) (v2 := .string R.st) (v3 := .slice y1 z1 d1) (v4 := .slice y2 z2 d2) HBG.out (Nat.le_refl w.heap.size))
          simp only [put5, Nat.zero_add] at H2n HBN
          clear HGE HDR hkg hR hgo
          simp only [Option.isSome_some]
          go_wp2_with fail
          go_roundw
          case rel => exact ⟨j + 1, R, y1, z1, d1, y2, z2, d2, val_int (by omega), hlt, HGN, HVR, H2n, HBN⟩
          case measure => simp [intOf]; omega
    · have HE := hid (show getP T p = some U by rw [HGE.out, List.drop_eq_nil_of_le (by omega)]; rfl)
      clear HGE
      obtain ⟨r0, r1, r2, r3, r4⟩ := z5_put H2.out.zero U (.slice ox mx cx) (.slice oy my cy)
      simp only [put5, Nat.zero_add] at r0 r1 r2 r3 r4
      have hbf := vset_bel (vset_bel (vset_bel (vset_bel (vset_bel HBW.out (ad := ⟨w.heap.size + 1, 0, none⟩) (v := .int .i64 U.kd) (Nat.le_succ _)) (ad := ⟨w.heap.size + 1, 1, none⟩) (v := .int .i64 U.nm) (Nat.le_succ _)) (ad := ⟨w.heap.size + 1, 2, none⟩) (v := .string U.st) (Nat.le_succ _)) (ad := ⟨w.heap.size + 1, 3, none⟩) (v := .slice ox mx cx) (Nat.le_succ _)) (ad := ⟨w.heap.size + 1, 4, none⟩) (v := .slice oy my cy) (Nat.le_succ _)
      go_wp2_with fail
      exact bodyPost_ret (v := .tuple #[vv U (.slice ox mx cx) (.slice oy my cy), .bool true]) (by simp [results, Tryz.results42, go_sem, vv, r0, r1, r2, r3, r4]) rfl ⟨U, _, _, by rw [HE.out]; rfl, by rw [HE.out]; rfl, HU.out, hbf⟩
end Go.Proofs.YtadbeodeiijhdaaGreatDoor
namespace Go.Proofs.YtadbeodeiijhdaaGreatDoor
open Go.RowKit
end Go.Proofs.YtadbeodeiijhdaaGreatDoor
