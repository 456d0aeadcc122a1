/- tlex.readInt at each base, readNum, basedDigits: walked. -/
import Derived.Test.YtiaepihdfbahaaaGreatDoorATlH
namespace Go.Proofs.YtiaepihdfbahaaaGreatDoor
open Go.RowKit

theorem trint16 (s : ByteArray) (w : World) (hs : s.size ≤ 1000000) (hg : GlobT w) (hd : dgs 16 s.data.toList = true) :
    Calls Tryz.prog 99 #[.string s, .int .i64 16] w fun e w' => e = .returned (.tuple #[vv (intR (psV 16 (clnS s.data.toList))) nilS nilS, .int .i64 (intE (psV 16 (clnS s.data.toList)))]) ∧ Below w.heap.size w w' :=
  trint_of s 16 _ w hs hg.m fun X h => by
    have h1 := cln_le s.data.toList
    rw [size_list] at h1
    have hd2 := hd
    unfold dgs at hd2
    rw [Bool.and_eq_true, decide_eq_true_eq, decide_eq_true_eq] at hd2
    have := tpint16 (mkS (clnS s.data.toList)) X (hg.g.on h) (by rw [mkS_size]; exact cln_ne hd) (by rw [mkS_size]; omega) (by rw [mkS_list]; exact dgs_cln hd2.2)
    rw [mkS_list] at this; exact this
theorem trint8 (s : ByteArray) (w : World) (hs : s.size ≤ 1000000) (hg : GlobT w) (hd : dgs 8 s.data.toList = true) :
    Calls Tryz.prog 99 #[.string s, .int .i64 8] w fun e w' => e = .returned (.tuple #[vv (intR (psV 8 (clnS s.data.toList))) nilS nilS, .int .i64 (intE (psV 8 (clnS s.data.toList)))]) ∧ Below w.heap.size w w' :=
  trint_of s 8 _ w hs hg.m fun X h => by
    have h1 := cln_le s.data.toList
    rw [size_list] at h1
    have hd2 := hd
    unfold dgs at hd2
    rw [Bool.and_eq_true, decide_eq_true_eq, decide_eq_true_eq] at hd2
    have := tpint8 (mkS (clnS s.data.toList)) X (hg.g.on h) (by rw [mkS_size]; exact cln_ne hd) (by rw [mkS_size]; omega) (by rw [mkS_list]; exact dgs_cln hd2.2)
    rw [mkS_list] at this; exact this
theorem trint2 (s : ByteArray) (w : World) (hs : s.size ≤ 1000000) (hg : GlobT w) (hd : dgs 2 s.data.toList = true) :
    Calls Tryz.prog 99 #[.string s, .int .i64 2] w fun e w' => e = .returned (.tuple #[vv (intR (psV 2 (clnS s.data.toList))) nilS nilS, .int .i64 (intE (psV 2 (clnS s.data.toList)))]) ∧ Below w.heap.size w w' :=
  trint_of s 2 _ w hs hg.m fun X h => by
    have h1 := cln_le s.data.toList
    rw [size_list] at h1
    have hd2 := hd
    unfold dgs at hd2
    rw [Bool.and_eq_true, decide_eq_true_eq, decide_eq_true_eq] at hd2
    have := tpint2 (mkS (clnS s.data.toList)) X (hg.g.on h) (by rw [mkS_size]; exact cln_ne hd) (by rw [mkS_size]; omega) (by rw [mkS_list]; exact dgs_cln hd2.2)
    rw [mkS_list] at this; exact this
theorem wp_gen {P : Program} {c : Code} {Q : Exit → Act → World → Prop} {a : Act} {w : World} (h : ∀ W, W = w → Code.wp P c Q a W) : Code.wp P c Q a w := h w rfl
theorem trimplus_any (s : ByteArray) (w : World) :
    Calls Tryz.prog 132 #[.string s, .string ⟨#[43]⟩] w fun e w' => e = .returned (.string (mkS (noP s.data.toList))) ∧ w' = w := by
  have := Tryz.strings_TrimPrefix s ⟨#[43]⟩ w
  rw [show (⟨#[43]⟩ : ByteArray).data.toList = [43] from rfl, tp1] at this
  exact this
/-- a num read, or none -/
def nuR (l : List UInt8) : VT := if numB (noP (clnS l)) then numR (mkS (noP (clnS l))) else zeroT
def nuE (l : List UInt8) : Int := if numB (noP (clnS l)) then 0 else 6
set_option maxRecDepth 100000 in
set_option maxHeartbeats 2000000 in
theorem trnum_any (s : ByteArray) (w : World) (hs : s.size ≤ 1000000) (hg : GlobT w) :
    Calls Tryz.prog 101 #[.string s] w fun e w' => e = .returned (.tuple #[vv (nuR s.data.toList) nilS nilS, .int .i64 (nuE s.data.toList)]) ∧ Below w.heap.size w w' := by
  have CJ := hid (fun X (h : Below w.heap.size w X) => tjoints_any s X hs (hg.m.on h))
  have CT := hid (fun X => trimplus_any (mkS (clnS s.data.toList)) X)
  rw [mkS_list] at CT
  have hnl : (mkS (noP (clnS s.data.toList))).size ≤ maxLen := by
    rw [mkS_size]
    have h1 := cln_le s.data.toList
    rw [size_list] at h1
    have h2 : (noP (clnS s.data.toList)).length ≤ (clnS s.data.toList).length := by
      unfold noP; split
      · rw [List.length_drop]; omega
      · omega
    exact max_le (by omega)
  have CN := hid (fun X (h : Below w.heap.size w X) => vnum_any (mkS (noP (clnS s.data.toList))) X (hg.g.on h) hnl)
  have HR : Hid (nuR s.data.toList = (if numB (noP (clnS s.data.toList)) then numR (mkS (noP (clnS s.data.toList))) else zeroT) ∧ nuE s.data.toList = (if numB (noP (clnS s.data.toList)) then 0 else 6)) := ⟨rfl, rfl⟩
  have HE : Hid (numE (mkS (noP (clnS s.data.toList))) = if numB (noP (clnS s.data.toList)) then 0 else 1) := by
    show _ = _
    unfold numE; rw [mkS_list]
  generalize nuR s.data.toList = R at *
  generalize nuE s.data.toList = E at *
  generalize numR (mkS (noP (clnS s.data.toList))) = T at *
  generalize numE (mkS (noP (clnS s.data.toList))) = z at *
  generalize numB (noP (clnS s.data.toList)) = b at *
  generalize mkS (noP (clnS s.data.toList)) = y at *
  generalize mkS (clnS s.data.toList) = x at *
  clear hnl hg
  simp only [vv] at CN
  obtain ⟨tk, htk⟩ : ∃ k, T.kd = k := ⟨_, rfl⟩
  obtain ⟨tn, htn⟩ : ∃ k, T.nm = k := ⟨_, rfl⟩
  obtain ⟨ts, hts⟩ : ∃ k, T.st = k := ⟨_, rfl⟩
  rw [htk, htn, hts] at CN
  have HT := hid (show vv T nilS nilS = .agg #[.int .i64 tk, .int .i64 tn, .string ts, nilS, nilS] by unfold vv; rw [htk, htn, hts])
  clear htk htn hts
  cases b with
  | true =>
    rw [if_pos rfl] at HE
    simp only [if_true] at HR
    rw [HE.out] at CN
    go_enter Tryz.func101, Tryz.ntmps101
    go_wp2_with fail
    go_at_call 128
    refine (CJ.out _ (valloc_bel (Below.refl _ _) _)).mono ?_
    rintro e w1 ⟨rfl, hb1⟩
    have R1 := hid (box_row hb1)
    have HB1 := hid (vonto (valloc_bel (Below.refl w.heap.size w) _) hb1)
    clear hb1
    go_wp2_with (go_at_call 132; go_must (refine (CT.out _).mono ?_; rintro e w2 ⟨rfl, hw⟩; obtain rfl := hw.symm))
    go_at_call 131
    refine (CN.out _ HB1.out).mono ?_
    rintro e w3 ⟨rfl, hb3⟩
    have R3 := hid (R1.out.onto (hb3.block _ R1.out.lt))
    have HB3 := hid (vonto HB1.out hb3)
    clear hb3 R1 HB1
    go_upto_region 2 with fail
    refine wp_gen ?_
    intro W hW
    have R0 : Hid (Row W w.heap.size 27 5) := by rw [hW]; exact R3.out.onto (((Below.refl w3.heap.size w3).alloc (Nat.le_refl _) _).block _ R3.out.lt)
    have HBW : Hid (Below w.heap.size w W) := by rw [hW]; exact valloc_bel HB3.out _
    have hk := new_cells w3 [.int .i64 tk, .int .i64 tn, .string ts, .slice none 0 0, .slice none 0 0] 27
    have b0 : W.cell? ⟨w3.heap.size, 0, none⟩ = some (.int .i64 tk) := by rw [hW]; exact (addz _ 0) ▸ hk 0 _ rfl
    have b1 : W.cell? ⟨w3.heap.size, 1, none⟩ = some (.int .i64 tn) := by rw [hW]; exact (addz _ 1) ▸ hk 1 _ rfl
    have b2 : W.cell? ⟨w3.heap.size, 2, none⟩ = some (.string ts) := by rw [hW]; exact (addz _ 2) ▸ hk 2 _ rfl
    have b3 : W.cell? ⟨w3.heap.size, 3, none⟩ = some nilS := by rw [hW]; exact (addz _ 3) ▸ hk 3 _ rfl
    have b4 : W.cell? ⟨w3.heap.size, 4, none⟩ = some nilS := by rw [hW]; exact (addz _ 4) ▸ hk 4 _ rfl
    clear hW hk R3 HB3
    obtain ⟨u0, e0⟩ := R0.out.cell (o := 0) (by decide)
    obtain ⟨u1, e1⟩ := R0.out.cell (o := 1) (by decide)
    obtain ⟨u2, e2⟩ := R0.out.cell (o := 2) (by decide)
    obtain ⟨u3, e3⟩ := R0.out.cell (o := 3) (by decide)
    obtain ⟨u4, e4⟩ := R0.out.cell (o := 4) (by decide)
    have z0 := R0.out.frozen
    go_wp2_with fail
    refine bodyPost_ret (v := .tuple #[.agg #[.int .i64 tk, .int .i64 tn, .string ts, nilS, nilS], .int .i64 0]) (by simp [results, Tryz.results101, go_sem, e0, e1, e2, e3, e4]) rfl ⟨by rw [HR.out.1, HR.out.2, HT.out], ?_⟩
    repeat (first | exact HBW.out | (refine vset_bel ?_ (by simp)))
  | false =>
    rw [if_neg (by decide)] at HE
    simp only [Bool.false_eq_true, if_false] at HR
    rw [HE.out] at CN
    go_enter Tryz.func101, Tryz.ntmps101
    go_wp2_with fail
    go_at_call 128
    refine (CJ.out _ (valloc_bel (Below.refl _ _) _)).mono ?_
    rintro e w1 ⟨rfl, hb1⟩
    have R1 := hid (box_row hb1)
    have HB1 := hid (vonto (valloc_bel (Below.refl w.heap.size w) _) hb1)
    clear hb1
    go_wp2_with (go_at_call 132; go_must (refine (CT.out _).mono ?_; rintro e w2 ⟨rfl, hw⟩; obtain rfl := hw.symm))
    go_at_call 131
    refine (CN.out _ HB1.out).mono ?_
    rintro e w3 ⟨rfl, hb3⟩
    have R3 := hid (R1.out.onto (hb3.block _ R1.out.lt))
    have HB3 := hid (vonto HB1.out hb3)
    clear hb3 R1 HB1
    go_upto_region 2 with fail
    refine wp_gen ?_
    intro W hW
    have R0 : Hid (Row W w.heap.size 27 5) := by rw [hW]; exact R3.out.onto (((Below.refl w3.heap.size w3).alloc (Nat.le_refl _) _).block _ R3.out.lt)
    have HBW : Hid (Below w.heap.size w W) := by rw [hW]; exact valloc_bel HB3.out _
    have hk := new_cells w3 [.int .i64 tk, .int .i64 tn, .string ts, .slice none 0 0, .slice none 0 0] 27
    have b0 : W.cell? ⟨w3.heap.size, 0, none⟩ = some (.int .i64 tk) := by rw [hW]; exact (addz _ 0) ▸ hk 0 _ rfl
    have b1 : W.cell? ⟨w3.heap.size, 1, none⟩ = some (.int .i64 tn) := by rw [hW]; exact (addz _ 1) ▸ hk 1 _ rfl
    have b2 : W.cell? ⟨w3.heap.size, 2, none⟩ = some (.string ts) := by rw [hW]; exact (addz _ 2) ▸ hk 2 _ rfl
    have b3 : W.cell? ⟨w3.heap.size, 3, none⟩ = some nilS := by rw [hW]; exact (addz _ 3) ▸ hk 3 _ rfl
    have b4 : W.cell? ⟨w3.heap.size, 4, none⟩ = some nilS := by rw [hW]; exact (addz _ 4) ▸ hk 4 _ rfl
    clear hW hk R3 HB3
    obtain ⟨u0, e0⟩ := R0.out.cell (o := 0) (by decide)
    obtain ⟨u1, e1⟩ := R0.out.cell (o := 1) (by decide)
    obtain ⟨u2, e2⟩ := R0.out.cell (o := 2) (by decide)
    obtain ⟨u3, e3⟩ := R0.out.cell (o := 3) (by decide)
    obtain ⟨u4, e4⟩ := R0.out.cell (o := 4) (by decide)
    have z0 := R0.out.frozen
    go_wp2_with fail
    refine bodyPost_ret (v := .tuple #[vv zeroT nilS nilS, .int .i64 6]) (by simp [results, Tryz.results101, go_sem, vv, zeroT, VT.kd, VT.nm, VT.st, e0, e1, e2, e3, e4]) rfl ⟨by rw [HR.out.1, HR.out.2], ?_⟩
    repeat (first | exact HBW.out | (refine vset_bel ?_ (by simp)))
end Go.Proofs.YtiaepihdfbahaaaGreatDoor
