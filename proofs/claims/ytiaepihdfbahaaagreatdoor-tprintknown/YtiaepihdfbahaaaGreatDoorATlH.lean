/- tlex.withoutJoints, readInt, readNum: walked. -/
import Derived.Test.YtiaepihdfbahaaaGreatDoorATlG
import Derived.Test.YtiaepihdfbahaaaGreatDoorATlQ
import Derived.Test.YtiaepihdfbahaaaGreatDoorAVPlus
namespace Go.Proofs.YtiaepihdfbahaaaGreatDoor
open Go.RowKit

abbrev nilS : Value := .slice none 0 0
set_option maxRecDepth 100000 in
theorem tclone_any (s : ByteArray) (w : World) (hs : s.size ≤ 1000000) :
    Calls Tryz.prog 24 #[.string s] w fun e w' => e = .returned (.string s) ∧ Below w.heap.size w w' := by
  have C := hid (fun X => Tryz.stringslite_Clone s X (by omega))
  go_enter Tryz.func24, Tryz.ntmps24
  go_wp2_with (go_at_call 44; go_must (refine (C.out _).mono ?_; rintro e w1 ⟨rfl, hb⟩))
  go_ret
  exact ⟨rfl, hb⟩
set_option maxRecDepth 100000 in
theorem tjoints_any (s : ByteArray) (w : World) (hs : s.size ≤ 1000000) (hg : GlobM w) :
    Calls Tryz.prog 128 #[.string s] w fun e w' => e = .returned (.string (mkS (clnS s.data.toList))) ∧ Below w.heap.size w w' := by
  have C := hid (fun X => tclone_any s X hs)
  have CR : Hid (∀ X, Below w.heap.size w X → Calls Tryz.prog 149 #[.string s, .string ⟨#[95]⟩, .string ⟨#[]⟩] X fun e w' => e = .returned (.string (mkS (clnS s.data.toList))) ∧ Below X.heap.size X w') := fun X h => by
    obtain ⟨m, hm⟩ := hg.on h
    have := Tryz.strings_ReplaceAll s ⟨#[95]⟩ ⟨#[]⟩ m X (by omega) hm (by decide) (by rw [show (⟨#[]⟩ : ByteArray).size = 0 from rfl, Nat.mul_zero]; omega)
    rw [show (⟨#[95]⟩ : ByteArray).data.toList = [95] from rfl, show (⟨#[]⟩ : ByteArray).data.toList = [] from rfl, replaceAll_cln] at this
    exact this
  generalize mkS (clnS s.data.toList) = m at *
  clear hg
  go_enter Tryz.func128, Tryz.ntmps128
  go_wp2_with (first
    | (go_at_call 24; go_must (refine (C.out _).mono ?_; rintro e w1 ⟨rfl, hb1⟩))
    | (go_at_call 149; go_must (refine (CR.out _ hb1).mono ?_; rintro e w2 ⟨rfl, hb2⟩)))
  go_ret
  exact ⟨rfl, eonto hb1 hb2⟩
/-- an int read, or none -/
def intR : Option Int → VT
  | some v => leafT 2 v ⟨#[]⟩
  | none => zeroT
def intE : Option Int → Int
  | some _ => 0
  | none => 6
set_option maxRecDepth 100000 in
set_option maxHeartbeats 2000000 in
theorem trint_of (s : ByteArray) (base : Int) (o : Option Int) (w : World) (hs : s.size ≤ 1000000) (hg : GlobM w)
    (HP : ∀ X, Below w.heap.size w X → Calls Tryz.prog 127 #[.string (mkS (clnS s.data.toList)), .int .i64 base, .int .i64 64] X fun e w' => Below X.heap.size X w' ∧
      ((∃ v, Hid (o = some v) ∧ e = .returned (.tuple #[.int .i64 v, .nilIface])) ∨ (Hid (o = none) ∧ ∃ v t p, e = .returned (.tuple #[.int .i64 v, .iface t p])))) :
    Calls Tryz.prog 99 #[.string s, .int .i64 base] w fun e w' => e = .returned (.tuple #[vv (intR o) nilS nilS, .int .i64 (intE o)]) ∧ Below w.heap.size w w' := by
  have CJ := hid (fun X (h : Below w.heap.size w X) => tjoints_any s X hs (hg.on h))
  have CP := hid HP
  have CV := hid (fun n X => vint_any n X)
  simp only [vv, leafT, VT.kd, VT.nm, VT.st] at CV
  clear HP hg
  generalize mkS (clnS s.data.toList) = m at *
  go_enter Tryz.func99, Tryz.ntmps99
  go_wp2_with fail
  go_at_call 128
  refine (CJ.out _ (valloc_bel (Below.refl _ _) _)).mono ?_
  rintro e w1 ⟨rfl, hb1⟩
  have R1 := hid (box_row hb1)
  have HB1 := hid (vonto (valloc_bel (Below.refl w.heap.size w) _) hb1)
  clear hb1
  go_wp2_with fail
  go_at_call 127
  refine (CP.out _ HB1.out).mono ?_
  rintro e w2 ⟨hb2, ⟨v, HV, rfl⟩ | ⟨HV, v, t, p, rfl⟩⟩
  · have R2 := hid (R1.out.onto (hb2.block _ R1.out.lt))
    have HB2 := hid (vonto HB1.out hb2)
    clear hb2 R1 HB1
    go_wp2_with fail
    go_at_call 129
    refine (CV.out v _).mono ?_
    rintro e w3 ⟨rfl, hb3⟩
    have R0 := hid (R2.out.onto (hb3.block _ R2.out.lt))
    have HB3 := hid (vonto HB2.out hb3)
    clear hb3 R2 HB2
    obtain ⟨u0, e0⟩ := R0.out.cell (o := 0) (by decide)
    obtain ⟨u1, e1⟩ := R0.out.cell (o := 1) (by decide)
    obtain ⟨u2, e2⟩ := R0.out.cell (o := 2) (by decide)
    obtain ⟨u3, e3⟩ := R0.out.cell (o := 3) (by decide)
    obtain ⟨u4, e4⟩ := R0.out.cell (o := 4) (by decide)
    have z0 := R0.out.frozen
    go_wp2_with fail
    refine bodyPost_ret (v := .tuple #[vv (leafT 2 v ⟨#[]⟩) nilS nilS, .int .i64 0]) (by simp [results, Tryz.results99, go_sem, vv, leafT, VT.kd, VT.nm, VT.st, e0, e1, e2, e3, e4]) rfl ⟨by rw [HV.out]; rfl, ?_⟩
    repeat (first | exact HB3.out | (refine vset_bel ?_ (by simp)))
  · have R0 := hid (R1.out.onto (hb2.block _ R1.out.lt))
    have HB3 := hid (vonto HB1.out hb2)
    clear hb2 R1 HB1
    obtain ⟨u0, e0⟩ := R0.out.cell (o := 0) (by decide)
    obtain ⟨u1, e1⟩ := R0.out.cell (o := 1) (by decide)
    obtain ⟨u2, e2⟩ := R0.out.cell (o := 2) (by decide)
    obtain ⟨u3, e3⟩ := R0.out.cell (o := 3) (by decide)
    obtain ⟨u4, e4⟩ := R0.out.cell (o := 4) (by decide)
    have z0 := R0.out.frozen
    go_wp2_with fail
    refine bodyPost_ret (v := .tuple #[vv zeroT nilS nilS, .int .i64 6]) (by simp [results, Tryz.results99, go_sem, vv, zeroT, VT.kd, VT.nm, VT.st, e0, e1, e2, e3, e4]) rfl ⟨by rw [HV.out]; rfl, ?_⟩
    repeat (first | exact HB3.out | (refine vset_bel ?_ (by simp)))
/-- strconv.ParseInt at ten -/
theorem tpint10 (s : ByteArray) (w : World) (hg : Glob w) (hs : s.size ≤ 1000000) :
    Calls Tryz.prog 127 #[.string s, .int .i64 10, .int .i64 64] w fun e w' => Below w.heap.size w w' ∧
      ((∃ v, Hid (piV s.data.toList = some v) ∧ e = .returned (.tuple #[.int .i64 v, .nilIface])) ∨ (Hid (piV s.data.toList = none) ∧ ∃ v t p, e = .returned (.tuple #[.int .i64 v, .iface t p]))) := by
  have HP : piV s.data.toList = match Lib.parseIntB 64 s.data.toList with | .ok v => some v | _ => none := rfl
  rw [HP]
  clear HP
  generalize hq : Lib.parseIntB 64 s.data.toList = q
  have h := hq
  clear hq
  rcases q with v | _ | _
  · refine (Tryz.strconv_ParseInt_10_at64_ok s (by omega) v h w).mono ?_
    rintro e w' ⟨rfl, rfl | ⟨t, rfl⟩⟩
    · exact ⟨Below.refl _ _, Or.inl ⟨v, hid rfl, rfl⟩⟩
    · exact ⟨Lib.bytesWorld_below _ _ _, Or.inl ⟨v, hid rfl, rfl⟩⟩
  · obtain ⟨tp, p, hv⟩ := hg.syn
    refine (Any.strconv_ParseInt_10_at64_syntax_var Tryz.laysC174 s (by omega) h tp p w hv).mono ?_
    rintro e w' ⟨N, rfl, -, -, hb⟩
    exact ⟨hb, Or.inr ⟨hid rfl, _, _, _, rfl⟩⟩
  · obtain ⟨tp, p, hv⟩ := hg.ran
    refine (Tryz.strconv_ParseInt_10_at64_range_var s (by omega) h tp p w hv).mono ?_
    rintro e w' ⟨N, rfl, -, -, hb⟩
    exact ⟨hb, Or.inr ⟨hid rfl, _, _, _, rfl⟩⟩
/-- what is read -/
structure GlobT (w : World) : Prop where
  g : Glob w
  m : GlobM w
theorem GlobT.on {w w' : World} (h : GlobT w) (hb : Below w.heap.size w w') : GlobT w' := ⟨h.g.on hb, h.m.on hb⟩
theorem cln_le (l : List UInt8) : (clnS l).length ≤ l.length := List.length_filter_le _ _
theorem trint10 (s : ByteArray) (w : World) (hs : s.size ≤ 1000000) (hg : GlobT w) :
    Calls Tryz.prog 99 #[.string s, .int .i64 10] w fun e w' => e = .returned (.tuple #[vv (intR (piV (clnS s.data.toList))) nilS nilS, .int .i64 (intE (piV (clnS s.data.toList)))]) ∧ Below w.heap.size w w' :=
  trint_of s 10 _ w hs hg.m fun X h => by
    have := tpint10 (mkS (clnS s.data.toList)) X (hg.g.on h) (by rw [mkS_size]; have := cln_le s.data.toList; rw [size_list] at this; omega)
    rw [mkS_list] at this; exact this
theorem dgs_cln : ∀ {base : Nat} {q : Bool} {l : List UInt8}, cdN (dgB base) q l = l.length → ∀ b ∈ clnS l, dgB base b = true
  | _, _, [], _, b, hb => by simp [clnS] at hb
  | base, q, c :: l, h, b, hb => by
    rw [cdN] at h
    by_cases k : (dgB base c || (q && decide (c.toNat = 95) && hdB (dgB base) l)) = true
    · rw [if_pos k, List.length_cons] at h
      have ih := dgs_cln (base := base) (q := true) (l := l) (by omega)
      unfold clnS at hb ih
      rw [List.filter_cons] at hb
      by_cases hc : noS c = true
      · rw [if_pos hc] at hb
        rcases List.mem_cons.1 hb with rfl | hb
        · rw [Bool.or_eq_true] at k
          rcases k with k | k
          · exact k
          · rw [Bool.and_eq_true, Bool.and_eq_true, decide_eq_true_eq] at k
            unfold noS at hc; rw [k.1.2] at hc; exact absurd hc (by decide)
        · exact ih b hb
      · rw [if_neg hc] at hb; exact ih b hb
    · rw [if_neg k] at h; simp at h
theorem cln_ne {base : Nat} {l : List UInt8} (h : dgs base l = true) : 0 < (clnS l).length := by
  rw [dgs_is] at h
  cases l with
  | nil => simp at h
  | cons c l =>
    simp only [Bool.and_eq_true, decide_eq_true_eq, Bool.not_eq_true', decide_eq_false_iff_not] at h
    have h2 := h.2
    rw [cdN] at h2
    by_cases k : dgB base c = true
    · have hc : noS c = true := by
        unfold noS; unfold dgB hxI at k; simp at k ⊢; omega
      unfold clnS; rw [List.filter_cons, if_pos hc]; simp
    · rw [if_neg (by simpa using k)] at h2; simp at h2
end Go.Proofs.YtiaepihdfbahaaaGreatDoor
