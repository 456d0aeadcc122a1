/- tprint.tables and plain; the document's tables. -/
import Derived.Test.YtiaepihdfbahaaaGreatDoorAMathPlace
import Derived.Test.YtiaepihdfbahaaaGreatDoorARpC
/- tprint.plain and join. -/
/- The document's tables. -/
/- tprint.join; the document's headed. -/
/- Plain mathematics: a value's text within a line of TOML. -/
namespace Go.Proofs.YtiaepihdfbahaaaGreatDoor
open Go.RowKit

/-- a list of one or more maps alone? -/
def mpsL (L : List VT) : Bool := L.all fun t => decide (t.kd = 6)
def tblB (T : VT) : Bool := mpsL T.ls && decide (0 < T.ls.length)
theorem mps_next (L : List VT) (j : Nat) (t : VT) (h : L[j]? = some t) : mpsL (L.take (j + 1)) = (mpsL (L.take j) && decide (t.kd = 6)) := by
  unfold mpsL; rw [List.take_add_one, h]; simp
theorem mps_no (L : List VT) (j : Nat) (t : VT) (h : L[j]? = some t) (ht : ¬ t.kd = 6) : mpsL L = false := by
  unfold mpsL; rw [List.all_eq_false]; exact ⟨t, List.mem_of_getElem? h, by simp [ht]⟩
set_option maxRecDepth 100000 in
set_option maxHeartbeats 2000000 in
theorem tptab_any (T : VT) (x y : Value) (w : World) (hT : HV w T x y) :
    Calls Tryz.prog 52 #[vv T x y] w fun e w' => e = .returned (.bool (tblB T)) ∧ Below w.heap.size w w' := by
  cases hT with
  | mk a b f g p q hk hn hs hL hM hK cL cK cM rL rM =>
  rename_i k n s L K V
  simp only [vv, VT.kd, VT.nm, VT.st]
  obtain ⟨R, hR⟩ : ∃ R, tblB (.mk k n s L K V) = R := ⟨_, rfl⟩
  rw [hR]
  unfold tblB at hR
  simp only [VT.ls] at hR
  have HR := hid hR
  clear hR
  obtain ⟨oL, capL, rfl, hL1, hL2, hL3⟩ := hL
  obtain ⟨oM, capM, rfl, hM1, hM2, hM3⟩ := hM
  unfold maxLen at hL2 hM2
  obtain ⟨A, hA⟩ : ∃ A, w.alloc (.cells #[.int .i64 k, .int .i64 n, .string s, .slice oL L.length capL, .slice oM V.length capM] 27) = A := ⟨_, rfl⟩
  have HBA : Hid (Below w.heap.size w A) := hid (by rw [← hA]; exact valloc_bel (Below.refl _ _) _)
  have hAz : A.heap.size = w.heap.size + 1 := by rw [← hA]; simp
  have HBX := hid (fun (wr : World) (h : Below (w.heap.size + 1) A wr) (j : Nat) (u : Value) hj => box_cell w wr _ _ _ _ _ _ (by rw [hA]; exact h) j u hj)
  go_enter Tryz.func52, Tryz.ntmps52
  go_upto_region 1 with fail
  have b3 := HBX.out A (Below.refl _ _) 3 _ rfl
  clear hA
  go_wp2_with fail
  clear b3
  go_loopw [8] (fun i wr => ∃ j : Nat, j ≤ L.length ∧ i = .int .i64 j ∧ Hid (Below (w.heap.size + 1) A wr) ∧ Hid (mpsL (L.take j) = true)) (fun i _ => L.length - (intOf i).toNat)
  case atStart => exact ⟨0, Nat.zero_le _, rfl, Below.refl _ _, rfl⟩
  case round =>
    obtain ⟨j, hj, rfl, HB, HAm⟩ := hrel
    have b3 := HBX.out wr HB.out 3 _ rfl
    have hbw : Below w.heap.size w wr := HBA.out.trans (HB.out.mono (Nat.le_succ _))
    have hws := HB.out.size
    by_cases hlt : j < L.length
    · obtain ⟨t, ht⟩ : ∃ t, L[j]? = some t := ⟨L[j], List.getElem?_eq_getElem hlt⟩
      obtain rfl := hL3 (by omega)
      obtain ⟨d0, d1, d2, d3, d4⟩ := (cL j t ht).onto hbw
      obtain ⟨o1, n1, c1, o2, n2, c2, hp, hq⟩ := hv_slices (rL j t ht)
      rw [hp] at d3
      rw [hq] at d4
      have HT := hid (mps_next L j t ht)
      have HX := hid (fun h => mps_no L j t ht h)
      have HBr := hid HB.out
      clear hp hq hbw
      go_upto_region 4 with fail
      refine tpwp_gen ?_
      intro W hW
      obtain ⟨g0, g1, g2, g3, g4⟩ := tpbox wr (.int .i64 t.kd) (.int .i64 t.nm) (.string t.st) (.slice o1 n1 c1) (.slice o2 n2 c2)
      have hbW : Below wr.heap.size wr W := by rw [hW]; exact valloc_bel (Below.refl _ _) _
      rw [← hW] at g0 g1 g2 g3 g4
      have HBW := hid (HB.out.trans (hbW.mono (by omega)))
      clear hW hbW d0 d1 d2 d3 d4 b3
      by_cases k6 : t.kd = 6
      · rw [k6] at g0
        go_wp2_with fail
        go_roundw
        case rel => exact ⟨j + 1, hlt, val_int (by omega), HBW.out, by rw [HT.out, HAm.out, decide_eq_true k6]; rfl⟩
        case measure => simp [intOf]; omega
      · obtain ⟨k6a, k6b⟩ := ikey t.kd 6 k6
        have HFa : Hid (R = false) := hid (by rw [← HR.out, HX.out k6]; rfl)
        go_wp2_with fail
        go_ret
        exact ⟨by rw [HFa.out]; rfl, HBA.out.trans (HBW.out.mono (Nat.le_succ _))⟩
    · obtain rfl : j = L.length := by omega
      rw [List.take_length] at HAm
      have HBw := hid hbw
      have HR2 : Hid (R = decide (0 < L.length)) := hid (by rw [← HR.out, HAm.out, Bool.true_and]; exact decide_eq_decide.mpr Iff.rfl)
      clear hbw
      go_wp2_with fail
      go_ret
      exact ⟨by rw [HR2.out]; rfl, HBw.out⟩
end Go.Proofs.YtiaepihdfbahaaaGreatDoor
namespace Go.Proofs.YtiaepihdfbahaaaGreatDoor
open Go.RowKit

/-- a value behind its key's sign, not below a header? -/
def plhB (T : VT) : Bool := !decide (T.kd = 6) && !tblB T
set_option maxRecDepth 100000 in
set_option maxHeartbeats 1000000 in
theorem tpplain_any (T : VT) (x y : Value) (w : World) (hT : HV w T x y) :
    Calls Tryz.prog 29 #[vv T x y] w fun e w' => e = .returned (.bool (plhB T)) ∧ Below w.heap.size w w' := by
  have CG := hid (fun (X : World) (hX : Below w.heap.size w X) => tptab_any T x y X (hT.onto hX))
  obtain ⟨o1, n1, c1, o2, n2, c2, rfl, rfl⟩ := hv_slices hT
  unfold plhB
  simp only [vv] at CG ⊢
  generalize tblB T = M at *
  have HB0 := hid (valloc_bel (Below.refl w.heap.size w) (.cells #[.int .i64 T.kd, .int .i64 T.nm, .string T.st, .slice o1 n1 c1, .slice o2 n2 c2] 27))
  obtain ⟨f0, f1, f2, f3, f4⟩ := tpbox w (.int .i64 T.kd) (.int .i64 T.nm) (.string T.st) (.slice o1 n1 c1) (.slice o2 n2 c2)
  clear hT
  by_cases k6 : T.kd = 6
  · rw [decide_eq_true k6, Bool.not_true, Bool.false_and]
    rw [k6] at CG HB0 f0 f1 f2 f3 f4 ⊢
    clear CG
    go_enter Tryz.func29, Tryz.ntmps29
    go_wp2_with fail
    go_ret
    exact ⟨rfl, HB0.out⟩
  · rw [decide_eq_false k6, Bool.not_false, Bool.true_and]
    obtain ⟨k6a, k6b⟩ := ikey T.kd 6 k6
    go_enter Tryz.func29, Tryz.ntmps29
    go_wp2_with fail
    go_at_call 52
    refine (CG.out _ HB0.out).mono ?_
    rintro e w1 ⟨rfl, hb1⟩
    have HB1 := hid (vonto HB0.out hb1)
    clear hb1 CG
    go_wp2_with fail
    go_ret
    exact ⟨rfl, HB1.out⟩
end Go.Proofs.YtiaepihdfbahaaaGreatDoor
namespace Go.Proofs.YtiaepihdfbahaaaGreatDoor
open Go.RowKit
set_option maxRecDepth 100000 in
set_option maxHeartbeats 2000000 in
theorem rptab_any (T : VT) (x y : Value) (w : World) (hT : HV w T x y) :
    Calls Tryz.prog 49 #[vv T x y] w fun e w' => e = .returned (.bool (decide (T.kd = 5) && tblB T)) ∧ Below w.heap.size w w' := by
  cases hT with
  | mk a b f g p q hk hn hs hL hM hK cL cK cM rL rM =>
  rename_i k n s L K V
  obtain ⟨D, hD⟩ : ∃ D, decide ((VT.mk k n s L K V).kd = 5) = D := ⟨_, rfl⟩
  rw [hD]
  have hD1 : k = 5 → D = true := fun h => hD.symm.trans (decide_eq_true h)
  have hD2 : ¬ k = 5 → D = false := fun h => hD.symm.trans (decide_eq_false h)
  clear hD
  simp only [vv, VT.kd, VT.nm, VT.st]
  obtain ⟨R, hR⟩ : ∃ R, tblB (.mk k n s L K V) = R := ⟨_, rfl⟩
  rw [hR]
  unfold tblB at hR
  change (mpsL L && decide (0 < L.length)) = R at hR
  have HR := hid hR
  clear hR
  obtain ⟨oL, capL, rfl, hL1, hL2, hL3⟩ := hL
  obtain ⟨oM, capM, rfl, hM1, hM2, hM3⟩ := hM
  unfold maxLen at hL2 hM2
  obtain ⟨A, hA⟩ : ∃ A, w.alloc (.cells #[.int .i64 k, .int .i64 n, .string s, .slice oL L.length capL, .slice oM V.length capM] 27) = A := ⟨_, rfl⟩
  have HBA : Hid (Below w.heap.size w A) := hid (by rw [← hA]; exact valloc_bel (Below.refl _ _) _)
  have hAz : A.heap.size = w.heap.size + 1 := by rw [← hA]; simp
  have HBX := hid (fun (wr : World) (h : Below (w.heap.size + 1) A wr) (j : Nat) (u : Value) hj => box_cell w wr _ _ _ _ _ _ (by rw [hA]; exact h) j u hj)
  by_cases k5 : k = 5
  · rw [hD1 k5, Bool.true_and]
    subst k5
    clear hD1 hD2
    go_enter Tryz.func49, Tryz.ntmps49
    go_upto_region 1 with fail
    have b0 := HBX.out A (Below.refl _ _) 0 _ rfl
    have b3 := HBX.out A (Below.refl _ _) 3 _ rfl
    clear hA
    by_cases h0 : L.length = 0
    · have HF : Hid (R = false) := hid (by rw [← HR.out, h0]; simp)
      rw [h0] at b3
      go_wp2_with fail
      go_ret
      exact ⟨by rw [HF.out]; rfl, HBA.out⟩
    have h0a : ((L.length : Int) == 0) = false := by rw [beq_eq_false_iff_ne]; omega
    go_wp2_with fail
    clear b0 b3
    go_loopw [3] (fun i wr => ∃ j : Nat, j ≤ L.length ∧ i = .int .i64 j ∧ Hid (Below (w.heap.size + 1) A wr) ∧ Hid (mpsL (L.take j) = true)) (fun i _ => L.length - (intOf i).toNat)
    case atStart => exact ⟨0, Nat.zero_le _, rfl, Below.refl _ _, rfl⟩
    case round =>
      obtain ⟨j, hj, rfl, HB, HAm⟩ := hrel
      have b3 := HBX.out wr HB.out 3 _ rfl
      have hbw : Below w.heap.size w wr := HBA.out.trans (HB.out.mono (Nat.le_succ _))
      have hws := HB.out.size
      by_cases hlt : j < L.length
      · obtain ⟨t, ht⟩ : ∃ t, L[j]? = some t := ⟨L[j], List.getElem?_eq_getElem hlt⟩
        obtain rfl := hL3 (by omega)
        obtain ⟨d0, d1, d2, d3, d4⟩ := (cL j t ht).onto hbw
        have HT := hid (mps_next L j t ht)
        have HX := hid (fun h => mps_no L j t ht h)
        have HBw := hid hbw
        clear hbw
        by_cases k6 : t.kd = 6
        · rw [k6] at d0
          go_wp2_with fail
          go_roundw
          case rel => exact ⟨j + 1, hlt, val_int (by omega), HB.out, by rw [HT.out, HAm.out, decide_eq_true k6]; rfl⟩
          case measure => simp [intOf]; omega
        · obtain ⟨k6a, k6b⟩ := ikey t.kd 6 k6
          have HFa : Hid (R = false) := hid (by rw [← HR.out, HX.out k6]; rfl)
          go_wp2_with fail
          go_ret
          exact ⟨by rw [HFa.out]; rfl, HBw.out⟩
      · obtain rfl : j = L.length := by omega
        rw [List.take_length] at HAm
        have HBw := hid hbw
        have HR2 : Hid (R = true) := hid (by rw [← HR.out, HAm.out, Bool.true_and]; exact decide_eq_true (by omega))
        clear hbw
        go_wp2_with fail
        go_ret
        exact ⟨by rw [HR2.out]; rfl, HBw.out⟩
  · obtain ⟨k5a, k5b⟩ := ikey k 5 k5
    rw [hD2 k5, Bool.false_and]
    clear hD1 hD2
    go_enter Tryz.func49, Tryz.ntmps49
    go_upto_region 1 with fail
    have b0 := HBX.out A (Below.refl _ _) 0 _ rfl
    clear hA
    go_wp2_with fail
    go_ret
    exact ⟨rfl, HBA.out⟩
end Go.Proofs.YtiaepihdfbahaaaGreatDoor
namespace Go.Proofs.YtiaepihdfbahaaaGreatDoor
open Go.RowKit

theorem tp_app (a b : ByteArray) : (a ++ b).data.toList = a.data.toList ++ b.data.toList := by simp
theorem nz_seq {s : ByteArray} (h : ¬ s.size = 0) : s.toList.isEmpty = false := by
  rw [← Bool.not_eq_true, List.isEmpty_iff]
  intro he; apply h; rw [← size_list, ← Lib.toList_data, he]; rfl
theorem z_eq {s : ByteArray} (h : s.size = 0) : s = ⟨#[]⟩ := by
  have : s.data.toList = [] := List.eq_nil_of_length_eq_zero (by rw [size_list]; exact h)
  rw [mkS_of s _ rfl, this]; rfl
/-- a path and a key below it -/
def jpB (p k : List UInt8) : List UInt8 := if p.length = 0 then pkB k else p ++ [46] ++ pkB k
/-- a header behind what stands ahead -/
def hhB (s h : List UInt8) : List UInt8 := (if s.length = 0 then [] else s ++ [10]) ++ h ++ [10]
set_option maxRecDepth 100000 in
set_option maxHeartbeats 1000000 in
theorem tpjoin_any (p k : ByteArray) (w : World) (hk : k.size ≤ 100000) (hp : p.size ≤ 1000000000000) (hl : (pkB k.data.toList).length ≤ 1000000000000) :
    Calls Tryz.prog 33 #[.string p, .string k] w fun e w' => e = .returned (.string (mkS (jpB p.data.toList k.data.toList))) ∧ Below w.heap.size w w' := by
  have CK := hid (fun X => tpkey_any k X hk)
  have hz := mkS_size (pkB k.data.toList)
  by_cases h0 : p.size = 0
  · obtain rfl := z_eq h0
    have HR : Hid (mkS (jpB (⟨#[]⟩ : ByteArray).data.toList k.data.toList) = mkS (pkB k.data.toList)) := hid rfl
    go_enter Tryz.func33, Tryz.ntmps33
    go_wp2_with fail
    go_at_call 13
    refine (CK.out _).mono ?_
    rintro e w1 ⟨rfl, hb1⟩
    have HB := hid hb1
    clear hb1 CK
    go_wp2_with fail
    go_ret
    exact ⟨by rw [HR.out]; rfl, HB.out⟩
  · have HR : Hid (mkS (jpB p.data.toList k.data.toList) = p ++ (⟨#[46]⟩ : ByteArray) ++ mkS (pkB k.data.toList)) := hid (by
      unfold jpB
      rw [if_neg (by rw [size_list]; exact h0)]
      exact (mkS_of _ _ (by simp only [tp_app, mkS_list])).symm)
    have g0 := nz_seq h0
    generalize mkS (pkB k.data.toList) = q at *
    go_enter Tryz.func33, Tryz.ntmps33
    go_wp2_with fail
    go_at_call 13
    refine (CK.out _).mono ?_
    rintro e w1 ⟨rfl, hb1⟩
    have HB := hid hb1
    clear hb1 CK
    go_wp2_with fail
    go_ret
    exact ⟨by rw [HR.out]; rfl, HB.out⟩
set_option maxRecDepth 100000 in
set_option maxHeartbeats 1000000 in
theorem rphead_any (s h : ByteArray) (w : World) (hs : s.size ≤ 1000000000000) (hh : h.size ≤ 1000000000000) :
    Calls Tryz.prog 51 #[.string s, .string h] w fun e w' => e = .returned (.string (mkS (hhB s.data.toList h.data.toList))) ∧ w' = w := by
  by_cases h0 : s.size = 0
  · obtain rfl := z_eq h0
    have HR : Hid (mkS (hhB (⟨#[]⟩ : ByteArray).data.toList h.data.toList) = (⟨#[]⟩ : ByteArray) ++ h ++ (⟨#[10]⟩ : ByteArray)) := hid ((mkS_of _ _ (by simp only [tp_app]; rfl)).symm)
    go_enter Tryz.func51, Tryz.ntmps51
    go_wp2_with fail
    go_ret
    exact ⟨by rw [HR.out]; rfl, rfl⟩
  · have HR : Hid (mkS (hhB s.data.toList h.data.toList) = s ++ (⟨#[10]⟩ : ByteArray) ++ h ++ (⟨#[10]⟩ : ByteArray)) := hid (by
      unfold hhB
      rw [if_neg (by rw [size_list]; exact h0)]
      exact (mkS_of _ _ (by simp only [tp_app])).symm)
    have g0 := nz_seq h0
    go_enter Tryz.func51, Tryz.ntmps51
    go_wp2_with fail
    go_ret
    exact ⟨by rw [HR.out]; rfl, rfl⟩
end Go.Proofs.YtiaepihdfbahaaaGreatDoor
namespace Go.Proofs.YtiaepihdfbahaaaGreatDoor
open Go.RowKit

/-- the text of a value that has no parts -/
def sgS (k n : Int) (s : ByteArray) : List UInt8 :=
  if k = 1 then (if n = 1 then [116, 114, 117, 101] else [102, 97, 108, 115, 101]) else if k = 2 then txt n else if k = 4 then qtA true s.data.toList else s.data.toList
/-- ahead of a part -/
def coB (b : Bool) : List UInt8 := if b = true then [] else [44, 32]
mutual
def ivT : VT → List UInt8
  | .mk k n s L K V => if k = 5 then 91 :: (ivL true L ++ [93]) else if k = 6 then 123 :: (ivM true V K ++ [125]) else sgS k n s
def ivL : Bool → List VT → List UInt8
  | _, [] => []
  | b, t :: r => coB b ++ (ivT t ++ ivL false r)
def ivM : Bool → List VT → List ByteArray → List UInt8
  | _, [], _ => []
  | b, t :: r, K => coB b ++ (pkB (K.headD ⟨#[]⟩).data.toList ++ ([32, 61, 32] ++ (ivT t ++ ivM false r K.tail)))
end
theorem ivL_app : ∀ (b : Bool) (A B : List VT), ivL b (A ++ B) = ivL b A ++ ivL (b && A.isEmpty) B
  | b, [], B => by simp [ivL]
  | b, t :: A, B => by rw [List.cons_append, ivL, ivL, ivL_app false A B]; simp
theorem ivM_app : ∀ (b : Bool) (A B : List VT) (K J : List ByteArray), K.length = A.length → ivM b (A ++ B) (K ++ J) = ivM b A K ++ ivM (b && A.isEmpty) B J
  | b, [], B, [], J, _ => by simp [ivM]
  | b, [], B, c :: K, J, h => by simp at h
  | b, t :: A, B, [], J, h => by simp at h
  | b, t :: A, B, c :: K, J, h => by
    rw [List.cons_append, List.cons_append, ivM, ivM, List.tail_cons, List.tail_cons, ivM_app false A B K J (by simpa using h)]; simp
theorem tk_next {α : Type} {L : List α} {j : Nat} {t : α} (h : L[j]? = some t) : L.take (j + 1) = L.take j ++ [t] := by
  obtain ⟨hj, rfl⟩ := List.getElem?_eq_some_iff.1 h
  rw [List.take_succ_eq_append_getElem hj]
theorem tk_emp {α : Type} {L : List α} {j : Nat} (hj : j ≤ L.length) : (L.take j).isEmpty = decide (j = 0) := by
  cases j with
  | zero => simp
  | succ j =>
    cases L with
    | nil => simp at hj
    | cons a L => simp
/-- a list's text, so far -/
def ilB (L : List VT) (j : Nat) : List UInt8 := 91 :: ivL true (L.take j)
theorem il_next {L : List VT} {j : Nat} {t : VT} (h : L[j]? = some t) : ilB L (j + 1) = ilB L j ++ (coB (decide (j = 0)) ++ ivT t) := by
  unfold ilB
  rw [tk_next h, ivL_app, tk_emp (by have := lt_of_some h; omega)]
  simp [ivL]
theorem il_end {n : Int} {s : ByteArray} {L : List VT} {K : List ByteArray} {V : List VT} : ivT (.mk 5 n s L K V) = ilB L L.length ++ [93] := by
  rw [ivT, if_pos rfl, ilB, List.take_length]; simp
theorem il_len {n : Int} {s : ByteArray} {L : List VT} {K : List ByteArray} {V : List VT} (j : Nat) : (ilB L j).length ≤ (ivT (.mk 5 n s L K V)).length := by
  rw [ivT, if_pos rfl, ilB]
  have e : ivL true L = ivL true (L.take j) ++ ivL (true && (L.take j).isEmpty) (L.drop j) := by rw [← ivL_app, List.take_append_drop]
  rw [e]; simp only [List.length_cons, List.length_append]; omega
/-- a map's text, so far -/
def imB (V : List VT) (K : List ByteArray) (j : Nat) : List UInt8 := 123 :: ivM true (V.take j) (K.take j)
theorem im_next {V : List VT} {K : List ByteArray} {j : Nat} {t : VT} {c : ByteArray} (h : V[j]? = some t) (g : K[j]? = some c) : imB V K (j + 1) = imB V K j ++ (coB (decide (j = 0)) ++ (pkB c.data.toList ++ ([32, 61, 32] ++ ivT t))) := by
  unfold imB
  have h1 := lt_of_some h
  have h2 := lt_of_some g
  rw [tk_next h, tk_next g, ivM_app _ _ _ _ _ (by rw [List.length_take, List.length_take]; omega), tk_emp (by omega)]
  simp [ivM]
theorem im_end {n : Int} {s : ByteArray} {L : List VT} {K : List ByteArray} {V : List VT} (hK : K.length = V.length) : ivT (.mk 6 n s L K V) = imB V K V.length ++ [125] := by
  rw [ivT, if_neg (by decide), if_pos rfl, imB, List.take_length, ← hK, List.take_length]; simp
theorem im_len {n : Int} {s : ByteArray} {L : List VT} {K : List ByteArray} {V : List VT} (hK : K.length = V.length) (j : Nat) : (imB V K j).length ≤ (ivT (.mk 6 n s L K V)).length := by
  rw [ivT, if_neg (by decide), if_pos rfl, imB]
  have e : ivM true V K = ivM true (V.take j) (K.take j) ++ ivM (true && (V.take j).isEmpty) (V.drop j) (K.drop j) := by
    rw [← ivM_app _ _ _ _ _ (by rw [List.length_take, List.length_take, hK]), List.take_append_drop, List.take_append_drop]
  rw [e]; simp only [List.length_cons, List.length_append]; omega
theorem il_sub {n : Int} {s : ByteArray} {L : List VT} {K : List ByteArray} {V : List VT} {j : Nat} {t : VT} (h : L[j]? = some t) : (ivT t).length ≤ (ivT (.mk 5 n s L K V)).length := by
  have h1 := il_len (n := n) (s := s) (L := L) (K := K) (V := V) (j + 1)
  rw [il_next h] at h1
  simp only [List.length_append] at h1
  omega
theorem im_sub {n : Int} {s : ByteArray} {L : List VT} {K : List ByteArray} {V : List VT} (hK : K.length = V.length) {j : Nat} {t : VT} {c : ByteArray} (h : V[j]? = some t) (g : K[j]? = some c) : (ivT t).length + (pkB c.data.toList).length ≤ (ivT (.mk 6 n s L K V)).length := by
  have h1 := im_len (n := n) (s := s) (L := L) (K := K) (V := V) hK (j + 1)
  rw [im_next h g] at h1
  simp only [List.length_append] at h1
  omega
end Go.Proofs.YtiaepihdfbahaaaGreatDoor
