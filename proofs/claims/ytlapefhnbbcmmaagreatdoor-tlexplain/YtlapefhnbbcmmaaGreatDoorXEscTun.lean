/- Keys that rise; pairs: what they take. -/
import Derived.Test.YtlapefhnbbcmmaaGreatDoorXVCopyAll
import Derived.Test.YtlapefhnbbcmmaaGreatDoorXVPlus
import Derived.Test.YtlapefhnbbcmmaaGreatDoorXTlN
import Derived.Test.YtlapefhnbbcmmaaGreatDoorXTlS
import Derived.Test.YtlapefhnbbcmmaaGreatDoorXEscDoc
/- What the statements of chapter 10 ask first: walked. -/
/- How the document's reading of a TOML string goes, said by the pieces. -/
namespace Go.Proofs.YtlapefhnbbcmmaaGreatDoor
open Go.RowKit

/-- in order by their keys -/
def Rising (A : List (ByteArray × VT)) : Prop := ∀ (i j : Nat) (a b : ByteArray × VT), i < j → A[i]? = some a → A[j]? = some b → ltB b.1.data.toList a.1.data.toList = false
/-- the map that is made of pairs in order, or nothing -/
def mapR (A : List (ByteArray × VT)) : VT := if keI (A.map (·.1)) = 0 then .mk 6 0 ⟨#[]⟩ [] (A.map (·.1)) (A.map (·.2)) else zeroT
end Go.Proofs.YtlapefhnbbcmmaaGreatDoor
namespace Go.Proofs.YtlapefhnbbcmmaaGreatDoor
open Go.RowKit

theorem aw_key : kyA [97, 46, 34, 98, 32, 99, 34, 46, 100] 0 = ([[97], [98, 32, 99], [100]], 9, -1) := by kernel_rfl
theorem aw_pl : (plT [48, 120, 49, 70] 0).V = .tuple #[.agg #[.int .i64 2, .int .i64 31, .string ⟨#[]⟩, nilS, nilS], .int .i64 4, .int .i64 0, .int .i64 0] := by kernel_rfl
theorem aw_nu : vv (tnR [49, 95, 48, 48, 48, 46, 53]) nilS nilS = .agg #[.int .i64 3, .int .i64 0, .string ⟨#[49, 48, 48, 48, 46, 53]⟩, nilS, nilS] ∧ tnE [49, 95, 48, 48, 48, 46, 53] = 0 := by constructor <;> kernel_rfl
theorem aw_st : stB [50, 48, 50, 52, 45, 48, 50, 45, 50, 57, 84, 49, 48, 58, 48, 48, 58, 48, 48, 90] = true := by kernel_rfl
theorem aw_sk : skA true [32, 9, 35, 32, 120, 10, 121] 0 = 6 := by kernel_rfl
theorem str_is (s : ByteArray) (k : List UInt8) (h : s.data.toList = k) : (s.toList == k) = true := by rw [str_eq s k h]; simp
/-- the parts of a key that lie in a row -/
theorem row_str {w : World} {base : Nat} {v : Value} {l : List (List UInt8)} (h : w.ownsRow base 9 1 v l.length (strV l)) (h0 : 0 < l.length) : ∃ g cap, v = .slice (some ⟨g, 0, none⟩) l.length cap ∧ (∀ (j : Nat) p, l[j]? = some p → w.cell? ⟨g, j, none⟩ = some (.string (mkS p))) := by
  have hs := h
  rcases hs with ⟨-, h1 | ⟨g, cap, cur, rfl, -⟩⟩
  · exact absurd h1.2 (by omega)
  · refine ⟨g, cap, rfl, fun j p hj => ?_⟩
    have hlt := (List.getElem?_eq_some_iff.1 hj).1
    rw [h.cellAt j (by omega), strV, List.getElem?_map, hj]; rfl
set_option maxRecDepth 100000 in
set_option maxHeartbeats 4000000 in
theorem awake10 (w : World) (hg : GlobN w) :
    Calls Tryz.prog 5 #[] w fun e w' => e = .returned (.bool true) ∧ Below w.heap.size w w' := by
  have C1 := tkey_any ⟨#[97, 46, 34, 98, 32, 99, 34, 46, 100]⟩ 0 w (by decide)
  rw [show (⟨#[97, 46, 34, 98, 32, 99, 34, 46, 100]⟩ : ByteArray).data.toList = [97, 46, 34, 98, 32, 99, 34, 46, 100] from rfl, aw_key] at C1
  have C2 := hid (fun X (h : Below w.heap.size w X) => tplain_any ⟨#[48, 120, 49, 70]⟩ 0 X (by decide) (hg.on h))
  rw [show (⟨#[48, 120, 49, 70]⟩ : ByteArray).data.toList = [48, 120, 49, 70] from rfl, aw_pl] at C2
  have C3 := hid (fun X (h : Below w.heap.size w X) => tnumber_any ⟨#[49, 95, 48, 48, 48, 46, 53]⟩ X (by decide) (hg.on h))
  rw [show (⟨#[49, 95, 48, 48, 48, 46, 53]⟩ : ByteArray).data.toList = [49, 95, 48, 48, 48, 46, 53] from rfl, aw_nu.1, aw_nu.2] at C3
  have C4 := hid (fun X (h : Below w.heap.size w X) => tstamp_any ⟨#[50, 48, 50, 52, 45, 48, 50, 45, 50, 57, 84, 49, 48, 58, 48, 48, 58, 48, 48, 90]⟩ X (by decide) (hg.t.m.on h))
  rw [show (⟨#[50, 48, 50, 52, 45, 48, 50, 45, 50, 57, 84, 49, 48, 58, 48, 48, 58, 48, 48, 90]⟩ : ByteArray).data.toList = [50, 48, 50, 52, 45, 48, 50, 45, 50, 57, 84, 49, 48, 58, 48, 48, 58, 48, 48, 90] from rfl, aw_st] at C4
  have C5 := hid (fun X => tskip_any ⟨#[32, 9, 35, 32, 120, 10, 121]⟩ 0 true X (by decide))
  rw [show (⟨#[32, 9, 35, 32, 120, 10, 121]⟩ : ByteArray).data.toList = [32, 9, 35, 32, 120, 10, 121] from rfl, aw_sk] at C5
  have C1' := hid C1
  obtain ⟨nb, hnb⟩ : ∃ b : ByteArray, b = ⟨#[49, 48, 48, 48, 46, 53]⟩ := ⟨_, rfl⟩
  rw [← hnb] at C3
  have qn : (nb.toList == [49, 48, 48, 48, 46, 53]) = true := str_is _ _ (by rw [hnb])
  have qk : ((mkS [98, 32, 99]).toList == [98, 32, 99]) = true := str_is _ _ rfl
  clear hnb hg C1
  go_enter Tryz.func5, Tryz.ntmps5
  go_wp2_with fail
  go_at_call 13
  refine C1'.out.mono ?_
  rintro e w1 ⟨v, rfl, hown, hb1⟩
  obtain ⟨g, cap, rfl, hc⟩ := row_str hown (by decide)
  have c1 := hc 1 _ rfl
  have HB1 := hid hb1
  clear hown hc hb1 C1'
  generalize mkS [98, 32, 99] = kb at *
  go_wp2_with fail
  go_at_call 7
  refine (C2.out _ HB1.out).mono ?_
  rintro e w2 ⟨rfl, hb2⟩
  replace c1 := keepCell hb2 c1
  have HB2 := hid (vonto HB1.out hb2)
  clear hb2 HB1
  go_upto_region 3 with fail
  refine wp_gen ?_
  intro W2 hW
  have hk := new_cells w2 [.int .i64 2, .int .i64 31, .string ⟨#[]⟩, .slice none 0 0, .slice none 0 0] 27
  have a1 : W2.cell? ⟨w2.heap.size, 1, none⟩ = some (.int .i64 31) := by rw [hW]; exact (addz _ 1) ▸ hk 1 _ rfl
  have hba : Below w2.heap.size w2 W2 := by rw [hW]; exact valloc_bel (Below.refl _ _) _
  replace c1 := keepCell hba c1
  have HB3 := hid (vonto HB2.out hba)
  clear hW hk hba HB2
  go_wp2_with fail
  go_at_call 6
  refine (C3.out _ HB3.out).mono ?_
  rintro e w4 ⟨rfl, hb4⟩
  replace c1 := keepCell hb4 c1
  replace a1 := keepCell hb4 a1
  have HB4 := hid (vonto HB3.out hb4)
  clear hb4 HB3
  go_upto_region 4 with fail
  refine wp_gen ?_
  intro W4 hW
  have hk := new_cells w4 [.int .i64 3, .int .i64 0, .string nb, .slice none 0 0, .slice none 0 0] 27
  have d0 : W4.cell? ⟨w4.heap.size, 0, none⟩ = some (.int .i64 3) := by rw [hW]; exact (addz _ 0) ▸ hk 0 _ rfl
  have d2 : W4.cell? ⟨w4.heap.size, 2, none⟩ = some (.string nb) := by rw [hW]; exact (addz _ 2) ▸ hk 2 _ rfl
  have hba : Below w4.heap.size w4 W4 := by rw [hW]; exact valloc_bel (Below.refl _ _) _
  replace c1 := keepCell hba c1
  replace a1 := keepCell hba a1
  have HB5 := hid (vonto HB4.out hba)
  clear hW hk hba HB4
  go_wp2_with (first
    | (go_at_call 8; go_must (refine (C4.out _ HB5.out).mono ?_; rintro e w6 ⟨rfl, hb6⟩))
    | (go_at_call 14; go_must (refine (C5.out _).mono ?_; rintro e w7 ⟨rfl, hb7⟩)))
  go_ret
  exact ⟨rfl, vonto (vonto HB5.out hb6) hb7⟩
end Go.Proofs.YtlapefhnbbcmmaaGreatDoor
namespace Go.Proofs.YtlapefhnbbcmmaaGreatDoor
open Go.RowKit

def EE (many : Bool) (q : Nat) (l : List UInt8) : List UInt8 × Nat := if many = true then mE q l else oE q l
def PP (many : Bool) (q : Nat) (l : List UInt8) : List UInt8 × Nat :=
  if bt l 0 = 92 ∧ q = 34 then (if many = true ∧ 0 < fdN l then ([], fdN l) else escP true l)
  else if many = true ∧ 0 < lnE l then (l.take (lnE l), lnE l) else opP l
theorem ee_many (q : Nat) : EE true q = mE q := by funext l; unfold EE; rw [if_pos rfl]
theorem ee_one (q : Nat) : EE false q = oE q := by funext l; unfold EE; rw [if_neg (by decide)]
theorem pp_me : PP true 34 = meP := by
  funext l; unfold PP meP mpP
  by_cases h : bt l 0 = 92
  · rw [if_pos ⟨h, rfl⟩, if_pos h]; simp
  · rw [if_neg (fun hc => h hc.1), if_neg h]; simp
theorem pp_mp : PP true 39 = mpP := by
  funext l; unfold PP mpP
  rw [if_neg (by omega)]; simp
theorem pp_oe : PP false 34 = oeP := by
  funext l; unfold PP oeP
  by_cases h : bt l 0 = 92
  · rw [if_pos ⟨h, rfl⟩, if_pos h]; simp
  · rw [if_neg (fun hc => h hc.1), if_neg h]; simp
theorem pp_op : PP false 39 = opP := by
  funext l; unfold PP
  rw [if_neg (by omega)]; simp
def tStart (many : Bool) (T : List UInt8) (a : Nat) : Nat := if many = true then a + 3 + lnE (T.drop (a + 3)) else a + 1
theorem m3_other {q r : Nat} {l : List UInt8} (h : bt l 0 = q) (hr : q ≠ r) : m3 r l = false := by unfold m3; rw [h, decide_eq_false hr]; rfl
theorem unqT_is (T : List UInt8) (a q : Nat) (h : bt T a = q) (hq : q = 34 ∨ q = 39) : unqT T (a : Int) = rdA (EE (m3 q (T.drop a)) q) (PP (m3 q (T.drop a)) q) T (tStart (m3 q (T.drop a)) T a) := by
  have h0 : bt (T.drop a) 0 = q := by rw [bt_drop]; exact h
  unfold unqT tStart
  rw [Int.toNat_natCast]
  rcases hq with rfl | rfl
  · cases hm : m3 34 (T.drop a) with
    | true => rw [if_pos ⟨by omega, rfl⟩, ee_many, pp_me, if_pos rfl]
    | false =>
      rw [if_neg (by simp), if_neg (by rw [m3_other h0 (by omega)]; simp), if_pos ⟨by omega, h⟩, ee_one, pp_oe, if_neg (by decide)]
  · rw [if_neg (by rw [m3_other h0 (by omega)]; simp)]
    cases hm : m3 39 (T.drop a) with
    | true => rw [if_pos ⟨by omega, rfl⟩, ee_many, pp_mp, if_pos rfl]
    | false => rw [if_neg (by simp), if_neg (by rw [h]; omega), if_pos ⟨by omega, h⟩, ee_one, pp_op, if_neg (by decide)]
theorem tk_ascii {l : List UInt8} (h : bt l 0 < 128) : tkN l = 1 := by
  cases l with
  | nil => rw [bt_nil] at h; omega
  | cons a t =>
    rw [bt_cons] at h
    have hb : begN a.toNat = 1 := by unfold begN; rw [if_pos h]
    have hr : begR a.toNat = a.toNat := by unfold begR; rw [if_pos h]
    have hk : tkOk a t = true := by
      unfold tkOk
      rw [hb, hr]
      simp only [Nat.sub_self, List.take_zero, fol, List.foldl_nil]
      unfold goodN wdN
      rw [if_pos h]
      simp; omega
    simp only [tkN, hk, if_true, hb]
section
variable {many : Bool} {q : Nat} {T : List UInt8} {f i : Nat} {acc : List UInt8}
theorem tu_end1 (hf : T.length < i + f) (hi : i < T.length) (hb : bt (T.drop i) 0 = q) : rd (EE false q) (PP false q) T f i acc = (acc, i + 1, -1) := by
  have h : EE false q (T.drop i) = ([], 1) := by rw [ee_one, oE_yes hb]
  rw [rd_stop hf hi (by rw [h]; decide), h, List.append_nil]
theorem tu_end3 (hf : T.length < i + f) (hi : i < T.length) (hn : ¬ qN q (T.drop i) < 3) : rd (EE true q) (PP true q) T f i acc = (acc ++ (T.drop i).take (qN q (T.drop i) - 3), i + qN q (T.drop i), -1) := by
  have h : EE true q (T.drop i) = ((T.drop i).take (qN q (T.drop i) - 3), qN q (T.drop i)) := by rw [ee_many]; unfold mE; rw [if_neg hn]
  rw [rd_stop hf hi (by rw [h]; show 0 < qN q (T.drop i); omega), h]
theorem pp_quote (hq : q = 34 ∨ q = 39) {l : List UInt8} (hb : bt l 0 = q) : PP many q l = (l.take 1, 1) := by
  have hl : lnE l = 0 := by unfold lnE; rw [if_neg (by omega), if_neg (by omega)]
  unfold PP opP plP
  rw [if_neg (by omega), if_neg (by rw [hl]; omega), if_neg (by omega), tk_ascii (by omega)]
theorem tu_one (hq : q = 34 ∨ q = 39) (hf : T.length < i + f) (hi : i < T.length) (hb : bt (T.drop i) 0 = q) (hn : qN q (T.drop i) < 3) :
    ∃ f', rd (EE true q) (PP true q) T f i acc = rd (EE true q) (PP true q) T f' (i + 1) (acc ++ (T.drop i).take 1) ∧ T.length < i + 1 + f' := by
  have h : (EE true q (T.drop i)).2 = 0 := by rw [ee_many]; unfold mE; rw [if_pos hn]
  obtain ⟨f', h1, h2⟩ := rd_step (P := PP true q) (acc := acc) hf hi h (by rw [pp_quote hq hb]; exact Nat.zero_lt_one)
  rw [pp_quote hq hb] at h1 h2
  exact ⟨f', h1, h2⟩
theorem qN_all (q : Nat) (l : List UInt8) : ∀ j, j < qN q l → bt l j = q := by
  intro j hj
  unfold qN run at hj
  have h1 : (l.take 5).takeWhile (fun b => decide (b.toNat = q)) <+: l.take 5 := List.takeWhile_prefix _
  have hlt : j < (l.take 5).length := Nat.lt_of_lt_of_le hj h1.length_le
  have h2 := List.all_takeWhile (p := fun b : UInt8 => decide (b.toNat = q)) (l := l.take 5)
  have h3 := List.all_eq_true.1 h2 _ (List.getElem_mem hj)
  have h4 : ((l.take 5).takeWhile (fun b => decide (b.toNat = q)))[j] = (l.take 5)[j] := h1.getElem hj
  rw [h4, List.getElem_take] at h3
  rw [List.length_take] at hlt
  rw [bt_some (List.getElem?_eq_getElem (show j < l.length by omega))]
  simpa using h3
theorem qN_stop (q : Nat) (l : List UInt8) (h : qN q l < 5) (hq : q < 256) : bt l (qN q l) ≠ q := by
  intro hc
  have hlt : qN q l < l.length := bt_lt (by rw [hc]; exact hq)
  have hall := qN_all q l
  have h1 : run (fun b => decide (b.toNat = q)) (l.take 5) ≥ qN q l + 1 := by
    unfold run
    have h2 : (l.take 5).takeWhile (fun b => decide (b.toNat = q)) = (l.take (qN q l + 1)) ++ ((l.take 5).drop (qN q l + 1)).takeWhile (fun b => decide (b.toNat = q)) := by
      have h3 : l.take 5 = l.take (qN q l + 1) ++ (l.take 5).drop (qN q l + 1) := by
        have := (List.take_append_drop (qN q l + 1) (l.take 5)).symm
        rw [List.take_take, Nat.min_eq_left (by omega)] at this
        exact this
      have h4 : ∀ b ∈ l.take (qN q l + 1), decide (b.toNat = q) = true := by
        intro b hb
        obtain ⟨k, hk, rfl⟩ := List.getElem_of_mem hb
        rw [List.length_take] at hk
        rw [List.getElem_take]
        have hkl : k < l.length := by omega
        have : bt l k = q := by
          by_cases e : k = qN q l
          · rw [e]; exact hc
          · exact hall k (by omega)
        rw [bt_some (List.getElem?_eq_getElem hkl)] at this
        exact decide_eq_true this
      rw (occs := .pos [1]) [h3]
      exact List.takeWhile_append_of_pos h4
    rw [h2, List.length_append, List.length_take]
    omega
  have h9 : qN q l ≥ qN q l + 1 := h1
  omega
theorem tu_few (hq : q = 34 ∨ q = 39) (hf : T.length < i + f) (hi : i < T.length) (hb : bt (T.drop i) 0 = q) (hn : qN q (T.drop i) < 3) :
    ∃ f', rd (EE true q) (PP true q) T f i acc = rd (EE true q) (PP true q) T f' (i + qN q (T.drop i)) (acc ++ (T.drop i).take (qN q (T.drop i))) ∧ T.length < i + qN q (T.drop i) + f' := by
  have hall := qN_all q (T.drop i)
  have hst := qN_stop q (T.drop i) (by omega) (by omega)
  obtain ⟨f1, h1, h2⟩ := tu_one (acc := acc) hq hf hi hb hn
  by_cases h1n : qN q (T.drop i) = 1
  · rw [h1n]; exact ⟨f1, h1, h2⟩
  · have h0n : qN q (T.drop i) ≠ 0 := by intro h0; rw [h0] at hst; exact hst hb
    have h2n : qN q (T.drop i) = 2 := by omega
    have hb1 : bt (T.drop (i + 1)) 0 = q := by have := hall 1 (by omega); rw [bt_drop] at this ⊢; exact this
    have hi1 : i + 1 < T.length := by have := bt_lt (l := T.drop (i + 1)) (k := 0) (by omega); rw [List.length_drop] at this; omega
    have hq1 : qN q (T.drop (i + 1)) = 1 := by
      refine qN_eq q _ 1 (by omega) (fun j hj => ?_) (by omega) (fun _ => ?_)
      · obtain rfl : j = 0 := by omega
        exact hb1
      · rw [h2n, bt_drop] at hst
        rw [bt_drop]; exact hst
    obtain ⟨f2, h3, h4⟩ := tu_one (acc := acc ++ (T.drop i).take 1) hq h2 hi1 hb1 (by omega)
    refine ⟨f2, ?_, by omega⟩
    rw [h1, h3, h2n]
    have e : (T.drop i).take 2 = (T.drop i).take 1 ++ (T.drop (i + 1)).take 1 := by
      rw [← List.drop_drop, List.take_add (i := 1) (j := 1)]
    rw [e, List.append_assoc]
/-- a letter as it is, or a line's end, or what is wrong -/
def lineB (many : Bool) (l : List UInt8) : Bool := many && decide (0 < lnE l)
def badB (many : Bool) (l : List UInt8) : Prop := tkN l = 0 ∨ ((bt l 0 < 32 ∨ bt l 0 = 127) ∧ bt l 0 ≠ 9 ∧ lineB many l = false)
theorem ee_none (hb : bt (T.drop i) 0 ≠ q) : (EE many q (T.drop i)).2 = 0 := by
  cases many with
  | false => rw [ee_one]; exact oE_no hb
  | true =>
    rw [ee_many]; unfold mE
    have : qN q (T.drop i) = 0 := by
      by_cases h : qN q (T.drop i) = 0
      · exact h
      · exact absurd (qN_all q (T.drop i) 0 (by omega)) hb
    rw [if_pos (by omega)]
theorem tu_bad (hf : T.length < i + f) (hi : i < T.length) (hb : bt (T.drop i) 0 ≠ q) (h92 : ¬ (bt (T.drop i) 0 = 92 ∧ q = 34)) (hbad : badB many (T.drop i)) : rd (EE many q) (PP many q) T f i acc = ([], 0, (i : Int)) := by
  refine rd_wrong hf hi (ee_none hb) ?_
  unfold PP
  rw [if_neg h92]
  unfold badB lineB at hbad
  by_cases hl : many = true ∧ 0 < lnE (T.drop i)
  · obtain ⟨rfl, hl⟩ := hl
    rw [decide_eq_true hl] at hbad
    rcases hbad with h | ⟨-, -, h⟩
    · unfold lnE at hl
      have : bt (T.drop i) 0 = 10 ∨ bt (T.drop i) 0 = 13 := by
        by_cases h1 : bt (T.drop i) 0 = 10
        · exact Or.inl h1
        · rw [if_neg h1] at hl
          by_cases h2 : bt (T.drop i) 0 = 13 ∧ bt (T.drop i) 1 = 10
          · exact Or.inr h2.1
          · rw [if_neg h2] at hl; omega
      rw [tk_ascii (by omega)] at h; omega
    · cases h
  · rw [if_neg hl]
    unfold opP plP
    by_cases h9 : bt (T.drop i) 0 < 32 ∧ bt (T.drop i) 0 ≠ 9 ∨ bt (T.drop i) 0 = 127
    · rw [if_pos h9]
    · rw [if_neg h9]
      rcases hbad with h | ⟨h1, h2, -⟩
      · exact h
      · exact absurd (by omega) h9
theorem tu_plain (hf : T.length < i + f) (hi : i < T.length) (hb : bt (T.drop i) 0 ≠ q) (hq : q = 34 ∨ q = 39) (h92 : ¬ (bt (T.drop i) 0 = 92 ∧ q = 34)) (hbad : ¬ badB many (T.drop i)) :
    ∃ f', rd (EE many q) (PP many q) T f i acc = rd (EE many q) (PP many q) T f' (i + tkN (T.drop i)) (acc ++ (T.drop i).take (tkN (T.drop i))) ∧ T.length < i + tkN (T.drop i) + f' := by
  have hE := ee_none (many := many) hb
  have hPl : ¬ (many = true ∧ 0 < lnE (T.drop i)) → PP many q (T.drop i) = ((T.drop i).take (tkN (T.drop i)), tkN (T.drop i)) := by
    intro hl
    unfold PP
    rw [if_neg h92, if_neg hl]
    unfold opP plP
    rw [if_neg]
    intro h9
    refine hbad (Or.inr ⟨by omega, by omega, ?_⟩)
    unfold lineB
    cases many with
    | false => rfl
    | true =>
      have : ¬ 0 < lnE (T.drop i) := fun h => hl ⟨rfl, h⟩
      rw [decide_eq_false this]; rfl
  have hn0 : tkN (T.drop i) ≠ 0 := fun h => hbad (Or.inl h)
  by_cases hl : many = true ∧ 0 < lnE (T.drop i)
  · obtain ⟨rfl, hl⟩ := hl
    have hP : PP true q (T.drop i) = ((T.drop i).take (lnE (T.drop i)), lnE (T.drop i)) := by unfold PP; rw [if_neg h92, if_pos ⟨rfl, hl⟩]
    by_cases h10 : bt (T.drop i) 0 = 10
    · have e1 : lnE (T.drop i) = 1 := by unfold lnE; rw [if_pos h10]
      rw [e1] at hP
      rw [tk_ascii (by omega)]
      obtain ⟨f', h1, h2⟩ := rd_step (P := PP true q) (acc := acc) hf hi hE (by rw [hP]; exact Nat.succ_pos _)
      rw [hP] at h1 h2
      exact ⟨f', h1, h2⟩
    · have h13 : bt (T.drop i) 0 = 13 ∧ bt (T.drop i) 1 = 10 := by
        unfold lnE at hl
        rw [if_neg h10] at hl
        by_cases h2 : bt (T.drop i) 0 = 13 ∧ bt (T.drop i) 1 = 10
        · exact h2
        · rw [if_neg h2] at hl; omega
      have e2 : lnE (T.drop i) = 2 := by unfold lnE; rw [if_neg h10, if_pos h13]
      rw [e2] at hP
      rw [tk_ascii (by omega)]
      obtain ⟨f1, h1, h2⟩ := rd_step (P := PP true q) (acc := acc) hf hi hE (by rw [hP]; exact Nat.succ_pos _)
      rw [hP] at h1 h2
      have hb1 : bt (T.drop (i + 1)) 0 = 10 := by have := h13.2; rw [bt_drop] at this ⊢; exact this
      have hi1 : i + 1 < T.length := by have := bt_lt (l := T.drop (i + 1)) (k := 0) (by omega); rw [List.length_drop] at this; omega
      have hP1 : PP true q (T.drop (i + 1)) = ((T.drop (i + 1)).take 1, 1) := by
        have e1 : lnE (T.drop (i + 1)) = 1 := by unfold lnE; rw [if_pos hb1]
        unfold PP; rw [if_neg (by omega), if_pos ⟨rfl, by rw [e1]; decide⟩, e1]
      refine ⟨f1 + 1, ?_, by simp only at h2; omega⟩
      have hs : rd (EE true q) (PP true q) T (f1 + 1) (i + 1) (acc ++ (T.drop i).take 1) = rd (EE true q) (PP true q) T f1 (i + 1 + 1) (acc ++ (T.drop i).take 1 ++ (T.drop (i + 1)).take 1) := by
        have hE1 : (EE true q (T.drop (i + 1))).2 = 0 := ee_none (by omega)
        rw [rd, if_neg (by omega), if_neg (by omega), if_neg (by rw [hP1]; exact Nat.one_ne_zero), hP1]
      rw [hs, h1]
      have e : (T.drop i).take 2 = (T.drop i).take 1 ++ (T.drop (i + 1)).take 1 := by
        rw [← List.drop_drop, List.take_add (i := 1) (j := 1)]
      show rd _ _ T f1 (i + 2) (acc ++ (T.drop i).take 2) = _
      rw [e, List.append_assoc]
  · obtain ⟨f', h1, h2⟩ := rd_step (P := PP many q) (acc := acc) hf hi hE (by rw [hPl hl]; show 0 < tkN (T.drop i); omega)
    rw [hPl hl] at h1 h2
    exact ⟨f', h1, h2⟩
theorem tu_fold (hf : T.length < i + f) (hi : i < T.length) (h92 : bt (T.drop i) 0 = 92) (h : 0 < fdM many (T.drop i)) :
    ∃ f', rd (EE many 34) (PP many 34) T f i acc = rd (EE many 34) (PP many 34) T f' (i + fdM many (T.drop i)) acc ∧ T.length < i + fdM many (T.drop i) + f' := by
  have hE := ee_none (many := many) (q := 34) (T := T) (i := i) (by omega)
  obtain rfl : many = true := by
    cases many with
    | true => rfl
    | false => unfold fdM at h; simp at h
  have h' : 0 < fdN (T.drop i) := by unfold fdM at h; rw [if_pos rfl] at h; exact h
  have hP : PP true 34 (T.drop i) = ([], fdN (T.drop i)) := by unfold PP; rw [if_pos ⟨h92, rfl⟩, if_pos ⟨rfl, h'⟩]
  obtain ⟨f', h1, h2⟩ := rd_step (P := PP true 34) (acc := acc) hf hi hE (by rw [hP]; exact h')
  rw [hP, List.append_nil] at h1
  rw [hP] at h2
  have e : fdM true (T.drop i) = fdN (T.drop i) := by unfold fdM; rw [if_pos rfl]
  rw [e]
  exact ⟨f', h1, h2⟩
theorem pp_esc (h92 : bt (T.drop i) 0 = 92) (h : fdM many (T.drop i) = 0) : PP many 34 (T.drop i) = escP true (T.drop i) := by
  unfold PP
  rw [if_pos ⟨h92, rfl⟩, if_neg]
  rintro ⟨rfl, h'⟩
  unfold fdM at h; rw [if_pos rfl] at h; omega
theorem tu_escbad (hf : T.length < i + f) (hi : i < T.length) (h92 : bt (T.drop i) 0 = 92) (h : fdM many (T.drop i) = 0) (hz : (escP true (T.drop i)).2 = 0) : rd (EE many 34) (PP many 34) T f i acc = ([], 0, (i : Int)) :=
  rd_wrong (P := PP many 34) hf hi (ee_none (by omega)) (by rw [pp_esc h92 h]; exact hz)
theorem tu_esc (hf : T.length < i + f) (hi : i < T.length) (h92 : bt (T.drop i) 0 = 92) (h : fdM many (T.drop i) = 0) (hz : 0 < (escP true (T.drop i)).2) :
    ∃ f', rd (EE many 34) (PP many 34) T f i acc = rd (EE many 34) (PP many 34) T f' (i + (escP true (T.drop i)).2) (acc ++ (escP true (T.drop i)).1) ∧ T.length < i + (escP true (T.drop i)).2 + f' := by
  obtain ⟨f', h1, h2⟩ := rd_step (P := PP many 34) (acc := acc) hf hi (ee_none (many := many) (q := 34) (by omega)) (by rw [pp_esc h92 h]; exact hz)
  rw [pp_esc h92 h] at h1 h2
  exact ⟨f', h1, h2⟩
end
end Go.Proofs.YtlapefhnbbcmmaaGreatDoor
