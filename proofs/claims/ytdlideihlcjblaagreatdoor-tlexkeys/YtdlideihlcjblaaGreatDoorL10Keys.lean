/- The statement TlexKeys: walked. -/
import Derived.Test.YtdlideihlcjblaaGreatDoorL10A
import Derived.Test.YtdlideihlcjblaaGreatDoorRtB
import Derived.Test.YtdlideihlcjblaaGreatDoorEscRTT
namespace Go.Proofs.YtdlideihlcjblaaGreatDoor
open Go.RowKit

/-- two rows of texts, held against each other -/
theorem row_any {w : World} {base : Nat} {v : Value} {l : List (List UInt8)} (h : w.ownsRow base 9 1 v l.length (strV l)) : ∃ o cap, v = .slice o l.length cap ∧ ∀ (j : Nat) p, l[j]? = some p → ∃ g, o = some ⟨g, 0, none⟩ ∧ w.cell? ⟨g, j, none⟩ = some (.string (mkS p)) := by
  rcases h with ⟨h0, ⟨rfl, h1⟩ | ⟨g, cap, cur, rfl, h2⟩⟩
  · refine ⟨none, 0, by rw [h1], fun j p hj => ?_⟩
    have := (List.getElem?_eq_some_iff.1 hj).1
    omega
  · have hh : w.ownsRow base 9 1 (.slice (some ⟨g, 0, none⟩) l.length cap) l.length (strV l) := ⟨h0, Or.inr ⟨g, cap, cur, rfl, h2⟩⟩
    refine ⟨_, cap, rfl, fun j p hj => ⟨g, rfl, ?_⟩⟩
    have hlt := (List.getElem?_eq_some_iff.1 hj).1
    rw [hh.cellAt j (by omega), strV, List.getElem?_map, hj]; rfl
set_option maxRecDepth 100000 in
set_option maxHeartbeats 4000000 in
theorem texts_same (l : List (List UInt8)) (o o' : Option Addr) (cap cap' : Nat) (w : World) (hl : l.length ≤ 1000000)
    (h : ∀ (j : Nat) p, l[j]? = some p → ∃ g, o = some ⟨g, 0, none⟩ ∧ w.cell? ⟨g, j, none⟩ = some (.string (mkS p)))
    (h' : ∀ (j : Nat) p, l[j]? = some p → ∃ g, o' = some ⟨g, 0, none⟩ ∧ w.cell? ⟨g, j, none⟩ = some (.string (mkS p))) :
    Calls Tryz.prog 16 #[.slice o l.length cap, .slice o' l.length cap'] w fun e w' => e = .returned (.bool true) ∧ Below w.heap.size w w' := by
  have H1 := hid h
  have H2 := hid h'
  have HLL := hid (rfl : l.length = l.length)
  clear h h'
  obtain ⟨n, hn⟩ : ∃ n, l.length = n := ⟨_, rfl⟩
  have HN := hid hn
  rw [hn] at hl ⊢
  clear hn HLL
  go_enter Tryz.func16, Tryz.ntmps16
  go_wp2_with fail
  go_loopw [5] (fun x wr => ∃ k : Nat, k ≤ n ∧ x = .int .i64 (k : Int) ∧ Hid (Below w.heap.size w wr)) (fun x _ => n - (intOf x).toNat)
  case atStart => exact ⟨0, Nat.zero_le _, rfl, Below.refl _ _⟩
  case round =>
    obtain ⟨k, hk, rfl, HB⟩ := hrel
    by_cases hlt : k < n
    · obtain ⟨p, hp⟩ : ∃ p, l[k]? = some p := ⟨_, List.getElem?_eq_getElem (by rw [HN.out]; exact hlt)⟩
      obtain ⟨g, rfl, c1⟩ := H1.out k p hp
      obtain ⟨g', rfl, c2⟩ := H2.out k p hp
      replace c1 := keepCell HB.out c1
      replace c2 := keepCell HB.out c2
      generalize mkS p = m at *
      clear hp
      go_wp2_with fail
      go_quiet (fail)
      go_wp2_with fail
      go_round
      case rel => exact ⟨k + 1, hlt, val_int (by omega), eonto HB.out (tdrew_below _ _)⟩
      case measure => simp [intOf]; omega
    · go_wp2_with fail
      go_ret
      exact ⟨rfl, HB.out⟩
theorem kyA_len (T : List UInt8) (a : Int) : (kyA T a).1.length ≤ T.length := by
  have key : ∀ (f a : Nat) (acc : List (List UInt8)), acc.length ≤ a → a ≤ T.length → (kyT T f a acc).1.length ≤ T.length := by
    intro f
    induction f with
    | zero => intro a acc _ _; rw [kyT]; simp
    | succ f ih =>
      intro a acc h1 h2
      rw [kyT]
      by_cases hb : 0 ≤ (kpT T a).2.2
      · rw [if_pos hb]; simp
      · rw [if_neg hb]
        have h3 := kpT_in T a (by omega)
        have h4 := kdP_le T _ h3.2
        by_cases hd : bt T (kdP T (kpT T a).2.1) = 46
        · rw [if_pos hd]
          have h5 := bt_lt (l := T) (k := kdP T (kpT T a).2.1) (by rw [hd]; decide)
          have h6 := kdP_le T (kdP T (kpT T a).2.1 + 1) (by omega)
          exact ih _ _ (by rw [List.length_append]; simp; omega) h6.2
        · rw [if_neg hd]; simp only [List.length_append, List.length_cons, List.length_nil]; omega
  unfold kyA
  split
  · simp
  · next h =>
    have := tplc_in T a
    exact key _ _ _ (Nat.zero_le _) (by omega)
theorem rtunq_all : RtUnq := fun t a w ht ha hq => rtunq_in _ t a w ht ha hq rfl
theorem rkey_any (t : ByteArray) (a : Int) (w : World) (ht : t.size ≤ 1000000) :
    Calls Tryz.prog 15 #[.string t, .int .i64 a] w (KeyPost w (kyA t.data.toList a)) := by
  have HZ := hid (size_list t)
  by_cases ha : a ≠ plc t.data.toList a
  · have HR : kyA t.data.toList a = ([], 0, plc t.data.toList a) := by unfold kyA; rw [if_pos ha]
    rw [HR]
    by_cases h0 : a < 0
    · have e : plc t.data.toList a = 0 := by unfold plc; rw [if_pos h0]
      rw [e]
      clear ha HR e
      go_enter Tryz.func15, Tryz.ntmps15
      go_wp2_with fail
      go_ret3
      exact key_nil _ _ 0 _ (Below.refl _ _)
    · have h1 : (t.size : Int) < a := by
        unfold plc at ha; rw [if_neg h0, HZ.out] at ha
        by_cases k : (t.size : Int) < a
        · exact k
        · rw [if_neg k] at ha; exact absurd rfl ha
      have e : plc t.data.toList a = (t.size : Int) := by unfold plc; rw [if_neg h0, HZ.out, if_pos h1]
      rw [e]
      clear ha HR e
      go_enter Tryz.func15, Tryz.ntmps15
      go_wp2_with fail
      go_ret3
      exact key_nil _ _ 0 _ (Below.refl _ _)
  · have ha2 : a = plc t.data.toList a := Classical.not_not.1 ha
    have hin := tplc_in t.data.toList a
    rw [← ha2, HZ.out] at hin
    obtain ⟨n, rfl⟩ : ∃ n : Nat, a = (n : Int) := ⟨a.toNat, by omega⟩
    have HR : kyA t.data.toList (n : Int) = kyT t.data.toList (t.data.toList.length + 1) n [] := by unfold kyA; rw [if_neg ha]; rfl
    rw [HR]
    exact rkey_in rtunq_all t n w ht (by omega)
set_option maxRecDepth 100000 in
set_option maxHeartbeats 4000000 in
theorem Tryz.tlexKeys_walk (t : ByteArray) (a : Int) (_w0 : t.size ≤ maxLen) (_w1 : (Lit.int .i64 a).wf = true) (w : World) (hg : GlobN w) :
    Calls Tryz.prog 4 #[.string t, .int .i64 a] w fun e w' => e = .returned (.bool true) ∧ Below w.heap.size w w' := by
  have CA := hid (awake10 w hg)
  by_cases h : t.size ≤ 500
  · have h500 : ¬ 500 < (t.size : Int) := by omega
    have C1 := hid (fun X => tkey_any t a X (by omega))
    have C2 := hid (fun X => rkey_any t a X (by omega))
    have C3 := hid (fun X => tskip_any t a false X (by omega))
    have C4 := hid (fun X => rskip_any t a false X (by omega))
    have C5 := hid (fun X => tskip_any t a true X (by omega))
    have C6 := hid (fun X => rskip_any t a true X (by omega))
    have hlen := kyA_len t.data.toList a
    rw [size_list] at hlen
    generalize kyA t.data.toList a = R at *
    generalize skA false t.data.toList a = s1 at *
    generalize skA true t.data.toList a = s2 at *
    obtain ⟨l, n, bad⟩ := R
    simp only at hlen
    go_enter Tryz.func4, Tryz.ntmps4
    go_wp2_with fail
    go_at_call 10
    refine CA.out.mono ?_
    rintro e w0 ⟨rfl, hb0⟩
    have HB0 := hid hb0
    clear hb0 CA
    go_wp2_with fail
    go_at_call 14
    refine (C1.out _).mono ?_
    rintro e w1 ⟨v, rfl, ho, hb1⟩
    obtain ⟨o1, cap1, rfl, hc1⟩ := row_any ho
    have H1 := hid hc1
    have HB1 := hid (eonto HB0.out hb1)
    clear hb1 ho hc1 HB0
    simp only
    go_wp2_with fail
    go_at_call 15
    refine (C2.out _).mono ?_
    rintro e w2 ⟨v, rfl, ho, hb2⟩
    obtain ⟨o2, cap2, rfl, hc2⟩ := row_any ho
    have H2 := hid hc2
    have H3 := hid (show ∀ (j : Nat) p, l[j]? = some p → ∃ g, o1 = some ⟨g, 0, none⟩ ∧ w2.cell? ⟨g, j, none⟩ = some (.string (mkS p)) from fun j p hj => by
      obtain ⟨g, e1, e2⟩ := H1.out j p hj
      exact ⟨g, e1, keepCell hb2 e2⟩)
    have HB2 := hid (eonto HB1.out hb2)
    clear hb2 ho hc2 HB1 H1
    have CT := hid (texts_same l o1 o2 cap1 cap2 w2 (by omega) H3.out H2.out)
    simp only
    go_wp2_with (first
      | (go_at_call 16; go_must (refine CT.out.mono ?_; rintro e w3 ⟨rfl, hb3⟩))
      | (go_at_call 17; go_must (first | ((with_reducible refine (C3.out _).mono ?_); rintro e w4 ⟨rfl, hb4⟩) | ((with_reducible refine (C5.out _).mono ?_); rintro e w5 ⟨rfl, hb5⟩)))
      | (go_at_call 18; go_must (first | ((with_reducible refine (C4.out _).mono ?_); rintro e w6 ⟨rfl, hw⟩; obtain rfl := hw.symm) | ((with_reducible refine (C6.out _).mono ?_); rintro e w6 ⟨rfl, hw⟩; obtain rfl := hw.symm))))
    go_ret
    exact ⟨rfl, eonto (eonto (eonto HB2.out hb3) hb4) hb5⟩
  · have h500 : 500 < (t.size : Int) := by omega
    go_enter Tryz.func4, Tryz.ntmps4
    go_wp2_with (go_at_call 10; go_must (refine CA.out.mono ?_; rintro e w0 ⟨rfl, hb0⟩))
    go_ret
    exact ⟨rfl, hb0⟩
end Go.Proofs.YtdlideihlcjblaaGreatDoor
