/- The document's own one form of a number, walked: Canon. -/
import Derived.Test.YtnabdepplpaabaaDoorRefDecD
import Derived.Test.YtnabdepplpaabaaDoorRefDecE
namespace Go.Proofs.YtnabdepplpaabaaDoor
open Go.RowKit

theorem ret_sb {x y : ByteArray} {a b : Bool} (h : x = y) (g : a = b) : Ending.returned (.tuple #[.string x, .bool a]) = .returned (.tuple #[.string y, .bool b]) := by rw [h, g]
theorem mkS_take (l : List UInt8) (k : Nat) : (mkS l).extract 0 k = mkS (l.take k) := mkS_of _ _ (by rw [cut_list, mkS_list])
theorem mkS_drop (l : List UInt8) (k : Nat) : (mkS l).extract k (mkS l).size = mkS (l.drop k) := mkS_of _ _ (by rw [drop_list, mkS_list])
theorem lit_mk (a : UInt8) : (⟨#[a]⟩ : ByteArray) = mkS [a] := rfl
set_option maxRecDepth 100000 in
set_option maxHeartbeats 1000000 in
theorem canon_any (s : ByteArray) (w : World) (hs : s.size ≤ maxLen) :
    Calls Tryd.prog 14 #[.string s] w fun e w' => e = .returned (.tuple #[.string (mkS (canV s.data.toList)), .bool (numB s.data.toList)]) ∧ Below w.heap.size w w' := by
  have hN := hid (fun w => number_any s w hs)
  have hS := hid (fun w (h : numB s.data.toList = true) => scaled_any s w (num_size h) (num_ok h))
  have hlen := size_list s
  obtain ⟨l, hl⟩ : ∃ l, s.data.toList = l := ⟨_, rfl⟩
  rw [hl] at hlen hN hS ⊢
  clear hl
  cases hn : numB l with
  | false =>
    have H := hid (show canV l = [] by unfold canV; rw [hn]; rfl)
    go_enter Tryd.func14, Tryd.ntmps14
    go_wp2_with (go_at_call 16; go_must (refine (hN.out _).mono ?_; rintro e w' ⟨rfl, hw⟩; obtain rfl := hw.symm; rw [hn]))
    go_ret2
    exact ⟨ret_sb (by rw [H.out]; rfl) rfl, Below.refl _ _⟩
  | true =>
    have HS := hid (fun w => hS.out w hn)
    have hl4 := num_len hn
    by_cases he : scD l = []
    · have h1 := emp_mk_yes _ he
      have H := hid (show canV l = [48] by unfold canV; rw [hn, if_pos rfl, if_pos he])
      clear he
      go_enter Tryd.func14, Tryd.ntmps14
      go_wp2_with (first
        | (go_at_call 16; go_must (refine (hN.out _).mono ?_; rintro e w' ⟨rfl, hw⟩; obtain rfl := hw.symm; rw [hn]))
        | (go_at_call 27; go_must (refine (HS.out _).mono ?_; rintro e w' ⟨rfl, hw⟩; obtain rfl := hw.symm)))
      go_ret2
      exact ⟨ret_sb (by rw [H.out]; rfl) rfl, Below.refl _ _⟩
    · have h1 := emp_mk_no _ he
      have H := hid (show canV l = canC l by unfold canV; rw [hn, if_pos rfl, if_neg he])
      have HT := hid (scT_bd l (by omega))
      have hdl := scD_len l
      have h0 : 1 ≤ (scD l).length := by
        cases hd : scD l with
        | nil => exact absurd hd he
        | cons => simp
      have hA := canA_len l
      have hB := canB_len l
      clear he
      obtain ⟨d, hd⟩ : ∃ d, mkS (scD l) = d := ⟨_, rfl⟩
      have hds : d.size = (scD l).length := by rw [← hd]; exact mkS_size _
      have hd1 : 1 ≤ d.size := by omega
      have hdm : d.size ≤ 400 := by omega
      obtain ⟨d1, hd1'⟩ : ∃ x, d.extract 0 1 = x := ⟨_, rfl⟩
      obtain ⟨d2, hd2⟩ : ∃ x, d.extract 1 d.size = x := ⟨_, rfl⟩
      have H1 := hid (show d1 = mkS ((scD l).take 1) by rw [← hd1', ← hd]; exact mkS_take _ _)
      have H2 := hid (show d2 = mkS ((scD l).drop 1) by rw [← hd2, ← hd]; exact mkS_drop _ _)
      have hz1 : d1.size ≤ 1 := by rw [← hd1', ByteArray.size_extract]; omega
      have hz2 : d2.size ≤ 399 := by rw [← hd2, ByteArray.size_extract]; omega
      have HDS := hid hds
      rw [hd] at HS h1
      clear hds hd
      obtain ⟨ng, hng⟩ : ∃ b, scN l = b := ⟨_, rfl⟩
      obtain ⟨tp, htp⟩ : ∃ b, scT l = b := ⟨_, rfl⟩
      rw [hng, htp] at HS
      have HNG := hid hng
      have HTP := hid htp
      have HTB := HT.out
      rw [htp] at HTB
      clear hng htp HT
      go_enter Tryd.func14, Tryd.ntmps14
      go_upto_if 23 with (first
        | (go_at_call 16; go_must (refine (hN.out _).mono ?_; rintro e w' ⟨rfl, hw⟩; obtain rfl := hw.symm; rw [hn]))
        | (go_at_call 27; go_must (refine (HS.out _).mono ?_; rintro e w' ⟨rfl, hw⟩; obtain rfl := hw.symm)))
      go_cut [7] from 8 (fun v wx => ∃ x : ByteArray, v = .string x ∧ Hid (x = mkS (canA l)) ∧ x.size ≤ 401 ∧ wx = w)
      case first =>
        by_cases h2 : 1 < d.size
        · go_wp2_with fail
          go_meet
          exact ⟨_, rfl, show _ = _ by rw [H1.out, H2.out, lit_mk, mkS_add, mkS_add]; unfold canA; rw [if_pos (by rw [← HDS.out]; exact h2), List.append_assoc]; rfl, by rw [ByteArray.size_append, ByteArray.size_append]; have : (⟨#[46]⟩ : ByteArray).size = 1 := rfl; omega, rfl⟩
        · go_wp2_with fail
          go_meet
          exact ⟨_, rfl, show _ = _ by rw [H1.out]; unfold canA; rw [if_neg (by rw [← HDS.out]; exact h2), List.append_nil], by omega, rfl⟩
      case rest =>
      obtain ⟨x, rfl, HX, hx, rfl⟩ := hcut
      go_upto_if 29 with fail
      go_cut [7, 4] from 8 (fun v b wx => ∃ x : ByteArray, v = .string x ∧ b = .bool ng ∧ Hid (x = mkS (canB l)) ∧ x.size ≤ 402 ∧ wx = wc)
      case first =>
        cases ng
        · go_wp2_with fail
          go_meet
          exact ⟨_, rfl, rfl, show _ = _ by rw [HX.out]; unfold canB; rw [HNG.out]; rfl, by omega, rfl⟩
        · go_wp2_with fail
          go_meet
          exact ⟨_, rfl, rfl, show _ = _ by rw [HX.out, lit_mk, mkS_add]; unfold canB; rw [HNG.out]; rfl, by rw [ByteArray.size_append]; have : (⟨#[45]⟩ : ByteArray).size = 1 := rfl; omega, rfl⟩
      case rest =>
      obtain ⟨y, rfl, rfl, HY, hy, rfl⟩ := hcut
      by_cases h0 : tp = 0
      · have h2 : (tp != 0) = false := by simpa using h0
        have HC := hid (show y = mkS (canV l) by rw [HY.out, H.out]; unfold canC; rw [HTP.out, if_pos h0])
        clear h0
        go_wp2_with fail
        go_ret2
        exact ⟨ret_sb HC.out rfl, Below.refl _ _⟩
      · have h2 : (tp != 0) = true := by simpa using h0
        have htl : (mkS (txt tp)).size ≤ 20 := by rw [mkS_size]; exact txt_len _ (by omega) (by omega)
        have HC := hid (show y ++ mkS [101] ++ mkS (txt tp) = mkS (canV l) by
          rw [HY.out, H.out, mkS_add, mkS_add, List.append_assoc]; unfold canC; rw [HTP.out, if_neg h0]; rfl)
        clear h0
        go_wp2_with (go_at_call 21; go_must (refine (text_any _ _ (by omega) (by omega)).mono ?_; rintro e w1 ⟨rfl, hb1⟩))
        go_ret2
        exact ⟨ret_sb HC.out rfl, hb1⟩
end Go.Proofs.YtnabdepplpaabaaDoor
