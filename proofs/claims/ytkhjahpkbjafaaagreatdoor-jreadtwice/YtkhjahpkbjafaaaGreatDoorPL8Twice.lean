/- A key twice: JreadTwice walked. -/
import Derived.Test.YtkhjahpkbjafaaaGreatDoorPMathTwice
import Derived.Test.YtkhjahpkbjafaaaGreatDoorPRefDecE
import Derived.Test.YtkhjahpkbjafaaaGreatDoorPRefVal5
import Derived.Test.YtkhjahpkbjafaaaGreatDoorPL8Base
namespace Go.Proofs.YtkhjahpkbjafaaaGreatDoor
open Go.RowKit

set_option maxRecDepth 100000 in
set_option maxHeartbeats 1000000 in
theorem key2_any (key : ByteArray) (i : Nat) (w : World) (hi : i ≤ 10) :
    Calls Tryz.prog 24 #[.string key, .int .i64 (i : Int)] w fun e w' => e = .returned (.string (mkS (k2B key.data.toList i))) ∧ Below w.heap.size w w' := by
  have CT := hid (fun X => text_any (i : Int) X (by omega) (by omega))
  obtain ⟨x, hx⟩ : ∃ x, mkS (txt (i : Int)) = x := ⟨_, rfl⟩
  rw [hx] at CT
  have hxs : x.size ≤ 30 := by rw [← hx, mkS_size]; have := txt_short (i : Int) (by omega); omega
  have hE : (⟨#[110]⟩ : ByteArray) ++ x = mkS (110 :: txt (i : Int)) := by rw [← hx, show (⟨#[110]⟩ : ByteArray) = mkS [110] from rfl, mkS_app]; rfl
  by_cases h : 110 :: txt (i : Int) = key.data.toList
  · have hb : (((⟨#[110]⟩ : ByteArray) ++ x).toList == key.toList) = true := by
      rw [ByteArray.toList_eq, ByteArray.toList_eq, hE, mkS_list, h]; simp
    have HR := hid (show mkS (k2B key.data.toList i) = ⟨#[109]⟩ by unfold k2B; rw [if_pos h]; rfl)
    rw [HR.out]
    clear h hE hx
    go_enter Tryz.func24, Tryz.ntmps24
    go_wp2_with (go_at_call 19; go_must (refine (CT.out _).mono ?_; rintro e w1 ⟨rfl, hb1⟩))
    go_ret
    exact ⟨rfl, hb1⟩
  · have hb : (((⟨#[110]⟩ : ByteArray) ++ x).toList == key.toList) = false := by
      rw [ByteArray.toList_eq, ByteArray.toList_eq, hE, mkS_list]; simpa using h
    have HR := hid (show mkS (k2B key.data.toList i) = (⟨#[110]⟩ : ByteArray) ++ x by unfold k2B; rw [if_neg h, hE])
    rw [HR.out]
    clear h hE hx
    go_enter Tryz.func24, Tryz.ntmps24
    go_wp2_with (go_at_call 19; go_must (refine (CT.out _).mono ?_; rintro e w1 ⟨rfl, hb1⟩))
    go_ret
    exact ⟨rfl, hb1⟩
theorem clN_at {n a : Nat} (h : a ≤ n) : clN n (a : Int) = a := by unfold clN; omega
theorem qt_short {s : List UInt8} {n : Nat} (h : s.length ≤ n) : (qtA false s).length ≤ 6 * n + 2 := by
  unfold qtA
  have h2 := qtK_len false s (cnt s)
  have h3 := cnt_le s
  rw [List.length_append, List.length_singleton]; omega
set_option maxRecDepth 100000 in
set_option maxHeartbeats 4000000 in
theorem Tryz.jreadTwice_walk (key : ByteArray) (n : Int) (_w0 : key.size ≤ maxLen) (_w1 : (Lit.int .i64 n).wf = true) (w : World) (hgs : Globs w) :
    Calls Tryz.prog 6 #[.string key, .int .i64 n] w fun e w' => e = .returned (.bool true) ∧ Below w.heap.size w w' := by
  obtain ⟨hg, hu⟩ := hgs
  have CA := hid (awake8 w hg hu)
  have CP := hid (fun (t : ByteArray) X (ht : t.size ≤ 1000000) (hX : Below w.heap.size w X) => jparse_any t X ht (hg.on hX) (hu.on hX))
  have CS := hid (fun X => str_any key X _w0)
  clear hg hu
  unfold maxLen at _w0
  go_enter Tryz.func6, Tryz.ntmps6
  go_wp2_with fail
  go_at_call 14
  refine CA.out.mono ?_
  rintro e w0 ⟨rfl, hb0⟩
  go_wp2_with fail
  go_at_call 17
  refine (CS.out _).mono ?_
  rintro e w1 ⟨rfl, hb1⟩
  have HB1 := hid (vonto hb0 hb1)
  clear hb0 hb1 CA CS
  cases hso : strOkB key with
  | false =>
    go_wp2_with fail
    go_ret
    exact ⟨rfl, HB1.out⟩
  | true =>
  obtain ⟨hvl, hte⟩ := str_vl hso
  have HVL := hid hvl
  have HTE := hid hte
  clear hso hvl hte
  by_cases h1 : 60 < key.size
  · go_wp2_with fail
    go_ret
    exact ⟨rfl, HB1.out⟩
  by_cases h2 : n < 0
  · go_wp2_with fail
    go_ret
    exact ⟨rfl, HB1.out⟩
  by_cases h3 : 10 < n
  · go_wp2_with fail
    go_ret
    exact ⟨rfl, HB1.out⟩
  obtain ⟨N, rfl⟩ : ∃ N : Nat, n = N := ⟨n.toNat, by omega⟩
  have CQ := hid (fun X => print_leaf 4 0 key [] [] [] none none 0 0 none X (by decide) (str_node HTE.out) (by decide) (by decide))
  have hE : txs (tkV none (.mk 4 0 key [] [] [])) = qtA false key.data.toList := by rw [tkV]; simp [tkS, txs, Tk.tx]
  rw [hE] at CQ
  simp only [List.length_nil, inI] at CQ
  obtain ⟨k, hk⟩ : ∃ k, mkS (qtA false key.data.toList) = k := ⟨_, rfl⟩
  rw [hk] at CQ
  have hks : k.size ≤ 400 := by rw [← hk, mkS_size]; have := qt_short (s := key.data.toList) (n := 60) (by rw [size_list]; omega); omega
  have HK := hid hk
  clear hE hk _w0 _w1
  go_wp2_with fail
  go_at_call 18
  refine (CQ.out _).mono ?_
  rintro e w2 ⟨rfl, hb2⟩
  have HB2 := hid (vonto HB1.out hb2)
  clear hb2 CQ HB1
  go_wp2_with fail
  go_loopw [6, 7] (fun sv iv wr => ∃ (j : Nat) (m : ByteArray), j ≤ N ∧ iv = .int .i64 j ∧ sv = .string m ∧ m.size ≤ 4400 ∧ Hid (m = mkS (twB key.data.toList j)) ∧ Hid (Below w.heap.size w wr)) (fun _ iv _ => N - (intOf iv).toNat)
  case atStart =>
    refine ⟨0, _, Nat.zero_le _, rfl, rfl, ?_, ?_, HB2.out⟩
    · rw [ByteArray.size_append, ByteArray.size_append]; show 1 + k.size + 2 ≤ _; omega
    · show _ = _
      rw [twB_zero, ← HK.out, show (⟨#[123]⟩ : ByteArray) = mkS [123] from rfl, show (⟨#[58, 48]⟩ : ByteArray) = mkS [58, 48] from rfl, mkS_app, mkS_app]
      rfl
  case round =>
    obtain ⟨j, m, hj, rfl, rfl, hms, HM, HB⟩ := hrel
    have HLEN : Hid (∀ i ≤ 10, (twB key.data.toList i).length ≤ 400 + i * 400) := fun i hi => twB_len _ (by rw [size_list]; omega) i hi
    by_cases hlt : j < N
    · have CK := hid (fun X => key2_any key j X (by omega))
      obtain ⟨k2, hk2⟩ : ∃ k2, mkS (k2B key.data.toList j) = k2 := ⟨_, rfl⟩
      rw [hk2] at CK
      have hz2 : k2.size ≤ 2 := by rw [← hk2, mkS_size]; exact (k2_plain _ j (by omega)).2.1
      have HK2 := hid hk2
      have HNX := hid (twB_next key.data.toList j (by omega))
      clear hk2
      go_wp2_with (go_at_call 24; go_must (refine (CK.out _).mono ?_; rintro e w3 ⟨rfl, hb3⟩))
      go_roundw
      case rel =>
        have hq : m ++ (⟨#[44, 34]⟩ : ByteArray) ++ k2 ++ (⟨#[34, 58, 123]⟩ : ByteArray) ++ k ++ (⟨#[58, 49, 125]⟩ : ByteArray) = mkS (twB key.data.toList (j + 1)) := by
          rw [HNX.out, HM.out, ← HK2.out, ← HK.out, show (⟨#[44, 34]⟩ : ByteArray) = mkS [44, 34] from rfl, show (⟨#[34, 58, 123]⟩ : ByteArray) = mkS [34, 58, 123] from rfl, show (⟨#[58, 49, 125]⟩ : ByteArray) = mkS [58, 49, 125] from rfl, mkS_app, mkS_app, mkS_app, mkS_app, mkS_app]
          simp only [List.append_assoc]
        exact ⟨j + 1, _, by omega, val_int (by omega), rfl, by rw [hq, mkS_size]; have := HLEN.out (j + 1) (by omega); omega, hq, vonto HB.out hb3⟩
      case measure => simp [intOf]; omega
    · obtain rfl : j = N := by omega
      obtain ⟨T1, m1, z1, hr1⟩ := tw_reads key.data.toList HVL.out (by rw [size_list]; omega) j (by omega)
      have hr2 := tw_twice key.data.toList HVL.out (by rw [size_list]; omega) j (by omega)
      have hml : m.size = (twB key.data.toList j).length := by rw [HM.out, mkS_size]
      have e1 : (m ++ (⟨#[125]⟩ : ByteArray)).data.toList = twB key.data.toList j ++ [125] := by
        rw [HM.out, show (⟨#[125]⟩ : ByteArray) = mkS [125] from rfl, mkS_app, mkS_list]
      have e2 : (m ++ (⟨#[44]⟩ : ByteArray) ++ k ++ (⟨#[58, 50, 125]⟩ : ByteArray)).data.toList = twB key.data.toList j ++ ([44] ++ (qtA false key.data.toList ++ [58, 50, 125])) := by
        rw [HM.out, ← HK.out, show (⟨#[44]⟩ : ByteArray) = mkS [44] from rfl, show (⟨#[58, 50, 125]⟩ : ByteArray) = mkS [58, 50, 125] from rfl, mkS_app, mkS_app, mkS_app, mkS_list]
        simp only [List.append_assoc]
      have C1 := hid (fun X (hX : Below w.heap.size w X) => CP.out (m ++ (⟨#[125]⟩ : ByteArray)) X (by rw [ByteArray.size_append]; show m.size + 1 ≤ _; omega) hX)
      have C2 := hid (fun X (hX : Below w.heap.size w X) => CP.out (m ++ (⟨#[44]⟩ : ByteArray) ++ k ++ (⟨#[58, 50, 125]⟩ : ByteArray)) X (by rw [ByteArray.size_append, ByteArray.size_append, ByteArray.size_append]; show m.size + 1 + k.size + 3 ≤ _; omega) hX)
      rw [e1, hr1] at C1
      rw [e2, hr2, ← hml] at C2
      have hx := clN_at (n := (m ++ (⟨#[44]⟩ : ByteArray) ++ k ++ (⟨#[58, 50, 125]⟩ : ByteArray)).size) (a := m.size + 1) (by rw [ByteArray.size_append, ByteArray.size_append, ByteArray.size_append]; show m.size + 1 ≤ m.size + 1 + k.size + 3; omega)
      have hfv : faultV (m ++ (⟨#[44]⟩ : ByteArray) ++ k ++ (⟨#[58, 50, 125]⟩ : ByteArray)) ((m.size + 1 : Nat) : Int) ((5 : Nat) : Int) = .agg #[.int .i64 5, .int .i64 ((m.size : Int) + 1), .int .i64 (ofL (m ++ (⟨#[44]⟩ : ByteArray) ++ k ++ (⟨#[58, 50, 125]⟩ : ByteArray)) ((m.size + 1 : Nat) : Int)), .int .i64 (ofC (m ++ (⟨#[44]⟩ : ByteArray) ++ k ++ (⟨#[58, 50, 125]⟩ : ByteArray)) ((m.size + 1 : Nat) : Int))] := by
        unfold faultV; rw [hx]; rfl
      generalize ofL (m ++ (⟨#[44]⟩ : ByteArray) ++ k ++ (⟨#[58, 50, 125]⟩ : ByteArray)) ((m.size + 1 : Nat) : Int) = fy at hfv
      generalize ofC (m ++ (⟨#[44]⟩ : ByteArray) ++ k ++ (⟨#[58, 50, 125]⟩ : ByteArray)) ((m.size + 1 : Nat) : Int) = fz at hfv
      unfold Jq at C1 C2
      simp only [hfv] at C2
      clear e1 e2 hr1 hr2 hml hfv hx HM HK HLEN HVL HTE CP hlt
      go_wp2_with fail
      go_at_call 15
      refine (C1.out _ HB.out).mono ?_
      rintro e w3 ⟨o, nn, c, o', nn', c', rfl, -, hb3⟩
      have HB3 := hid (vonto HB.out hb3)
      clear hb3 C1
      simp only [vv]
      go_wp2_with fail
      go_at_call 15
      obtain ⟨f0, f1, f2, f3⟩ := fault_cells w3 (.cells #[.int .i64 T1.kd, .int .i64 T1.nm, .string T1.st, .slice o nn c, .slice o' nn' c'] 27) 0 0 0 0
      refine (C2.out _ (valloc_bel (valloc_bel HB3.out _) _)).mono ?_
      rintro e w4 ⟨rfl, hb4⟩
      have HB4 := hid (vonto (valloc_bel (valloc_bel HB3.out (.cells #[.int .i64 T1.kd, .int .i64 T1.nm, .string T1.st, .slice o nn c, .slice o' nn' c'] 27)) (.cells #[.int .i64 0, .int .i64 0, .int .i64 0, .int .i64 0] 30)) hb4)
      have hk4 := valloc_bel (valloc_bel (Below.refl w4.heap.size w4) (.cells #[.int .i64 0, .int .i64 0, .string ⟨#[]⟩, .slice none 0 0, .slice none 0 0] 27)) (.cells #[.int .i64 5, .int .i64 ((m.size : Int) + 1), .int .i64 fy, .int .i64 fz] 30)
      replace f0 := keepCell hk4 (keepCell hb4 f0)
      replace f1 := keepCell hk4 (keepCell hb4 f1)
      replace f2 := keepCell hk4 (keepCell hb4 f2)
      replace f3 := keepCell hk4 (keepCell hb4 f3)
      obtain ⟨g0, g1, -, -⟩ := fault_cells w4 (.cells #[.int .i64 0, .int .i64 0, .string ⟨#[]⟩, .slice none 0 0, .slice none 0 0] 27) 5 ((m.size : Int) + 1) fy fz
      have HB5 := hid (vonto HB4.out hk4)
      clear hb4 hk4 HB4 C2
      simp only [vv, zeroT, VT.kd, VT.nm, VT.st]
      go_upto_region 13 with fail
      generalize ((w4.alloc (.cells #[.int .i64 0, .int .i64 0, .string ⟨#[]⟩, .slice none 0 0, .slice none 0 0] 27)).alloc (.cells #[.int .i64 5, .int .i64 ((m.size : Int) + 1), .int .i64 fy, .int .i64 fz] 30)) = W5 at f0 f1 f2 f3 g0 g1 HB5 ⊢
      go_wp2_with fail
      go_ret
      exact ⟨by first | rfl | exact ret_bool (by simp), HB5.out⟩
end Go.Proofs.YtkhjahpkbjafaaaGreatDoor
