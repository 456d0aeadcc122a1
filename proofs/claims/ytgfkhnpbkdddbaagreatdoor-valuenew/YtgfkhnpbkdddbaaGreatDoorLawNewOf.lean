/- ValueNew, walked over what its callees answer. -/
import Derived.Test.YtgfkhnpbkdddbaaGreatDoorRefCopyW
import Derived.Test.YtgfkhnpbkdddbaaGreatDoorRefVal4
import Derived.Test.YtgfkhnpbkdddbaaGreatDoorRefVal5
import Derived.Test.YtgfkhnpbkdddbaaGreatDoorRefVal2
import Derived.Test.YtgfkhnpbkdddbaaGreatDoorVMap
import Derived.Test.YtgfkhnpbkdddbaaGreatDoorVLike
import Derived.Test.YtgfkhnpbkdddbaaGreatDoorVPairs
namespace Go.Proofs.YtgfkhnpbkdddbaaGreatDoor
open Go.RowKit

theorem list_two (W : World) (T : VT) (x y : Value) (hT : HV W T x y) (hm : szT T ≤ 400000) :
    Calls Tryz.prog 30 #[.slice (some ⟨W.heap.size, 0, none⟩) 2 2] (W.alloc (.cells #[.int .i64 T.kd, .int .i64 T.nm, .string T.st, x, y, .int .i64 T.kd, .int .i64 T.nm, .string T.st, x, y] 28)) fun e w' => ∃ o n c, e = .returned (.agg #[.int .i64 5, .int .i64 0, .string ⟨#[]⟩, .slice o n c, .slice none 0 0]) ∧ HF w' W.heap.size w'.heap.size (.mk 5 0 ⟨#[]⟩ [T, T] [] []) (.slice o n c) (.slice none 0 0) ∧ Below W.heap.size W w' := by
  have hin := in_list W [(T, x, y), (T, x, y)] 28 (fun a ha => by
    simp only [List.mem_cons, List.not_mem_nil, or_false] at ha
    rcases ha with rfl | rfl <;> exact hT) (by show 2 ≤ maxLen; decide)
  refine (vlist_any [T, T] _ _ hin (by simp only [szL]; omega)).mono ?_
  rintro e w' ⟨X, rfl, hf, hb⟩
  obtain ⟨o, n, c, -, -, -, rfl, -⟩ := hv_slices hf.hv
  exact ⟨o, n, c, rfl, hf.wide (by simp) (Nat.le_refl _), vonto (valloc_bel (Below.refl _ _) _) hb⟩
theorem ke_one (c : ByteArray) (h : strOkB c = true) : keI [c] = 0 := by
  rw [te_ok] at h
  have h0 := of_decide_eq_true h
  unfold keI adjB bad3 bad2
  simp [h0]
theorem map_one (W : World) (c : ByteArray) (T : VT) (x y : Value) (hT : HV W T x y) (hc : strOkB c = true) (hcs : c.size ≤ maxLen) (hm : szT T ≤ 400000) :
    Calls Tryz.prog 25 #[.slice (some ⟨W.heap.size, 0, none⟩) 1 1] (W.alloc (.cells #[.string c, .int .i64 T.kd, .int .i64 T.nm, .string T.st, x, y] 42)) fun e w' => ∃ o n c' o' n' c'', e = .returned (.tuple #[.agg #[.int .i64 6, .int .i64 0, .string ⟨#[]⟩, .slice o n c', .slice o' n' c''], .int .i64 0]) ∧ HF w' W.heap.size w'.heap.size (.mk 6 0 ⟨#[]⟩ [] [c] [T]) (.slice o n c') (.slice o' n' c'') ∧ Below W.heap.size W w' := by
  have hin := in_pairs W [(c, T, x, y)] 42 (fun a ha => by
    obtain rfl := List.mem_singleton.1 ha
    exact ⟨hcs, hT⟩) (by show 1 ≤ maxLen; decide)
  refine (vmap_any [(c, T)] _ W.heap.size 0 1 hin (by simp) (by simp only [List.map, szL]; omega)).mono ?_
  rintro e w' ⟨A', X, Y, hp, hr, rfl, hf, hb⟩
  obtain rfl : A' = [(c, T)] := List.perm_singleton.1 hp
  have e0 : keI ([(c, T)].map (·.1)) = 0 := ke_one c hc
  have e1 : mapR [(c, T)] = .mk 6 0 ⟨#[]⟩ [] [c] [T] := by unfold mapR; rw [if_pos e0]; rfl
  rw [e1] at hf ⊢
  rw [e0]
  obtain ⟨o, n, c', o', n', c'', rfl, rfl⟩ := hv_slices hf.hv
  exact ⟨o, n, c', o', n', c'', rfl, hf.wide (by simp) (Nat.le_refl _), vonto (valloc_bel (Below.refl _ _) _) hb⟩
set_option maxRecDepth 100000 in
set_option maxHeartbeats 8000000 in
theorem new_of (AW : ∀ w, Glob w → Calls Tryz.prog 13 #[] w fun e w' => e = .returned (.bool true) ∧ Below w.heap.size w w')
    (T : VT) (x y : Value) (key : ByteArray) (w : World) (hg : Glob w) (hT : HV w T x y) (hkey : key.size ≤ maxLen) :
    Calls Tryz.prog 4 #[vv T x y, .string key] w fun e w' => e = .returned (.bool true) ∧ Below w.heap.size w w' := by
  have HAW := hid AW
  have HG := hid hg
  have HT := hid hT
  have HK := hid hkey
  clear AW hg hkey
  obtain ⟨o1, n1, c1, o2, n2, c2, rfl, rfl⟩ := hv_slices hT
  clear hT
  simp only [vv]
  go_enter Tryz.func4, Tryz.ntmps4
  go_wp2_with fail
  have a3 := bx_new HT.out 28
  have aw : Below w.heap.size w _ := valloc_bel (Below.refl _ _) (.cells #[.int .i64 T.kd, .int .i64 T.nm, .string T.st, .slice o1 n1 c1, .slice o2 n2 c2] 28)
  clear HT
  generalize w.alloc (.cells #[.int .i64 T.kd, .int .i64 T.nm, .string T.st, .slice o1 n1 c1, .slice o2 n2 c2] 28) = V0 at a3 aw ⊢
  go_at_call 13
  refine (HAW.out _ (HG.out.on aw)).mono ?_
  rintro e wa ⟨rfl, hba⟩
  have B3 := hid (a3.onto hba)
  have HW := hid (vonto aw hba)
  clear a3 aw hba HAW HG
  obtain ⟨q0, q1, q2, q3, q4⟩ := B3.out.cells
  have HH1 := hid (heavy_any T _ _ 300 40 wa B3.out.2 (by omega) (by omega))
  simp only [vv] at HH1
  cases hf : fitB T 40 300 with
  | false =>
    rw [hf] at HH1
    simp only [Bool.not_false] at HH1
    go_wp2_with (go_at_call 28; go_must (refine HH1.out.mono ?_; rintro e w1 ⟨rfl, hb1⟩))
    go_ret
    exact ⟨rfl, vonto HW.out hb1⟩
  | true =>
  have hsz : szT T ≤ 300 := by unfold fitB at hf; have := of_decide_eq_true hf; omega
  rw [hf] at HH1
  simp only [Bool.not_true] at HH1
  go_wp2_with fail
  go_at_call 28
  refine HH1.out.mono ?_
  rintro e w1 ⟨rfl, hb1⟩
  have C3 := hid (B3.out.onto hb1)
  have HW1 := hid (vonto HW.out hb1)
  clear q0 q1 q2 q3 q4 HH1 B3 HW hb1 hf
  have HST := hid (str_any key w1 HK.out)
  cases hm : strOkB key with
  | false =>
    rw [hm] at HST
    go_wp2_with (go_at_call 26; go_must (refine HST.out.mono ?_; rintro e w2 ⟨rfl, hb2⟩))
    go_ret
    exact ⟨rfl, vonto HW1.out hb2⟩
  | true =>
  rw [hm] at HST
  go_wp2_with fail
  go_at_call 26
  refine HST.out.mono ?_
  rintro e w2 ⟨rfl, hb2⟩
  have D3 := hid (C3.out.onto hb2)
  have HW2 := hid (vonto HW1.out hb2)
  have HOK := hid hm
  clear HST C3 HW1 hb2 hm
  obtain ⟨q0, q1, q2, q3, q4⟩ := D3.out.cells
  have HRC := hid (rcopy_any (szT T) T (Nat.le_refl _) (by omega) _ _ w2 D3.out.2)
  simp only [vv] at HRC
  go_wp2_with fail
  go_at_call 29
  refine HRC.out.mono ?_
  rintro e w3 ⟨X3, Y3, rfl, hs3, hb3⟩
  obtain ⟨o3, n3, c3, o4, n4, c4, rfl, rfl⟩ := hv_slices hs3.hv
  have A4 := hid ((D3.out.onto hb3).onto (valloc_bel (Below.refl _ _) (.cells #[.int .i64 T.kd, .int .i64 T.nm, .string T.st, .slice o3 n3 c3, .slice o4 n4 c4] 28)))
  have B4 := hid (bx_new hs3.hv 28)
  have HW4 := hid (valloc_bel (vonto HW2.out hb3) (.cells #[.int .i64 T.kd, .int .i64 T.nm, .string T.st, .slice o3 n3 c3, .slice o4 n4 c4] 28))
  clear hs3 hb3 HRC D3 HW2 q0 q1 q2 q3 q4
  obtain ⟨q0, q1, q2, q3, q4⟩ := A4.out.cells
  go_wp2_with fail
  obtain ⟨W3, hW3⟩ : ∃ W, W = w3.alloc (.cells #[.int .i64 T.kd, .int .i64 T.nm, .string T.st, .slice o3 n3 c3, .slice o4 n4 c4] 28) := ⟨_, rfl⟩
  have hz3 : W3.heap.size = w3.heap.size + 1 := by rw [hW3, World.size_alloc]
  rw [← hW3, ← hz3]
  rw [← hW3] at A4 B4 HW4 q0 q1 q2 q3 q4
  clear hW3
  obtain ⟨bb, hbb⟩ : ∃ b, b = w3.heap.size := ⟨_, rfl⟩
  rw [← hbb] at B4 hz3 ⊢
  clear hbb
  have HL := hid (list_two W3 T _ _ A4.out.2 (by omega))
  go_at_call 30
  refine HL.out.mono ?_
  rintro e w4 ⟨o5, n5, c5, rfl, hf4, hb4⟩
  have hal4 := valloc_bel (Below.refl w4.heap.size w4) (.cells #[.int .i64 5, .int .i64 0, .string ⟨#[]⟩, .slice o5 n5 c5, .slice none 0 0] 28)
  have BW4 := hid (vonto hb4 hal4)
  have FL := hid (hf4.onto (fun k _ hk => Below.heap_alloc w4 (.cells #[.int .i64 5, .int .i64 0, .string ⟨#[]⟩, .slice o5 n5 c5, .slice none 0 0] 28) k hk))
  have XL : Hid (Bx5 (w4.alloc (.cells #[.int .i64 5, .int .i64 0, .string ⟨#[]⟩, .slice o5 n5 c5, .slice none 0 0] 28)) w4.heap.size (.int .i64 5) (.int .i64 0) (.string ⟨#[]⟩) (.slice o5 n5 c5) (.slice none 0 0)) := ⟨by simp, by simp, by simp, by simp, by simp⟩
  have hge4 := hb4.size
  clear HL hf4 hb4 hal4 q0 q1 q2 q3 q4
  obtain ⟨q0, q1, q2, q3, q4⟩ := (A4.out.onto BW4.out).cells
  go_wp2_with fail
  obtain ⟨W4, hW4⟩ : ∃ W, W = w4.alloc (.cells #[.int .i64 5, .int .i64 0, .string ⟨#[]⟩, .slice o5 n5 c5, .slice none 0 0] 28) := ⟨_, rfl⟩
  have hz4 : W4.heap.size = w4.heap.size + 1 := by rw [hW4, World.size_alloc]
  rw [← hW4, ← hz4]
  rw [← hW4] at BW4 FL XL q0 q1 q2 q3 q4
  clear hW4
  obtain ⟨bl, hbl⟩ : ∃ b, b = w4.heap.size := ⟨_, rfl⟩
  rw [← hbl] at FL XL hz4 hge4 ⊢
  clear hbl
  have HM := hid (map_one W4 key T _ _ (A4.out.onto BW4.out).2 HOK.out HK.out (by omega))
  go_at_call 25
  refine HM.out.mono ?_
  rintro e w5 ⟨o6, n6, c6, o7, n7, c7, rfl, hf5, hb5⟩
  have hal5 := valloc_bel (Below.refl w5.heap.size w5) (.cells #[.int .i64 6, .int .i64 0, .string ⟨#[]⟩, .slice o6 n6 c6, .slice o7 n7 c7] 28)
  have hb5' := vonto hb5 hal5
  have BW5 := hid (vonto BW4.out hb5')
  have FL5 := hid (FL.out.onto (fun k _ hk => hb5'.block k (by omega)))
  have XL5 := hid (XL.out.same (hb5'.block _ (by omega)))
  have FM := hid (hf5.onto (fun k _ hk => Below.heap_alloc w5 (.cells #[.int .i64 6, .int .i64 0, .string ⟨#[]⟩, .slice o6 n6 c6, .slice o7 n7 c7] 28) k hk))
  have XM : Hid (Bx5 (w5.alloc (.cells #[.int .i64 6, .int .i64 0, .string ⟨#[]⟩, .slice o6 n6 c6, .slice o7 n7 c7] 28)) w5.heap.size (.int .i64 6) (.int .i64 0) (.string ⟨#[]⟩) (.slice o6 n6 c6) (.slice o7 n7 c7)) := ⟨by simp, by simp, by simp, by simp, by simp⟩
  have hge5 := hb5.size
  clear HM hf5 hb5 hb5' hal5 q0 q1 q2 q3 q4 FL XL BW4
  obtain ⟨q0, q1, q2, q3, q4⟩ := (A4.out.onto BW5.out).cells
  go_wp2_with fail
  obtain ⟨W5, hW5⟩ : ∃ W, W = w5.alloc (.cells #[.int .i64 6, .int .i64 0, .string ⟨#[]⟩, .slice o6 n6 c6, .slice o7 n7 c7] 28) := ⟨_, rfl⟩
  have hz5 : W5.heap.size = w5.heap.size + 1 := by rw [hW5, World.size_alloc]
  rw [← hW5]
  rw [← hW5] at BW5 FL5 XL5 FM XM q0 q1 q2 q3 q4
  clear hW5
  obtain ⟨bm, hbm⟩ : ∃ b, b = w5.heap.size := ⟨_, rfl⟩
  rw [← hbm] at FM XM hz5 hge5 ⊢
  clear hbm
  have HC := hid (vcopy_any (szT T) T (Nat.le_refl _) (by omega) _ _ W5 (A4.out.onto BW5.out).2)
  simp only [vv] at HC
  go_at_call 31
  refine HC.out.mono ?_
  rintro e w6 ⟨X6, Y6, rfl, hf6, hb6⟩
  obtain ⟨o8, n8, c8, o9, n9, c9, rfl, rfl⟩ := hv_slices hf6.hv
  have hal6 := valloc_bel (Below.refl w6.heap.size w6) (.cells #[.int .i64 T.kd, .int .i64 T.nm, .string T.st, .slice o8 n8 c8, .slice o9 n9 c9] 28)
  have hb6' := vonto hb6 hal6
  have BW6 := hid (vonto BW5.out hb6')
  have FL6 := hid (FL5.out.onto (fun k _ hk => hb6'.block k (by omega)))
  have XL6 := hid (XL5.out.same (hb6'.block _ (by omega)))
  have FM6 := hid (FM.out.onto (fun k _ hk => hb6'.block k (by omega)))
  have XM6 := hid (XM.out.same (hb6'.block _ (by omega)))
  have FC := hid (hf6.onto (fun k _ hk => Below.heap_alloc w6 (.cells #[.int .i64 T.kd, .int .i64 T.nm, .string T.st, .slice o8 n8 c8, .slice o9 n9 c9] 28) k hk))
  have XC : Hid (Bx5 (w6.alloc (.cells #[.int .i64 T.kd, .int .i64 T.nm, .string T.st, .slice o8 n8 c8, .slice o9 n9 c9] 28)) w6.heap.size (.int .i64 T.kd) (.int .i64 T.nm) (.string T.st) (.slice o8 n8 c8) (.slice o9 n9 c9)) := ⟨by simp, by simp, by simp, by simp, by simp⟩
  have hge6 := hb6.size
  clear HC hf6 hb6 hb6' hal6 q0 q1 q2 q3 q4 FL5 XL5 BW5 FM XM
  obtain ⟨l0, l1, l2, l3, l4⟩ := XL6.out
  go_wp2_with fail
  obtain ⟨W6, hW6⟩ : ∃ W, W = w6.alloc (.cells #[.int .i64 T.kd, .int .i64 T.nm, .string T.st, .slice o8 n8 c8, .slice o9 n9 c9] 28) := ⟨_, rfl⟩
  have hz6 : W6.heap.size = w6.heap.size + 1 := by rw [hW6, World.size_alloc]
  rw [← hW6]
  rw [← hW6] at BW6 FL6 XL6 FM6 XM6 FC XC l0 l1 l2 l3 l4
  clear hW6
  obtain ⟨bc, hbc⟩ : ∃ b, b = w6.heap.size := ⟨_, rfl⟩
  rw [← hbc] at FC XC hz6 hge6 ⊢
  clear hbc
  have HS1 := hid (spoil_any _ _ (Nat.le_refl _) _ _ W6 _ _ FL6.out (by omega))
  simp only [vv, VT.kd, VT.nm, VT.st] at HS1
  go_at_call 32
  refine HS1.out.mono ?_
  rintro e w7 ⟨rfl, hc7⟩
  have hs7 := hc7.size
  have BW7 := hid (BW6.out.trans (hc7.below (by omega) BW6.out.size))
  have FM7 := hid (FM6.out.onto (fun k hk1 hk2 => hc7.block k (by omega) (by omega)))
  have XM7 := hid (XM6.out.same (hc7.block _ (by omega) (by omega)))
  have FC7 := hid (FC.out.onto (fun k hk1 hk2 => hc7.block k (by omega) (by omega)))
  have XC7 := hid (XC.out.same (hc7.block _ (by omega) (by omega)))
  clear HS1 hc7 l0 l1 l2 l3 l4 FL6 XL6 FM6 XM6 FC XC BW6
  obtain ⟨l0, l1, l2, l3, l4⟩ := XM7.out
  go_wp2_with fail
  have HS2 := hid (spoil_any _ _ (Nat.le_refl _) _ _ w7 _ _ FM7.out (by omega))
  simp only [vv, VT.kd, VT.nm, VT.st] at HS2
  go_at_call 32
  refine HS2.out.mono ?_
  rintro e w8 ⟨rfl, hc8⟩
  have hs8 := hc8.size
  have BW8 := hid (BW7.out.trans (hc8.below (by omega) BW7.out.size))
  have FC8 := hid (FC7.out.onto (fun k hk1 hk2 => hc8.block k (by omega) (by omega)))
  have XC8 := hid (XC7.out.same (hc8.block _ (by omega) (by omega)))
  clear HS2 hc8 l0 l1 l2 l3 l4 FM7 XM7 FC7 XC7 BW7
  obtain ⟨l0, l1, l2, l3, l4⟩ := XC8.out
  go_wp2_with fail
  have HS3 := hid (spoil_any _ _ (Nat.le_refl _) _ _ w8 _ _ FC8.out (by omega))
  simp only [vv] at HS3
  go_at_call 32
  refine HS3.out.mono ?_
  rintro e w9 ⟨rfl, hc9⟩
  have BW9 := hid (BW8.out.trans (hc9.below (by omega) BW8.out.size))
  clear HS3 hc9 l0 l1 l2 l3 l4 FC8 XC8 BW8
  obtain ⟨q0, q1, q2, q3, q4⟩ := (A4.out.onto BW9.out).cells
  obtain ⟨r0, r1, r2, r3, r4⟩ := (B4.out.onto BW9.out).cells
  have HSM := hid (same_any (szT T) T T _ _ _ _ false w9 (Nat.le_refl _) (A4.out.onto BW9.out).2 (B4.out.onto BW9.out).2)
  rw [like_self] at HSM
  simp only [vv] at HSM
  go_wp2_with (go_at_call 17; go_must (refine HSM.out.mono ?_; rintro e w10 ⟨rfl, hb10⟩))
  go_ret
  exact ⟨rfl, vonto (vonto HW4.out BW9.out) hb10⟩
end Go.Proofs.YtgfkhnpbkdddbaaGreatDoor
