/- The statement JlexKnown: walked. -/
import Derived.Test.YtoamndiblckdlaaGreatDoorLexTail
import Derived.Test.YtoamndiblckdlaaGreatDoorJxTwo
import Derived.Laws.OwnMore
namespace Go.Proofs.YtoamndiblckdlaaGreatDoor
open Go.RowKit

/-- what Cut answers at a text that is wrong -/
theorem Tryz.jerr_of (H : Tryz.JHas) (t : ByteArray) (er ea : Nat) (h : cutA t.data.toList = ([], er, ea)) (he : er ≠ 0) (w : World) (ht : t.size ≤ 1000000) (hg : GlobU w) :
    Calls Tryz.prog 9 #[.string t] w fun e w' => ∃ (v : Value) (f1 f2 f3 : Nat), e = .returned (.tuple #[v, .agg #[.int .i64 (er : Nat), .int .i64 (f1 : Nat), .int .i64 (f2 : Nat), .int .i64 (f3 : Nat)]]) ∧ Hid (f1 = clN t.size (ea : Nat)) ∧ Below w.heap.size w w' :=
  (H t w ht hg).mono fun e w' hp => by
    obtain ⟨v, rfl, _, h3⟩ := hp
    refine ⟨v, clN t.size (ea : Nat), ofL t (ea : Nat), ofC t (ea : Nat), ?_, rfl, h3⟩
    rw [h]; unfold jfV; rw [if_neg he]; rfl
theorem Tryz.kmade (n : Nat) (hn : n ≤ 100000) (w : World) : ∃ M : Array Value, (Instr.makeSlice 29 (.int .i64 (n : Int)) (.int .i64 (n : Int))).run Tryz.prog w = .ok (.slice (some ⟨w.heap.size, 0, none⟩) n n) (w.alloc (.cells M 5))
    ∧ (convert 29 9 (.slice (some ⟨w.heap.size, 0, none⟩) n n)).run Tryz.prog (w.alloc (.cells M 5)) = .ok (.string (strOfNums (List.replicate n 0))) (w.alloc (.cells M 5)) := by
  obtain ⟨i, hi, hz, hs, hb⟩ := info_parts Tryz.info_u8
  have h1 := run_make (P := Tryz.prog) w 29 5 i _ Tryz.underlying29 hi hz .i64 .i64 (n : Int) (n : Int) (by omega) (Int.le_refl _) (by rw [hb]; omega) (by omega)
  obtain ⟨M, hM⟩ : ∃ M, madeCells (Value.int .u8 0).cells ((n : Int).toNat * i.size) = M := ⟨_, rfl⟩
  have hM2 : M.toList = List.replicate n (Value.int .u8 0) := by
    rw [← hM, hs, Int.toNat_natCast, Nat.mul_one]; exact toList_madeCells_one (Value.int .u8 0) _
  rw [hM, Int.toNat_natCast] at h1
  refine ⟨M, h1, ?_⟩
  refine run_convert_bytes_arg _ 29 5 Tryz.underlying29 Tryz.underlying5 _ 0 n n (List.replicate n 0) (by rw [List.length_replicate]) (fun j hj => ?_) 9 Tryz.underlying9
  have h6 := World.cell?_alloc_mark w M 5 (0, 0) j
  have h7 : M[j]? = some (Value.int .u8 0) := by rw [← Array.getElem?_toList, hM2, List.getElem?_replicate, if_pos hj]
  have h8 : (List.replicate n (0 : Int)).getD j 0 = 0 := by rw [List.getD_eq_getElem?_getD, List.getElem?_replicate, if_pos hj]; rfl
  rw [Nat.zero_add, h8]
  exact h6.trans h7
theorem kbig (n : Nat) : (strOfNums (List.replicate n 0)).size = n := by
  rw [← size_list]; unfold strOfNums; simp
set_option maxRecDepth 100000 in
theorem jk1 : cutA (⟨#[255]⟩ : ByteArray).data.toList = ([], 3, 0) := by kernel_rfl
set_option maxRecDepth 100000 in
theorem jk2 : cutA (⟨#[49, 101, 50, 48, 48, 48, 48, 48]⟩ : ByteArray).data.toList = ([], 6, 0) := by kernel_rfl
set_option maxRecDepth 100000 in
theorem jk3 : cutA (⟨#[48, 49]⟩ : ByteArray).data.toList = ([], 4, 0) := by kernel_rfl
set_option maxRecDepth 100000 in
theorem jk4 : cutA (⟨#[110, 117, 108]⟩ : ByteArray).data.toList = ([], 4, 0) := by kernel_rfl
set_option maxRecDepth 100000 in
set_option maxHeartbeats 4000000 in
theorem Tryz.jlexKnown_walk (w : World) (hg : GlobU w) : Calls Tryz.prog 3 #[] w fun e w' => e = .returned (.bool true) ∧ Below w.heap.size w w' := by
  have HG := hid hg
  clear hg
  have CA := hid (fun X h => Tryz.awake_of Tryz.jhas X h)
  obtain ⟨n, hn⟩ : ∃ n : Nat, n = 65537 := ⟨_, rfl⟩
  have e0 : cutA (strOfNums (List.replicate n 0)).data.toList = ([], 2, n) := by
    unfold cutA; rw [size_list, kbig, if_pos (by omega)]
  have C0 := hid (fun X h => Tryz.jerr_of Tryz.jhas (strOfNums (List.replicate n 0)) 2 n e0 (by decide) X (by rw [kbig]; omega) h)
  clear e0
  have HM := hid (fun X => Tryz.kmade n (by omega) X)
  generalize strOfNums (List.replicate n 0) = big at C0 HM
  subst hn
  have C1 := hid (fun X h => Tryz.jerr_of Tryz.jhas ⟨#[255]⟩ 3 0 jk1 (by decide) X (by decide) h)
  have C2 := hid (fun X h => Tryz.jerr_of Tryz.jhas ⟨#[49, 101, 50, 48, 48, 48, 48, 48]⟩ 6 0 jk2 (by decide) X (by decide) h)
  have C3 := hid (fun X h => Tryz.jerr_of Tryz.jhas ⟨#[48, 49]⟩ 4 0 jk3 (by decide) X (by decide) h)
  have C4 := hid (fun X h => Tryz.jerr_of Tryz.jhas ⟨#[110, 117, 108]⟩ 4 0 jk4 (by decide) X (by decide) h)
  go_enter Tryz.func3, Tryz.ntmps3
  go_wp2_with fail
  go_at_call 8
  refine (CA.out _ HG.out).mono ?_
  rintro e w0 ⟨rfl, hb0⟩
  have HB0 := hid hb0
  clear hb0
  obtain ⟨M, hm0, hm2⟩ := HM.out w0
  have hm1 : (Instr.makeSlice 29 (.int .i64 65537) (.int .i64 65537)).run Tryz.prog w0 = .ok (.slice (some ⟨w0.heap.size, 0, none⟩) 65537 65537) (w0.alloc (.cells M 5)) := hm0
  clear hm0
  go_wp2_with fail
  go_at_call 9
  refine (C0.out _ (HG.out.on (lalloc HB0.out _))).mono ?_
  rintro e w1 ⟨v0, f0a, f0b, f0c, rfl, -, hb1⟩
  have HB1 := hid (lonto (lalloc HB0.out _) hb1)
  have HX1 := hid hb1
  clear hb1
  clear hm1 hm2
  go_wp2_with fail
  go_at_call 9
  refine (C1.out _ (HG.out.on (lalloc HB1.out _))).mono ?_
  rintro e w2 ⟨v1, f1a, f1b, f1c, rfl, -, hb2⟩
  have HB2 := hid (lonto (lalloc HB1.out _) hb2)
  have HX2 := hid hb2
  clear hb2
  go_wp2_with fail
  go_at_call 9
  refine (C2.out _ (HG.out.on (lalloc HB2.out _))).mono ?_
  rintro e w3 ⟨v2, f2a, f2b, f2c, rfl, -, hb3⟩
  have HB3 := hid (lonto (lalloc HB2.out _) hb3)
  have HX3 := hid hb3
  clear hb3
  go_wp2_with fail
  go_at_call 9
  refine (C3.out _ (HG.out.on (lalloc HB3.out _))).mono ?_
  rintro e w4 ⟨v3, f3a, f3b, f3c, rfl, -, hb4⟩
  have HB4 := hid (lonto (lalloc HB3.out _) hb4)
  have HX4 := hid hb4
  clear hb4
  go_wp2_with fail
  go_at_call 9
  refine (C4.out _ (HG.out.on (lalloc HB4.out _))).mono ?_
  rintro e w5 ⟨v4, f4a, f4b, f4c, rfl, -, hb5⟩
  have HB5 := hid (lonto (lalloc HB4.out _) hb5)
  have HX5 := hid hb5
  clear hb5
  have c0 : (w5.alloc (.cells #[.int .i64 4, .int .i64 (f4a : Nat), .int .i64 (f4b : Nat), .int .i64 (f4c : Nat)] 26)).cell? ⟨w1.heap.size, 0, none⟩ = some (.int .i64 2) := lkeep (lalloc (Below.refl _ _) _) (lkeep HX5.out (lkeep (lalloc (Below.refl _ _) _) (lkeep HX4.out (lkeep (lalloc (Below.refl _ _) _) (lkeep HX3.out (lkeep (lalloc (Below.refl _ _) _) (lkeep HX2.out (new_cells w1 [.int .i64 2, .int .i64 (f0a : Nat), .int .i64 (f0b : Nat), .int .i64 (f0c : Nat)] 26 0 _ rfl))))))))
  have c1 : (w5.alloc (.cells #[.int .i64 4, .int .i64 (f4a : Nat), .int .i64 (f4b : Nat), .int .i64 (f4c : Nat)] 26)).cell? ⟨w2.heap.size, 0, none⟩ = some (.int .i64 3) := lkeep (lalloc (Below.refl _ _) _) (lkeep HX5.out (lkeep (lalloc (Below.refl _ _) _) (lkeep HX4.out (lkeep (lalloc (Below.refl _ _) _) (lkeep HX3.out (new_cells w2 [.int .i64 3, .int .i64 (f1a : Nat), .int .i64 (f1b : Nat), .int .i64 (f1c : Nat)] 26 0 _ rfl))))))
  have c2 : (w5.alloc (.cells #[.int .i64 4, .int .i64 (f4a : Nat), .int .i64 (f4b : Nat), .int .i64 (f4c : Nat)] 26)).cell? ⟨w3.heap.size, 0, none⟩ = some (.int .i64 6) := lkeep (lalloc (Below.refl _ _) _) (lkeep HX5.out (lkeep (lalloc (Below.refl _ _) _) (lkeep HX4.out (new_cells w3 [.int .i64 6, .int .i64 (f2a : Nat), .int .i64 (f2b : Nat), .int .i64 (f2c : Nat)] 26 0 _ rfl))))
  have c3 : (w5.alloc (.cells #[.int .i64 4, .int .i64 (f4a : Nat), .int .i64 (f4b : Nat), .int .i64 (f4c : Nat)] 26)).cell? ⟨w4.heap.size, 0, none⟩ = some (.int .i64 4) := lkeep (lalloc (Below.refl _ _) _) (lkeep HX5.out (new_cells w4 [.int .i64 4, .int .i64 (f3a : Nat), .int .i64 (f3b : Nat), .int .i64 (f3c : Nat)] 26 0 _ rfl))
  have c4 : (w5.alloc (.cells #[.int .i64 4, .int .i64 (f4a : Nat), .int .i64 (f4b : Nat), .int .i64 (f4c : Nat)] 26)).cell? ⟨w5.heap.size, 0, none⟩ = some (.int .i64 4) := new_cells w5 [.int .i64 4, .int .i64 (f4a : Nat), .int .i64 (f4b : Nat), .int .i64 (f4c : Nat)] 26 0 _ rfl
  clear HX1 HX2 HX3 HX4 HX5
  go_wp2_with fail
  go_ret
  exact ⟨rfl, lalloc HB5.out _⟩
end Go.Proofs.YtoamndiblckdlaaGreatDoor
